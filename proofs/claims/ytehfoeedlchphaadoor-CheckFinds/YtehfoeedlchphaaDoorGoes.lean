/- What tree.Consistency answers: the proof of a beginning. -/
import Derived.Test.YtehfoeedlchphaaDoorGrown
import Derived.Test.YtehfoeedlchphaaDoorBuilds
namespace Go.Proofs.YtehfoeedlchphaaDoor
open Go.RowKit Sums
set_option linter.unusedVariables false
set_option linter.unusedSimpArgs false
attribute [local go_sem] store_func

/-- The function that proves, as a value. -/
def FC (gp gf : Nat) : Value := .func (.func 37) #[] #[.pointer (some ⟨gp, 0, none⟩), .pointer (some ⟨gf, 0, none⟩)]

set_option maxHeartbeats 2000000 in
theorem proveC_any (n : Nat) (g o len cap m : Nat) (known : Bool) (l acc : List (List UInt8)) (B gp gf : Nat) (v : Value) (w : World) (hn : len = n) (hR : LReads w (some ⟨g, o, none⟩) len cap l) (hg : g < B) (hm1 : 1 ≤ m) (hm : m ≤ len)
    (hp : B ≤ gp) (hne : gp ≠ gf) (hac : acc.length + len ≤ 1000000) (hBw : B ≤ w.heap.size) (hH : Holds B gp gf 64 (FC gp gf) v acc w) (hK : Table 0 w) (hKB : 0 < B) :
    Calls Tryd.prog 37 #[.slice (some ⟨g, o, none⟩) len cap, .int .i64 m, .bool known, .pointer (some ⟨gp, 0, none⟩), .pointer (some ⟨gf, 0, none⟩)] w fun e w' =>
      e = .returned (.tuple #[]) ∧ (∃ v', Holds B gp gf 64 (FC gp gf) v' (acc ++ goes l m known) w') ∧ Below B w w' := by
  induction n using Nat.strongRecOn generalizing g o len cap m known l acc v w with
  | _ n ih =>
    subst hn
    have htf : 64 ≠ 23 := by decide
    have hlen := hR.1
    have hmx : len ≤ 9223372036854775807 := by have := hR.2.2.2.1; unfold maxLen at this; omega
    have low : ∀ g' o', some (⟨g, o, none⟩ : Addr) = some ⟨g', o', none⟩ → 0 < len → g' < B := fun g' o' e _ => by cases e; exact hg
    by_cases hme : m = len
    · have hde : (decide ((m : Int) = (len : Int))) = true := by rw [decide_eq_true_eq]; omega
      have hde2 : ((m : Int) == (len : Int)) = true := by rw [beq_iff_eq]; omega
      cases known
      · have HE : Hid (acc ++ goes l m false = acc ++ [root l]) := by
          show _ = _
          rw [goes_all l m (by omega)]
        obtain ⟨D, HD⟩ : ∃ D, Hid (D = (cellsOf (root l)).toArray) := ⟨_, (rfl : (cellsOf (root l)).toArray = _)⟩
        have hdd : (root l).length = 32 := root_length sumD_length _ hR.2.1
        have RR : Hid (∀ W, Below B w W → Calls Tryd.prog 20 #[.slice (some ⟨g, o, none⟩) len cap] W fun e w' => e = .returned (.agg D) ∧ Below W.heap.size W w') := fun W hb =>
          root_any _ _ _ _ l W rfl (hR.below hb low) (table_low hK hb hKB) D HD
        have hsh : acc.length + 1 ≤ 1000000 := by omega
        have HH : Hid (Holds B gp gf 64 (FC gp gf) v acc w.drew) := hH.drew
        have hB : Below B w w.drew := (Below.refl _ _).drew
        obtain ⟨v2, hv2⟩ : ∃ v2, v2 = v := ⟨_, rfl⟩
        obtain ⟨acc2, ha2⟩ : ∃ a2, a2 = acc := ⟨_, rfl⟩
        rw [← hv2, ← ha2] at HH
        rw [← ha2] at HE hsh
        rw [ha2] at HE
        subst hv2 ha2
        subst hme
        clear hK hR ih hH hlen low hac
        go_enter Tryd.func37, Tryd.ntmps37
        go_wp2
        refine wp_region_held_drew (S := (fun _ => True)) (by kernel_rfl) trivial (fun hHeld => ?_)
        refine wpAnyH_take (i := 1) (oi := { dst := some 17, op := Op.move (Operand.tmp 0), type := 24, pos := "tree.go:75", after := #[], guard := none }) (v := .slice (some ⟨g, o, none⟩) m cap) rfl (by kernel_rfl) (by kernel_rfl) (by kernel_rfl) (fun _ _ _ h => h) (Or.inl ⟨by rfl, by intro W hSw; go_simp⟩) hHeld ?_
        try simp only [Act.put, List.setIfInBounds_toArray, List.set_cons_zero, List.set_cons_succ]
        refine wpAnyH_ready (rs := [0, 2]) (by kernel_rfl) (by simp) ?_
        refine (AllReadyH.cons (o := { dst := some 16, op := Op.load 24 (Operand.tmp 3), type := 24, pos := "tree.go:75", after := #[], guard := none }) rfl (fun K hK => ?_) (AllReadyH.cons (o := { dst := some 18, op := Op.call { callee := Callee.value (Operand.func 20), args := #[Operand.tmp 17], argTypes := #[24] }, type := 23, pos := "tree.go:75", after := #[{ on := 1, ground := Ground.data }], guard := none }) rfl (fun K hK => ?_) AllReadyH.nil))
        · have hc := cell_of_one HH.out.proof
          go_simp
          clear hc
          refine hK.out _ _ trivial (fun hHeld => ?_)
          clear hK K
          try simp only [Act.put, List.setIfInBounds_toArray, List.set_cons_zero, List.set_cons_succ]
          refine wpAnyH_ready (rs := [2]) (by kernel_rfl) (by simp) ?_
          refine (AllReadyH.cons (o := { dst := some 18, op := Op.call { callee := Callee.value (Operand.func 20), args := #[Operand.tmp 17], argTypes := #[24] }, type := 23, pos := "tree.go:75", after := #[{ on := 1, ground := Ground.data }], guard := none }) rfl (fun K hK => ?_) AllReadyH.nil)
          go_simp
          refine (RR.out _ hB).mono ?_
          rintro e w2 ⟨rfl, hb2⟩
          replace HH := hidk (HH.out.keep hb2)
          replace hB := hB.trans (hb2.mono (Nat.le_trans hBw hB.size))
          go_wp2_with fail
          refine hK.out _ _ trivial (fun hHeld => ?_)
          clear hK K
          try simp only [Act.put, List.setIfInBounds_toArray, List.set_cons_zero, List.set_cons_succ]
          refine wpAnyH_ready (rs := [3]) (by kernel_rfl) (by simp) ?_
          refine (AllReadyH.cons (o := { dst := some 19, op := Op.buildSlice 24 1 #[(0, Operand.tmp 18)], type := 24, pos := "tree.go:75", after := #[{ on := 2, ground := Ground.data }], guard := none }) rfl (fun K hK => ?_) AllReadyH.nil)
          refine step_build_run (by rfl) 24 1 _ rfl #[(0, .agg D)] rfl _ _ (build_one _ _ hdd D HD) ?_
          obtain ⟨gn, cn, w4, hrun, q1, q2, q3, q4⟩ := HH.out.append htf (Nat.le_trans hBw hB.size) hsh _ hdd D HD
          replace HH := hidk (HH.out.keep ((Below.refl _ _).alloc (Nat.le_refl _) (.cells D 23)))
          refine hK.out _ _ trivial (fun hHeld => ?_)
          clear hK K
          try simp only [Act.put, List.setIfInBounds_toArray, List.set_cons_zero, List.set_cons_succ]
          refine wpAnyH_ready (rs := [4]) (by kernel_rfl) (by simp) ?_
          refine (AllReadyH.cons (o := { dst := some 20, op := Op.call { callee := Callee.builtin Builtin.append, args := #[Operand.tmp 16, Operand.tmp 19], argTypes := #[24, 24] }, type := 24, pos := "tree.go:75", after := #[{ on := 0, ground := Ground.data }, { on := 3, ground := Ground.data }, { on := 2, ground := Ground.chain }], guard := none }) rfl (fun K hK => ?_) AllReadyH.nil)
          refine step_append_run rfl (.tmp 16) (.tmp 19) 24 24 rfl v2 _ _ w4 rfl rfl hrun ?_
          refine hK.out _ _ trivial (fun hHeld => ?_)
          clear hK K
          try simp only [Act.put, List.setIfInBounds_toArray, List.set_cons_zero, List.set_cons_succ]
          refine wpAnyH_ready (rs := [5]) (by kernel_rfl) (by simp) ?_
          refine (AllReadyH.cons (o := { dst := none, op := Op.store 24 (Operand.tmp 3) (Operand.tmp 20), type := 0, pos := "tree.go:75", after := #[{ on := 4, ground := Ground.data }, { on := 4, ground := Ground.chain }, { on := 0, ground := Ground.phase }, { on := 1, ground := Ground.phase }, { on := 2, ground := Ground.phase }, { on := 3, ground := Ground.phase }, { on := 4, ground := Ground.phase }], guard := none }) rfl (fun K hK => ?_) AllReadyH.nil)
          have hc := cell_of_one q1
          have hfz := free_of_one q1
          go_simp
          clear hc hfz
          refine hK.out _ _ trivial (fun hHeld => ?_)
          clear hK K
          try simp only [Act.put, List.setIfInBounds_toArray, List.set_cons_zero, List.set_cons_succ]
          refine wpAnyH_done (by kernel_rfl) ?_ _
          go_wp2
          first | go_end0 | (refine bodyPost_ret (results_none rfl _ _ _) rfl ?_)
          refine ⟨rfl, ⟨.slice (some ⟨gn, 0, none⟩) (acc2.length + 1) cn, ?_⟩, (hB.trans q4).setCell (by simpa using hp) _⟩
          rw [HE.out]
          exact Holds.put hne q1 q2 q3
        · go_simp
          refine (RR.out _ hB).mono ?_
          rintro e w2 ⟨rfl, hb2⟩
          replace HH := hidk (HH.out.keep hb2)
          replace hB := hB.trans (hb2.mono (Nat.le_trans hBw hB.size))
          go_wp2_with fail
          refine hK.out _ _ trivial (fun hHeld => ?_)
          clear hK K
          try simp only [Act.put, List.setIfInBounds_toArray, List.set_cons_zero, List.set_cons_succ]
          refine wpAnyH_ready (rs := [0, 3]) (by kernel_rfl) (by simp) ?_
          refine (AllReadyH.cons (o := { dst := some 16, op := Op.load 24 (Operand.tmp 3), type := 24, pos := "tree.go:75", after := #[], guard := none }) rfl (fun K hK => ?_) (AllReadyH.cons (o := { dst := some 19, op := Op.buildSlice 24 1 #[(0, Operand.tmp 18)], type := 24, pos := "tree.go:75", after := #[{ on := 2, ground := Ground.data }], guard := none }) rfl (fun K hK => ?_) AllReadyH.nil))
          · have hc := cell_of_one HH.out.proof
            go_simp
            clear hc
            refine hK.out _ _ trivial (fun hHeld => ?_)
            clear hK K
            try simp only [Act.put, List.setIfInBounds_toArray, List.set_cons_zero, List.set_cons_succ]
            refine wpAnyH_ready (rs := [3]) (by kernel_rfl) (by simp) ?_
            refine (AllReadyH.cons (o := { dst := some 19, op := Op.buildSlice 24 1 #[(0, Operand.tmp 18)], type := 24, pos := "tree.go:75", after := #[{ on := 2, ground := Ground.data }], guard := none }) rfl (fun K hK => ?_) AllReadyH.nil)
            refine step_build_run (by rfl) 24 1 _ rfl #[(0, .agg D)] rfl _ _ (build_one _ _ hdd D HD) ?_
            obtain ⟨gn, cn, w4, hrun, q1, q2, q3, q4⟩ := HH.out.append htf (Nat.le_trans hBw hB.size) hsh _ hdd D HD
            replace HH := hidk (HH.out.keep ((Below.refl _ _).alloc (Nat.le_refl _) (.cells D 23)))
            refine hK.out _ _ trivial (fun hHeld => ?_)
            clear hK K
            try simp only [Act.put, List.setIfInBounds_toArray, List.set_cons_zero, List.set_cons_succ]
            refine wpAnyH_ready (rs := [4]) (by kernel_rfl) (by simp) ?_
            refine (AllReadyH.cons (o := { dst := some 20, op := Op.call { callee := Callee.builtin Builtin.append, args := #[Operand.tmp 16, Operand.tmp 19], argTypes := #[24, 24] }, type := 24, pos := "tree.go:75", after := #[{ on := 0, ground := Ground.data }, { on := 3, ground := Ground.data }, { on := 2, ground := Ground.chain }], guard := none }) rfl (fun K hK => ?_) AllReadyH.nil)
            refine step_append_run rfl (.tmp 16) (.tmp 19) 24 24 rfl v2 _ _ w4 rfl rfl hrun ?_
            refine hK.out _ _ trivial (fun hHeld => ?_)
            clear hK K
            try simp only [Act.put, List.setIfInBounds_toArray, List.set_cons_zero, List.set_cons_succ]
            refine wpAnyH_ready (rs := [5]) (by kernel_rfl) (by simp) ?_
            refine (AllReadyH.cons (o := { dst := none, op := Op.store 24 (Operand.tmp 3) (Operand.tmp 20), type := 0, pos := "tree.go:75", after := #[{ on := 4, ground := Ground.data }, { on := 4, ground := Ground.chain }, { on := 0, ground := Ground.phase }, { on := 1, ground := Ground.phase }, { on := 2, ground := Ground.phase }, { on := 3, ground := Ground.phase }, { on := 4, ground := Ground.phase }], guard := none }) rfl (fun K hK => ?_) AllReadyH.nil)
            have hc := cell_of_one q1
            have hfz := free_of_one q1
            go_simp
            clear hc hfz
            refine hK.out _ _ trivial (fun hHeld => ?_)
            clear hK K
            try simp only [Act.put, List.setIfInBounds_toArray, List.set_cons_zero, List.set_cons_succ]
            refine wpAnyH_done (by kernel_rfl) ?_ _
            go_wp2
            first | go_end0 | (refine bodyPost_ret (results_none rfl _ _ _) rfl ?_)
            refine ⟨rfl, ⟨.slice (some ⟨gn, 0, none⟩) (acc2.length + 1) cn, ?_⟩, (hB.trans q4).setCell (by simpa using hp) _⟩
            rw [HE.out]
            exact Holds.put hne q1 q2 q3
          · refine step_build_run (by rfl) 24 1 _ rfl #[(0, .agg D)] rfl _ _ (build_one _ _ hdd D HD) ?_
            obtain ⟨gn, cn, w4, hrun, q1, q2, q3, q4⟩ := HH.out.append htf (Nat.le_trans hBw hB.size) hsh _ hdd D HD
            replace HH := hidk (HH.out.keep ((Below.refl _ _).alloc (Nat.le_refl _) (.cells D 23)))
            refine hK.out _ _ trivial (fun hHeld => ?_)
            clear hK K
            try simp only [Act.put, List.setIfInBounds_toArray, List.set_cons_zero, List.set_cons_succ]
            refine wpAnyH_ready (rs := [0]) (by kernel_rfl) (by simp) ?_
            refine (AllReadyH.cons (o := { dst := some 16, op := Op.load 24 (Operand.tmp 3), type := 24, pos := "tree.go:75", after := #[], guard := none }) rfl (fun K hK => ?_) AllReadyH.nil)
            have hc := cell_of_one HH.out.proof
            go_simp
            clear hc
            refine hK.out _ _ trivial (fun hHeld => ?_)
            clear hK K
            try simp only [Act.put, List.setIfInBounds_toArray, List.set_cons_zero, List.set_cons_succ]
            refine wpAnyH_ready (rs := [4]) (by kernel_rfl) (by simp) ?_
            refine (AllReadyH.cons (o := { dst := some 20, op := Op.call { callee := Callee.builtin Builtin.append, args := #[Operand.tmp 16, Operand.tmp 19], argTypes := #[24, 24] }, type := 24, pos := "tree.go:75", after := #[{ on := 0, ground := Ground.data }, { on := 3, ground := Ground.data }, { on := 2, ground := Ground.chain }], guard := none }) rfl (fun K hK => ?_) AllReadyH.nil)
            refine step_append_run rfl (.tmp 16) (.tmp 19) 24 24 rfl v2 _ _ w4 rfl rfl hrun ?_
            refine hK.out _ _ trivial (fun hHeld => ?_)
            clear hK K
            try simp only [Act.put, List.setIfInBounds_toArray, List.set_cons_zero, List.set_cons_succ]
            refine wpAnyH_ready (rs := [5]) (by kernel_rfl) (by simp) ?_
            refine (AllReadyH.cons (o := { dst := none, op := Op.store 24 (Operand.tmp 3) (Operand.tmp 20), type := 0, pos := "tree.go:75", after := #[{ on := 4, ground := Ground.data }, { on := 4, ground := Ground.chain }, { on := 0, ground := Ground.phase }, { on := 1, ground := Ground.phase }, { on := 2, ground := Ground.phase }, { on := 3, ground := Ground.phase }, { on := 4, ground := Ground.phase }], guard := none }) rfl (fun K hK => ?_) AllReadyH.nil)
            have hc := cell_of_one q1
            have hfz := free_of_one q1
            go_simp
            clear hc hfz
            refine hK.out _ _ trivial (fun hHeld => ?_)
            clear hK K
            try simp only [Act.put, List.setIfInBounds_toArray, List.set_cons_zero, List.set_cons_succ]
            refine wpAnyH_done (by kernel_rfl) ?_ _
            go_wp2
            first | go_end0 | (refine bodyPost_ret (results_none rfl _ _ _) rfl ?_)
            refine ⟨rfl, ⟨.slice (some ⟨gn, 0, none⟩) (acc2.length + 1) cn, ?_⟩, (hB.trans q4).setCell (by simpa using hp) _⟩
            rw [HE.out]
            exact Holds.put hne q1 q2 q3
      · rw [goes_known l m (by omega), List.append_nil]
        have HH : Hid (Holds B gp gf 64 (FC gp gf) v acc w) := hH
        subst hme
        clear hK hR ih hH hlen low
        go_enter Tryd.func37, Tryd.ntmps37
        go_wp2
        refine bodyPost_ret (results_none rfl _ _ _) rfl ?_
        exact ⟨rfl, ⟨_, HH.out⟩, Below.refl _ _⟩
    · have h2 : 2 ≤ len := by omega
      obtain ⟨k, hk⟩ : ∃ k, k = split len := ⟨_, rfl⟩
      have hkl := split_lt len h2
      have hkp := split_pos len h2
      rw [← hk] at hkl hkp
      have hcl := hR.2.2.1
      have hml := hR.2.2.2.1
      have P : Hid (∀ W, Calls Tryd.prog 36 #[.slice (some ⟨g, o, none⟩) len cap] W fun e w' => e = .returned (.tuple #[.slice (some ⟨g, o, none⟩) k cap, .slice (some ⟨g, o + 32 * k, none⟩) (len - k) (cap - k)]) ∧ Below W.heap.size W w') := fun W => parted_any g o len cap k W hk h2 hcl hml
      by_cases hik : m ≤ k
      · -- the left part
        have HE : Hid (acc ++ goes l m known = (acc ++ goes (l.take k) m known) ++ [root (l.drop k)]) := by
          show _ = _
          rw [goes_left l m known (by omega) (by omega) (by rw [hlen, ← hk]; exact hik), hlen, ← hk, List.append_assoc]
        have IH : Hid (∀ W v, Below B w W → Holds B gp gf 64 (FC gp gf) v acc W → Calls Tryd.prog 37 #[.slice (some ⟨g, o, none⟩) k cap, .int .i64 m, .bool known, .pointer (some ⟨gp, 0, none⟩), .pointer (some ⟨gf, 0, none⟩)] W fun e w' =>
            e = .returned (.tuple #[]) ∧ (∃ v', Holds B gp gf 64 (FC gp gf) v' (acc ++ goes (l.take k) m known) w') ∧ Below B W w') := fun W v hb hh => by
          exact ih k hkl g o k cap m known (l.take k) acc v W rfl ((hR.below hb low).take k (by omega)) hg (by omega) (by omega) (by omega) (Nat.le_trans hBw hb.size) hh (table_low hK hb hKB)
        obtain ⟨D, HD⟩ : ∃ D, Hid (D = (cellsOf (root (l.drop k))).toArray) := ⟨_, (rfl : (cellsOf (root (l.drop k))).toArray = _)⟩
        have hdd : (root (l.drop k)).length = 32 := root_length sumD_length _ (hR.2.1.drop k)
        have RR : Hid (∀ W, Below B w W → Calls Tryd.prog 20 #[.slice (some ⟨g, o + 32 * k, none⟩) (len - k) (cap - k)] W fun e w' => e = .returned (.agg D) ∧ Below W.heap.size W w') := fun W hb =>
          root_any _ _ _ _ (l.drop k) W rfl ((hR.below hb low).drop k (by omega)) (table_low hK hb hKB) D HD
        have hsh : (acc ++ goes (l.take k) m known).length + 1 ≤ 1000000 := by
          have := goes_len (l.take k) m known (by simp only [List.length_take, List.length_drop]; omega)
          simp only [List.length_append, List.length_take, List.length_drop] at this ⊢
          omega
        obtain ⟨acc2, HA2⟩ : ∃ x, Hid (x = acc ++ goes (l.take k) m known) := ⟨_, (rfl : acc ++ goes (l.take k) m known = _)⟩
        rw [← HA2.out] at HE hsh IH
        have HH0 : Hid (Holds B gp gf 64 (FC gp gf) v acc w) := hH
        have hde : (decide ((m : Int) = (len : Int))) = false := by rw [decide_eq_false_iff_not]; omega
        have hde2 : ((m : Int) == (len : Int)) = false := by rw [beq_eq_false_iff_ne]; omega
        have hdl : (decide ((m : Int) ≤ (k : Int))) = true := by rw [decide_eq_true_eq]; omega
        clear hK hR ih hH hlen hk HA2 low hac
        go_enter Tryd.func37, Tryd.ntmps37
        go_wp2_with fail
        refine (P.out _).mono ?_
        rintro e w1 ⟨rfl, hb1⟩
        have HH1 : Hid (Holds B gp gf 64 (FC gp gf) v acc w1) := HH0.out.keep hb1
        have hB1 : Below B w w1 := hb1.mono hBw
        have hcf : w1.cell? ⟨gf, 0, none⟩ = some (.func (.func 37) #[] #[.pointer (some ⟨gp, 0, none⟩), .pointer (some ⟨gf, 0, none⟩)]) := cell_of_one HH1.out.prove
        clear hb1 P HH0
        go_wp2_with fail
        refine (IH.out _ _ hB1 HH1.out).mono ?_
        rintro e w2 ⟨rfl, ⟨v2, hh2⟩, hb2⟩
        have HH : Hid (Holds B gp gf 64 (FC gp gf) v2 acc2 w2.drew) := hh2.drew
        have hB : Below B w w2.drew := (hB1.trans hb2).drew
        clear hb2 hh2 hB1 HH1 hcf IH
        go_wp2
        refine wp_region_held_drew (S := (fun _ => True)) (by kernel_rfl) trivial (fun hHeld => ?_)
        refine wpAnyH_take (i := 1) (oi := { dst := some 36, op := Op.move (Operand.tmp 9), type := 24, pos := "tree.go:82", after := #[], guard := none }) (v := .slice (some ⟨g, o + 32 * k, none⟩) (len - k) (cap - k)) rfl (by kernel_rfl) (by kernel_rfl) (by kernel_rfl) (fun _ _ _ h => h) (Or.inl ⟨by rfl, by intro W hSw; go_simp⟩) hHeld ?_
        try simp only [Act.put, List.setIfInBounds_toArray, List.set_cons_zero, List.set_cons_succ]
        refine wpAnyH_ready (rs := [0, 2]) (by kernel_rfl) (by simp) ?_
        refine (AllReadyH.cons (o := { dst := some 35, op := Op.load 24 (Operand.tmp 3), type := 24, pos := "tree.go:82", after := #[], guard := none }) rfl (fun K hK => ?_) (AllReadyH.cons (o := { dst := some 37, op := Op.call { callee := Callee.value (Operand.func 20), args := #[Operand.tmp 36], argTypes := #[24] }, type := 23, pos := "tree.go:82", after := #[{ on := 1, ground := Ground.data }], guard := none }) rfl (fun K hK => ?_) AllReadyH.nil))
        · have hc := cell_of_one HH.out.proof
          go_simp
          clear hc
          refine hK.out _ _ trivial (fun hHeld => ?_)
          clear hK K
          try simp only [Act.put, List.setIfInBounds_toArray, List.set_cons_zero, List.set_cons_succ]
          refine wpAnyH_ready (rs := [2]) (by kernel_rfl) (by simp) ?_
          refine (AllReadyH.cons (o := { dst := some 37, op := Op.call { callee := Callee.value (Operand.func 20), args := #[Operand.tmp 36], argTypes := #[24] }, type := 23, pos := "tree.go:82", after := #[{ on := 1, ground := Ground.data }], guard := none }) rfl (fun K hK => ?_) AllReadyH.nil)
          go_simp
          refine (RR.out _ hB).mono ?_
          rintro e w2 ⟨rfl, hb2⟩
          replace HH := hidk (HH.out.keep hb2)
          replace hB := hB.trans (hb2.mono (Nat.le_trans hBw hB.size))
          go_wp2_with fail
          refine hK.out _ _ trivial (fun hHeld => ?_)
          clear hK K
          try simp only [Act.put, List.setIfInBounds_toArray, List.set_cons_zero, List.set_cons_succ]
          refine wpAnyH_ready (rs := [3]) (by kernel_rfl) (by simp) ?_
          refine (AllReadyH.cons (o := { dst := some 38, op := Op.buildSlice 24 1 #[(0, Operand.tmp 37)], type := 24, pos := "tree.go:82", after := #[{ on := 2, ground := Ground.data }], guard := none }) rfl (fun K hK => ?_) AllReadyH.nil)
          refine step_build_run (by rfl) 24 1 _ rfl #[(0, .agg D)] rfl _ _ (build_one _ _ hdd D HD) ?_
          obtain ⟨gn, cn, w4, hrun, q1, q2, q3, q4⟩ := HH.out.append htf (Nat.le_trans hBw hB.size) hsh _ hdd D HD
          replace HH := hidk (HH.out.keep ((Below.refl _ _).alloc (Nat.le_refl _) (.cells D 23)))
          refine hK.out _ _ trivial (fun hHeld => ?_)
          clear hK K
          try simp only [Act.put, List.setIfInBounds_toArray, List.set_cons_zero, List.set_cons_succ]
          refine wpAnyH_ready (rs := [4]) (by kernel_rfl) (by simp) ?_
          refine (AllReadyH.cons (o := { dst := some 39, op := Op.call { callee := Callee.builtin Builtin.append, args := #[Operand.tmp 35, Operand.tmp 38], argTypes := #[24, 24] }, type := 24, pos := "tree.go:82", after := #[{ on := 0, ground := Ground.data }, { on := 3, ground := Ground.data }, { on := 2, ground := Ground.chain }], guard := none }) rfl (fun K hK => ?_) AllReadyH.nil)
          refine step_append_run rfl (.tmp 35) (.tmp 38) 24 24 rfl v2 _ _ w4 rfl rfl hrun ?_
          refine hK.out _ _ trivial (fun hHeld => ?_)
          clear hK K
          try simp only [Act.put, List.setIfInBounds_toArray, List.set_cons_zero, List.set_cons_succ]
          refine wpAnyH_ready (rs := [5]) (by kernel_rfl) (by simp) ?_
          refine (AllReadyH.cons (o := { dst := none, op := Op.store 24 (Operand.tmp 3) (Operand.tmp 39), type := 0, pos := "tree.go:82", after := #[{ on := 4, ground := Ground.data }, { on := 4, ground := Ground.chain }, { on := 0, ground := Ground.phase }, { on := 1, ground := Ground.phase }, { on := 2, ground := Ground.phase }, { on := 3, ground := Ground.phase }, { on := 4, ground := Ground.phase }], guard := none }) rfl (fun K hK => ?_) AllReadyH.nil)
          have hc := cell_of_one q1
          have hfz := free_of_one q1
          go_simp
          clear hc hfz
          refine hK.out _ _ trivial (fun hHeld => ?_)
          clear hK K
          try simp only [Act.put, List.setIfInBounds_toArray, List.set_cons_zero, List.set_cons_succ]
          refine wpAnyH_done (by kernel_rfl) ?_ _
          go_wp2
          first | go_end0 | (refine bodyPost_ret (results_none rfl _ _ _) rfl ?_)
          refine ⟨rfl, ⟨.slice (some ⟨gn, 0, none⟩) (acc2.length + 1) cn, ?_⟩, (hB.trans q4).setCell (by simpa using hp) _⟩
          rw [HE.out]
          exact Holds.put hne q1 q2 q3
        · go_simp
          refine (RR.out _ hB).mono ?_
          rintro e w2 ⟨rfl, hb2⟩
          replace HH := hidk (HH.out.keep hb2)
          replace hB := hB.trans (hb2.mono (Nat.le_trans hBw hB.size))
          go_wp2_with fail
          refine hK.out _ _ trivial (fun hHeld => ?_)
          clear hK K
          try simp only [Act.put, List.setIfInBounds_toArray, List.set_cons_zero, List.set_cons_succ]
          refine wpAnyH_ready (rs := [0, 3]) (by kernel_rfl) (by simp) ?_
          refine (AllReadyH.cons (o := { dst := some 35, op := Op.load 24 (Operand.tmp 3), type := 24, pos := "tree.go:82", after := #[], guard := none }) rfl (fun K hK => ?_) (AllReadyH.cons (o := { dst := some 38, op := Op.buildSlice 24 1 #[(0, Operand.tmp 37)], type := 24, pos := "tree.go:82", after := #[{ on := 2, ground := Ground.data }], guard := none }) rfl (fun K hK => ?_) AllReadyH.nil))
          · have hc := cell_of_one HH.out.proof
            go_simp
            clear hc
            refine hK.out _ _ trivial (fun hHeld => ?_)
            clear hK K
            try simp only [Act.put, List.setIfInBounds_toArray, List.set_cons_zero, List.set_cons_succ]
            refine wpAnyH_ready (rs := [3]) (by kernel_rfl) (by simp) ?_
            refine (AllReadyH.cons (o := { dst := some 38, op := Op.buildSlice 24 1 #[(0, Operand.tmp 37)], type := 24, pos := "tree.go:82", after := #[{ on := 2, ground := Ground.data }], guard := none }) rfl (fun K hK => ?_) AllReadyH.nil)
            refine step_build_run (by rfl) 24 1 _ rfl #[(0, .agg D)] rfl _ _ (build_one _ _ hdd D HD) ?_
            obtain ⟨gn, cn, w4, hrun, q1, q2, q3, q4⟩ := HH.out.append htf (Nat.le_trans hBw hB.size) hsh _ hdd D HD
            replace HH := hidk (HH.out.keep ((Below.refl _ _).alloc (Nat.le_refl _) (.cells D 23)))
            refine hK.out _ _ trivial (fun hHeld => ?_)
            clear hK K
            try simp only [Act.put, List.setIfInBounds_toArray, List.set_cons_zero, List.set_cons_succ]
            refine wpAnyH_ready (rs := [4]) (by kernel_rfl) (by simp) ?_
            refine (AllReadyH.cons (o := { dst := some 39, op := Op.call { callee := Callee.builtin Builtin.append, args := #[Operand.tmp 35, Operand.tmp 38], argTypes := #[24, 24] }, type := 24, pos := "tree.go:82", after := #[{ on := 0, ground := Ground.data }, { on := 3, ground := Ground.data }, { on := 2, ground := Ground.chain }], guard := none }) rfl (fun K hK => ?_) AllReadyH.nil)
            refine step_append_run rfl (.tmp 35) (.tmp 38) 24 24 rfl v2 _ _ w4 rfl rfl hrun ?_
            refine hK.out _ _ trivial (fun hHeld => ?_)
            clear hK K
            try simp only [Act.put, List.setIfInBounds_toArray, List.set_cons_zero, List.set_cons_succ]
            refine wpAnyH_ready (rs := [5]) (by kernel_rfl) (by simp) ?_
            refine (AllReadyH.cons (o := { dst := none, op := Op.store 24 (Operand.tmp 3) (Operand.tmp 39), type := 0, pos := "tree.go:82", after := #[{ on := 4, ground := Ground.data }, { on := 4, ground := Ground.chain }, { on := 0, ground := Ground.phase }, { on := 1, ground := Ground.phase }, { on := 2, ground := Ground.phase }, { on := 3, ground := Ground.phase }, { on := 4, ground := Ground.phase }], guard := none }) rfl (fun K hK => ?_) AllReadyH.nil)
            have hc := cell_of_one q1
            have hfz := free_of_one q1
            go_simp
            clear hc hfz
            refine hK.out _ _ trivial (fun hHeld => ?_)
            clear hK K
            try simp only [Act.put, List.setIfInBounds_toArray, List.set_cons_zero, List.set_cons_succ]
            refine wpAnyH_done (by kernel_rfl) ?_ _
            go_wp2
            first | go_end0 | (refine bodyPost_ret (results_none rfl _ _ _) rfl ?_)
            refine ⟨rfl, ⟨.slice (some ⟨gn, 0, none⟩) (acc2.length + 1) cn, ?_⟩, (hB.trans q4).setCell (by simpa using hp) _⟩
            rw [HE.out]
            exact Holds.put hne q1 q2 q3
          · refine step_build_run (by rfl) 24 1 _ rfl #[(0, .agg D)] rfl _ _ (build_one _ _ hdd D HD) ?_
            obtain ⟨gn, cn, w4, hrun, q1, q2, q3, q4⟩ := HH.out.append htf (Nat.le_trans hBw hB.size) hsh _ hdd D HD
            replace HH := hidk (HH.out.keep ((Below.refl _ _).alloc (Nat.le_refl _) (.cells D 23)))
            refine hK.out _ _ trivial (fun hHeld => ?_)
            clear hK K
            try simp only [Act.put, List.setIfInBounds_toArray, List.set_cons_zero, List.set_cons_succ]
            refine wpAnyH_ready (rs := [0]) (by kernel_rfl) (by simp) ?_
            refine (AllReadyH.cons (o := { dst := some 35, op := Op.load 24 (Operand.tmp 3), type := 24, pos := "tree.go:82", after := #[], guard := none }) rfl (fun K hK => ?_) AllReadyH.nil)
            have hc := cell_of_one HH.out.proof
            go_simp
            clear hc
            refine hK.out _ _ trivial (fun hHeld => ?_)
            clear hK K
            try simp only [Act.put, List.setIfInBounds_toArray, List.set_cons_zero, List.set_cons_succ]
            refine wpAnyH_ready (rs := [4]) (by kernel_rfl) (by simp) ?_
            refine (AllReadyH.cons (o := { dst := some 39, op := Op.call { callee := Callee.builtin Builtin.append, args := #[Operand.tmp 35, Operand.tmp 38], argTypes := #[24, 24] }, type := 24, pos := "tree.go:82", after := #[{ on := 0, ground := Ground.data }, { on := 3, ground := Ground.data }, { on := 2, ground := Ground.chain }], guard := none }) rfl (fun K hK => ?_) AllReadyH.nil)
            refine step_append_run rfl (.tmp 35) (.tmp 38) 24 24 rfl v2 _ _ w4 rfl rfl hrun ?_
            refine hK.out _ _ trivial (fun hHeld => ?_)
            clear hK K
            try simp only [Act.put, List.setIfInBounds_toArray, List.set_cons_zero, List.set_cons_succ]
            refine wpAnyH_ready (rs := [5]) (by kernel_rfl) (by simp) ?_
            refine (AllReadyH.cons (o := { dst := none, op := Op.store 24 (Operand.tmp 3) (Operand.tmp 39), type := 0, pos := "tree.go:82", after := #[{ on := 4, ground := Ground.data }, { on := 4, ground := Ground.chain }, { on := 0, ground := Ground.phase }, { on := 1, ground := Ground.phase }, { on := 2, ground := Ground.phase }, { on := 3, ground := Ground.phase }, { on := 4, ground := Ground.phase }], guard := none }) rfl (fun K hK => ?_) AllReadyH.nil)
            have hc := cell_of_one q1
            have hfz := free_of_one q1
            go_simp
            clear hc hfz
            refine hK.out _ _ trivial (fun hHeld => ?_)
            clear hK K
            try simp only [Act.put, List.setIfInBounds_toArray, List.set_cons_zero, List.set_cons_succ]
            refine wpAnyH_done (by kernel_rfl) ?_ _
            go_wp2
            first | go_end0 | (refine bodyPost_ret (results_none rfl _ _ _) rfl ?_)
            refine ⟨rfl, ⟨.slice (some ⟨gn, 0, none⟩) (acc2.length + 1) cn, ?_⟩, (hB.trans q4).setCell (by simpa using hp) _⟩
            rw [HE.out]
            exact Holds.put hne q1 q2 q3
      · -- the right part
        have HE : Hid (acc ++ goes l m known = (acc ++ goes (l.drop k) (m - k) false) ++ [root (l.take k)]) := by
          show _ = _
          rw [goes_right l m known (by omega) (by omega) (by rw [hlen, ← hk]; omega), hlen, ← hk, List.append_assoc]
        have IH : Hid (∀ W v, Below B w W → Holds B gp gf 64 (FC gp gf) v acc W → Calls Tryd.prog 37 #[.slice (some ⟨g, o + 32 * k, none⟩) (len - k) (cap - k), .int .i64 ((m : Int) - (k : Int)), .bool false, .pointer (some ⟨gp, 0, none⟩), .pointer (some ⟨gf, 0, none⟩)] W fun e w' =>
            e = .returned (.tuple #[]) ∧ (∃ v', Holds B gp gf 64 (FC gp gf) v' (acc ++ goes (l.drop k) (m - k) false) w') ∧ Below B W w') := fun W v hb hh => by
          rw [show ((m : Int) - (k : Int)) = ((m - k : Nat) : Int) by omega]
          exact ih (len - k) (by omega) g (o + 32 * k) (len - k) (cap - k) (m - k) false (l.drop k) acc v W rfl ((hR.below hb low).drop k (by omega)) hg (by omega) (by omega) (by omega) (Nat.le_trans hBw hb.size) hh (table_low hK hb hKB)
        obtain ⟨D, HD⟩ : ∃ D, Hid (D = (cellsOf (root (l.take k))).toArray) := ⟨_, (rfl : (cellsOf (root (l.take k))).toArray = _)⟩
        have hdd : (root (l.take k)).length = 32 := root_length sumD_length _ (hR.2.1.take k)
        have RR : Hid (∀ W, Below B w W → Calls Tryd.prog 20 #[.slice (some ⟨g, o, none⟩) k cap] W fun e w' => e = .returned (.agg D) ∧ Below W.heap.size W w') := fun W hb =>
          root_any _ _ _ _ (l.take k) W rfl ((hR.below hb low).take k (by omega)) (table_low hK hb hKB) D HD
        have hsh : (acc ++ goes (l.drop k) (m - k) false).length + 1 ≤ 1000000 := by
          have := goes_len (l.drop k) (m - k) false (by simp only [List.length_take, List.length_drop]; omega)
          simp only [List.length_append, List.length_take, List.length_drop] at this ⊢
          omega
        obtain ⟨acc2, HA2⟩ : ∃ x, Hid (x = acc ++ goes (l.drop k) (m - k) false) := ⟨_, (rfl : acc ++ goes (l.drop k) (m - k) false = _)⟩
        rw [← HA2.out] at HE hsh IH
        have HH0 : Hid (Holds B gp gf 64 (FC gp gf) v acc w) := hH
        have hw := wrap_int ((m : Int) - (k : Int)) (by omega) (by omega)
        have hde : (decide ((m : Int) = (len : Int))) = false := by rw [decide_eq_false_iff_not]; omega
        have hde2 : ((m : Int) == (len : Int)) = false := by rw [beq_eq_false_iff_ne]; omega
        have hdl : (decide ((m : Int) ≤ (k : Int))) = false := by rw [decide_eq_false_iff_not]; omega
        clear hK hR ih hH hlen hk HA2 low hac
        go_enter Tryd.func37, Tryd.ntmps37
        go_wp2_with fail
        refine (P.out _).mono ?_
        rintro e w1 ⟨rfl, hb1⟩
        have HH1 : Hid (Holds B gp gf 64 (FC gp gf) v acc w1) := HH0.out.keep hb1
        have hB1 : Below B w w1 := hb1.mono hBw
        have hcf : w1.cell? ⟨gf, 0, none⟩ = some (.func (.func 37) #[] #[.pointer (some ⟨gp, 0, none⟩), .pointer (some ⟨gf, 0, none⟩)]) := cell_of_one HH1.out.prove
        clear hb1 P HH0
        go_wp2_with fail
        refine (IH.out _ _ hB1 HH1.out).mono ?_
        rintro e w2 ⟨rfl, ⟨v2, hh2⟩, hb2⟩
        have HH : Hid (Holds B gp gf 64 (FC gp gf) v2 acc2 w2.drew) := hh2.drew
        have hB : Below B w w2.drew := (hB1.trans hb2).drew
        clear hb2 hh2 hB1 HH1 hcf IH
        go_wp2
        refine wp_region_held_drew (S := (fun _ => True)) (by kernel_rfl) trivial (fun hHeld => ?_)
        refine wpAnyH_take (i := 1) (oi := { dst := some 48, op := Op.move (Operand.tmp 8), type := 24, pos := "tree.go:86", after := #[], guard := none }) (v := .slice (some ⟨g, o, none⟩) k cap) rfl (by kernel_rfl) (by kernel_rfl) (by kernel_rfl) (fun _ _ _ h => h) (Or.inl ⟨by rfl, by intro W hSw; go_simp⟩) hHeld ?_
        try simp only [Act.put, List.setIfInBounds_toArray, List.set_cons_zero, List.set_cons_succ]
        refine wpAnyH_ready (rs := [0, 2]) (by kernel_rfl) (by simp) ?_
        refine (AllReadyH.cons (o := { dst := some 47, op := Op.load 24 (Operand.tmp 3), type := 24, pos := "tree.go:86", after := #[], guard := none }) rfl (fun K hK => ?_) (AllReadyH.cons (o := { dst := some 49, op := Op.call { callee := Callee.value (Operand.func 20), args := #[Operand.tmp 48], argTypes := #[24] }, type := 23, pos := "tree.go:86", after := #[{ on := 1, ground := Ground.data }], guard := none }) rfl (fun K hK => ?_) AllReadyH.nil))
        · have hc := cell_of_one HH.out.proof
          go_simp
          clear hc
          refine hK.out _ _ trivial (fun hHeld => ?_)
          clear hK K
          try simp only [Act.put, List.setIfInBounds_toArray, List.set_cons_zero, List.set_cons_succ]
          refine wpAnyH_ready (rs := [2]) (by kernel_rfl) (by simp) ?_
          refine (AllReadyH.cons (o := { dst := some 49, op := Op.call { callee := Callee.value (Operand.func 20), args := #[Operand.tmp 48], argTypes := #[24] }, type := 23, pos := "tree.go:86", after := #[{ on := 1, ground := Ground.data }], guard := none }) rfl (fun K hK => ?_) AllReadyH.nil)
          go_simp
          refine (RR.out _ hB).mono ?_
          rintro e w2 ⟨rfl, hb2⟩
          replace HH := hidk (HH.out.keep hb2)
          replace hB := hB.trans (hb2.mono (Nat.le_trans hBw hB.size))
          go_wp2_with fail
          refine hK.out _ _ trivial (fun hHeld => ?_)
          clear hK K
          try simp only [Act.put, List.setIfInBounds_toArray, List.set_cons_zero, List.set_cons_succ]
          refine wpAnyH_ready (rs := [3]) (by kernel_rfl) (by simp) ?_
          refine (AllReadyH.cons (o := { dst := some 50, op := Op.buildSlice 24 1 #[(0, Operand.tmp 49)], type := 24, pos := "tree.go:86", after := #[{ on := 2, ground := Ground.data }], guard := none }) rfl (fun K hK => ?_) AllReadyH.nil)
          refine step_build_run (by rfl) 24 1 _ rfl #[(0, .agg D)] rfl _ _ (build_one _ _ hdd D HD) ?_
          obtain ⟨gn, cn, w4, hrun, q1, q2, q3, q4⟩ := HH.out.append htf (Nat.le_trans hBw hB.size) hsh _ hdd D HD
          replace HH := hidk (HH.out.keep ((Below.refl _ _).alloc (Nat.le_refl _) (.cells D 23)))
          refine hK.out _ _ trivial (fun hHeld => ?_)
          clear hK K
          try simp only [Act.put, List.setIfInBounds_toArray, List.set_cons_zero, List.set_cons_succ]
          refine wpAnyH_ready (rs := [4]) (by kernel_rfl) (by simp) ?_
          refine (AllReadyH.cons (o := { dst := some 51, op := Op.call { callee := Callee.builtin Builtin.append, args := #[Operand.tmp 47, Operand.tmp 50], argTypes := #[24, 24] }, type := 24, pos := "tree.go:86", after := #[{ on := 0, ground := Ground.data }, { on := 3, ground := Ground.data }, { on := 2, ground := Ground.chain }], guard := none }) rfl (fun K hK => ?_) AllReadyH.nil)
          refine step_append_run rfl (.tmp 47) (.tmp 50) 24 24 rfl v2 _ _ w4 rfl rfl hrun ?_
          refine hK.out _ _ trivial (fun hHeld => ?_)
          clear hK K
          try simp only [Act.put, List.setIfInBounds_toArray, List.set_cons_zero, List.set_cons_succ]
          refine wpAnyH_ready (rs := [5]) (by kernel_rfl) (by simp) ?_
          refine (AllReadyH.cons (o := { dst := none, op := Op.store 24 (Operand.tmp 3) (Operand.tmp 51), type := 0, pos := "tree.go:86", after := #[{ on := 4, ground := Ground.data }, { on := 4, ground := Ground.chain }, { on := 0, ground := Ground.phase }, { on := 1, ground := Ground.phase }, { on := 2, ground := Ground.phase }, { on := 3, ground := Ground.phase }, { on := 4, ground := Ground.phase }], guard := none }) rfl (fun K hK => ?_) AllReadyH.nil)
          have hc := cell_of_one q1
          have hfz := free_of_one q1
          go_simp
          clear hc hfz
          refine hK.out _ _ trivial (fun hHeld => ?_)
          clear hK K
          try simp only [Act.put, List.setIfInBounds_toArray, List.set_cons_zero, List.set_cons_succ]
          refine wpAnyH_done (by kernel_rfl) ?_ _
          go_wp2
          first | go_end0 | (refine bodyPost_ret (results_none rfl _ _ _) rfl ?_)
          refine ⟨rfl, ⟨.slice (some ⟨gn, 0, none⟩) (acc2.length + 1) cn, ?_⟩, (hB.trans q4).setCell (by simpa using hp) _⟩
          rw [HE.out]
          exact Holds.put hne q1 q2 q3
        · go_simp
          refine (RR.out _ hB).mono ?_
          rintro e w2 ⟨rfl, hb2⟩
          replace HH := hidk (HH.out.keep hb2)
          replace hB := hB.trans (hb2.mono (Nat.le_trans hBw hB.size))
          go_wp2_with fail
          refine hK.out _ _ trivial (fun hHeld => ?_)
          clear hK K
          try simp only [Act.put, List.setIfInBounds_toArray, List.set_cons_zero, List.set_cons_succ]
          refine wpAnyH_ready (rs := [0, 3]) (by kernel_rfl) (by simp) ?_
          refine (AllReadyH.cons (o := { dst := some 47, op := Op.load 24 (Operand.tmp 3), type := 24, pos := "tree.go:86", after := #[], guard := none }) rfl (fun K hK => ?_) (AllReadyH.cons (o := { dst := some 50, op := Op.buildSlice 24 1 #[(0, Operand.tmp 49)], type := 24, pos := "tree.go:86", after := #[{ on := 2, ground := Ground.data }], guard := none }) rfl (fun K hK => ?_) AllReadyH.nil))
          · have hc := cell_of_one HH.out.proof
            go_simp
            clear hc
            refine hK.out _ _ trivial (fun hHeld => ?_)
            clear hK K
            try simp only [Act.put, List.setIfInBounds_toArray, List.set_cons_zero, List.set_cons_succ]
            refine wpAnyH_ready (rs := [3]) (by kernel_rfl) (by simp) ?_
            refine (AllReadyH.cons (o := { dst := some 50, op := Op.buildSlice 24 1 #[(0, Operand.tmp 49)], type := 24, pos := "tree.go:86", after := #[{ on := 2, ground := Ground.data }], guard := none }) rfl (fun K hK => ?_) AllReadyH.nil)
            refine step_build_run (by rfl) 24 1 _ rfl #[(0, .agg D)] rfl _ _ (build_one _ _ hdd D HD) ?_
            obtain ⟨gn, cn, w4, hrun, q1, q2, q3, q4⟩ := HH.out.append htf (Nat.le_trans hBw hB.size) hsh _ hdd D HD
            replace HH := hidk (HH.out.keep ((Below.refl _ _).alloc (Nat.le_refl _) (.cells D 23)))
            refine hK.out _ _ trivial (fun hHeld => ?_)
            clear hK K
            try simp only [Act.put, List.setIfInBounds_toArray, List.set_cons_zero, List.set_cons_succ]
            refine wpAnyH_ready (rs := [4]) (by kernel_rfl) (by simp) ?_
            refine (AllReadyH.cons (o := { dst := some 51, op := Op.call { callee := Callee.builtin Builtin.append, args := #[Operand.tmp 47, Operand.tmp 50], argTypes := #[24, 24] }, type := 24, pos := "tree.go:86", after := #[{ on := 0, ground := Ground.data }, { on := 3, ground := Ground.data }, { on := 2, ground := Ground.chain }], guard := none }) rfl (fun K hK => ?_) AllReadyH.nil)
            refine step_append_run rfl (.tmp 47) (.tmp 50) 24 24 rfl v2 _ _ w4 rfl rfl hrun ?_
            refine hK.out _ _ trivial (fun hHeld => ?_)
            clear hK K
            try simp only [Act.put, List.setIfInBounds_toArray, List.set_cons_zero, List.set_cons_succ]
            refine wpAnyH_ready (rs := [5]) (by kernel_rfl) (by simp) ?_
            refine (AllReadyH.cons (o := { dst := none, op := Op.store 24 (Operand.tmp 3) (Operand.tmp 51), type := 0, pos := "tree.go:86", after := #[{ on := 4, ground := Ground.data }, { on := 4, ground := Ground.chain }, { on := 0, ground := Ground.phase }, { on := 1, ground := Ground.phase }, { on := 2, ground := Ground.phase }, { on := 3, ground := Ground.phase }, { on := 4, ground := Ground.phase }], guard := none }) rfl (fun K hK => ?_) AllReadyH.nil)
            have hc := cell_of_one q1
            have hfz := free_of_one q1
            go_simp
            clear hc hfz
            refine hK.out _ _ trivial (fun hHeld => ?_)
            clear hK K
            try simp only [Act.put, List.setIfInBounds_toArray, List.set_cons_zero, List.set_cons_succ]
            refine wpAnyH_done (by kernel_rfl) ?_ _
            go_wp2
            first | go_end0 | (refine bodyPost_ret (results_none rfl _ _ _) rfl ?_)
            refine ⟨rfl, ⟨.slice (some ⟨gn, 0, none⟩) (acc2.length + 1) cn, ?_⟩, (hB.trans q4).setCell (by simpa using hp) _⟩
            rw [HE.out]
            exact Holds.put hne q1 q2 q3
          · refine step_build_run (by rfl) 24 1 _ rfl #[(0, .agg D)] rfl _ _ (build_one _ _ hdd D HD) ?_
            obtain ⟨gn, cn, w4, hrun, q1, q2, q3, q4⟩ := HH.out.append htf (Nat.le_trans hBw hB.size) hsh _ hdd D HD
            replace HH := hidk (HH.out.keep ((Below.refl _ _).alloc (Nat.le_refl _) (.cells D 23)))
            refine hK.out _ _ trivial (fun hHeld => ?_)
            clear hK K
            try simp only [Act.put, List.setIfInBounds_toArray, List.set_cons_zero, List.set_cons_succ]
            refine wpAnyH_ready (rs := [0]) (by kernel_rfl) (by simp) ?_
            refine (AllReadyH.cons (o := { dst := some 47, op := Op.load 24 (Operand.tmp 3), type := 24, pos := "tree.go:86", after := #[], guard := none }) rfl (fun K hK => ?_) AllReadyH.nil)
            have hc := cell_of_one HH.out.proof
            go_simp
            clear hc
            refine hK.out _ _ trivial (fun hHeld => ?_)
            clear hK K
            try simp only [Act.put, List.setIfInBounds_toArray, List.set_cons_zero, List.set_cons_succ]
            refine wpAnyH_ready (rs := [4]) (by kernel_rfl) (by simp) ?_
            refine (AllReadyH.cons (o := { dst := some 51, op := Op.call { callee := Callee.builtin Builtin.append, args := #[Operand.tmp 47, Operand.tmp 50], argTypes := #[24, 24] }, type := 24, pos := "tree.go:86", after := #[{ on := 0, ground := Ground.data }, { on := 3, ground := Ground.data }, { on := 2, ground := Ground.chain }], guard := none }) rfl (fun K hK => ?_) AllReadyH.nil)
            refine step_append_run rfl (.tmp 47) (.tmp 50) 24 24 rfl v2 _ _ w4 rfl rfl hrun ?_
            refine hK.out _ _ trivial (fun hHeld => ?_)
            clear hK K
            try simp only [Act.put, List.setIfInBounds_toArray, List.set_cons_zero, List.set_cons_succ]
            refine wpAnyH_ready (rs := [5]) (by kernel_rfl) (by simp) ?_
            refine (AllReadyH.cons (o := { dst := none, op := Op.store 24 (Operand.tmp 3) (Operand.tmp 51), type := 0, pos := "tree.go:86", after := #[{ on := 4, ground := Ground.data }, { on := 4, ground := Ground.chain }, { on := 0, ground := Ground.phase }, { on := 1, ground := Ground.phase }, { on := 2, ground := Ground.phase }, { on := 3, ground := Ground.phase }, { on := 4, ground := Ground.phase }], guard := none }) rfl (fun K hK => ?_) AllReadyH.nil)
            have hc := cell_of_one q1
            have hfz := free_of_one q1
            go_simp
            clear hc hfz
            refine hK.out _ _ trivial (fun hHeld => ?_)
            clear hK K
            try simp only [Act.put, List.setIfInBounds_toArray, List.set_cons_zero, List.set_cons_succ]
            refine wpAnyH_done (by kernel_rfl) ?_ _
            go_wp2
            first | go_end0 | (refine bodyPost_ret (results_none rfl _ _ _) rfl ?_)
            refine ⟨rfl, ⟨.slice (some ⟨gn, 0, none⟩) (acc2.length + 1) cn, ?_⟩, (hB.trans q4).setCell (by simpa using hp) _⟩
            rw [HE.out]
            exact Holds.put hne q1 q2 q3

set_option maxHeartbeats 1000000 in
theorem consistency_out (a : Option Addr) (len cap : Nat) (m : Int) (w : World) (hml : len ≤ maxLen) (hm : m < 0 ∨ (len : Int) < m) :
    Calls Tryd.prog 19 #[.slice a len cap, .int .i64 m] w fun e w' => e = .returned (.tuple #[.slice none 0 0, .int .i64 21]) ∧ Below w.heap.size w w' := by
  by_cases h0 : m < 0
  · have hd : decide (m < 0) = true := by rw [decide_eq_true_eq]; exact h0
    go_enter Tryd.func19, Tryd.ntmps19
    go_wp2
    go_ret2
    exact ⟨rfl, Below.refl _ _⟩
  · have hd : decide (m < 0) = false := by rw [decide_eq_false_iff_not]; exact h0
    have hd2 : decide ((len : Int) < m) = true := by rw [decide_eq_true_eq]; omega
    go_enter Tryd.func19, Tryd.ntmps19
    go_wp2
    go_ret2
    exact ⟨rfl, Below.refl _ _⟩

set_option maxHeartbeats 1000000 in
theorem consistency_none (a : Option Addr) (len cap : Nat) (w : World) :
    Calls Tryd.prog 19 #[.slice a len cap, .int .i64 0] w fun e w' => e = .returned (.tuple #[.slice none 0 0, .int .i64 0]) ∧ Below w.heap.size w w' := by
  have hd2 : decide ((len : Int) < 0) = false := by rw [decide_eq_false_iff_not]; omega
  go_enter Tryd.func19, Tryd.ntmps19
  go_wp2
  go_ret2
  exact ⟨rfl, Below.refl _ _⟩

set_option maxHeartbeats 1000000 in
theorem consistency_in (a : Option Addr) (len cap : Nat) (l : List (List UInt8)) (m : Nat) (w : World) (hR : LReads w a len cap l) (hm1 : 1 ≤ m) (hm : m ≤ len) (hl : len ≤ 100000) (hK : Table 0 w) :
    Calls Tryd.prog 19 #[.slice a len cap, .int .i64 m] w fun e w' => ∃ v, e = .returned (.tuple #[v, .int .i64 0]) ∧ w'.ownsRow w.heap.size 23 32 v (goes l m true).length (cellsOf (goes l m true).flatten) ∧ Below w.heap.size w w' := by
  obtain ⟨g, o, rfl, hg⟩ := hR.at (by omega)
  have hd : decide ((m : Int) < 0) = false := by rw [decide_eq_false_iff_not]; omega
  have hd2 : decide ((len : Int) < (m : Int)) = false := by rw [decide_eq_false_iff_not]; omega
  have hd3 : decide (len < m) = false := by rw [decide_eq_false_iff_not]; omega
  have hd4 : ((m : Int) == 0) = false := by rw [beq_eq_false_iff_ne]; omega
  have hd5 : decide ((m : Int) = 0) = false := by rw [decide_eq_false_iff_not]; omega
  have hd6 : m ≠ 0 := by omega
  have hK0 := hK.1
  have PV : Hid (∀ W, Below w.heap.size w W → Holds w.heap.size w.heap.size (w.heap.size + 1) 64 (FC w.heap.size (w.heap.size + 1)) (.slice none 0 0) [] W →
      Calls Tryd.prog 37 #[.slice (some ⟨g, o, none⟩) len cap, .int .i64 m, .bool true, .pointer (some ⟨w.heap.size, 0, none⟩), .pointer (some ⟨w.heap.size + 1, 0, none⟩)] W fun e w' =>
      e = .returned (.tuple #[]) ∧ (∃ v', Holds w.heap.size w.heap.size (w.heap.size + 1) 64 (FC w.heap.size (w.heap.size + 1)) v' (goes l m true) w') ∧ Below w.heap.size W w') := fun W hb hh =>
    proveC_any len g o len cap m true l [] w.heap.size w.heap.size (w.heap.size + 1) _ W rfl (hR.keep hb) hg hm1 hm (Nat.le_refl _) (by omega) (by simp; omega) hb.size hh (hK.keep hb) hK0
  have HS : Hid (Holds w.heap.size w.heap.size (w.heap.size + 1) 64 (FC w.heap.size (w.heap.size + 1)) (.slice none 0 0) [] ((w.alloc (.cells #[.slice none 0 0] 24)).alloc (.cells #[FC w.heap.size (w.heap.size + 1)] 64))) :=
    ⟨heap_alloc2_old w _ _, heap_alloc2_new w _ _, World.ownsRow_nil _ _ _ _⟩
  have HB : Hid (Below w.heap.size w ((w.alloc (.cells #[.slice none 0 0] 24)).alloc (.cells #[FC w.heap.size (w.heap.size + 1)] 64))) := ((Below.refl _ _).alloc (Nat.le_refl _) _).alloc (by simp) _
  clear hK hR
  go_enter Tryd.func19, Tryd.ntmps19
  go_wp2_with fail
  refine (PV.out _ HB.out HS.out).mono ?_
  rintro e w2 ⟨rfl, ⟨v, hh⟩, hb2⟩
  have hcv := cell_of_one hh.proof
  have HO : Hid (w2.ownsRow w.heap.size 23 32 v (goes l m true).length (cellsOf (goes l m true).flatten) ∧ Below w.heap.size w w2) := ⟨hh.own, HB.out.trans hb2⟩
  clear hh hb2 PV HS HB
  go_wp2
  go_ret2
  exact ⟨v, rfl, HO.out⟩
end Go.Proofs.YtehfoeedlchphaaDoor
