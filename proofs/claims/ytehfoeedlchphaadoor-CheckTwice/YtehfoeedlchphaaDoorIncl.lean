/- What tree.Inclusion answers: the proof of a place. -/
import Derived.Test.YtehfoeedlchphaaDoorGrown
import Derived.Test.YtehfoeedlchphaaDoorBuilds
namespace Go.Proofs.YtehfoeedlchphaaDoor
open Go.RowKit Sums
set_option linter.unusedVariables false
set_option linter.unusedSimpArgs false

attribute [local go_sem] store_func

/-- The function that proves, as a value. -/
def FI (gp gf : Nat) : Value := .func (.func 35) #[] #[.pointer (some ⟨gf, 0, none⟩), .pointer (some ⟨gp, 0, none⟩)]

set_option maxHeartbeats 2000000 in
theorem prove_any (n : Nat) (g o len cap i : Nat) (l acc : List (List UInt8)) (B gp gf : Nat) (v : Value) (w : World) (hn : len = n) (hR : LReads w (some ⟨g, o, none⟩) len cap l) (hg : g < B) (hi : i < len)
    (hp : B ≤ gp) (hne : gp ≠ gf) (hac : acc.length + len ≤ 1000000) (hBw : B ≤ w.heap.size) (hH : Holds B gp gf 61 (FI gp gf) v acc w) (hK : Table 0 w) (hKB : 0 < B) :
    Calls Tryd.prog 35 #[.slice (some ⟨g, o, none⟩) len cap, .int .i64 i, .pointer (some ⟨gf, 0, none⟩), .pointer (some ⟨gp, 0, none⟩)] w fun e w' =>
      e = .returned (.tuple #[]) ∧ (∃ v', Holds B gp gf 61 (FI gp gf) v' (acc ++ incl l i) w') ∧ Below B w w' := by
  induction n using Nat.strongRecOn generalizing g o len cap i l acc v w with
  | _ n ih =>
    subst hn
    have htf : 61 ≠ 23 := by decide
    have hlen := hR.1
    have hmx : len ≤ 9223372036854775807 := by have := hR.2.2.2.1; unfold maxLen at this; omega
    by_cases h1 : len = 1
    · subst h1
      rw [incl_one l i (by omega), List.append_nil]
      have HH : Hid (Holds B gp gf 61 (FI gp gf) v acc w) := hH
      clear hK hR ih hH hlen
      go_enter Tryd.func35, Tryd.ntmps35
      go_wp2
      refine bodyPost_ret (results_none rfl _ _ _) rfl ?_
      exact ⟨rfl, ⟨_, HH.out⟩, Below.refl _ _⟩
    · have h2 : 2 ≤ len := by omega
      obtain ⟨k, hk⟩ : ∃ k, k = split len := ⟨_, rfl⟩
      have hkl := split_lt len h2
      have hkp := split_pos len h2
      rw [← hk] at hkl hkp
      have hcl := hR.2.2.1
      have hml := hR.2.2.2.1
      have P : Hid (∀ W, Calls Tryd.prog 36 #[.slice (some ⟨g, o, none⟩) len cap] W fun e w' => e = .returned (.tuple #[.slice (some ⟨g, o, none⟩) k cap, .slice (some ⟨g, o + 32 * k, none⟩) (len - k) (cap - k)]) ∧ Below W.heap.size W w') := fun W => parted_any g o len cap k W hk h2 hcl hml
      have low : ∀ g' o', some (⟨g, o, none⟩ : Addr) = some ⟨g', o', none⟩ → 0 < len → g' < B := fun g' o' e _ => by cases e; exact hg
      by_cases hik : i < k
      · -- the left part
        have HE : Hid (acc ++ incl l i = (acc ++ incl (l.take k) i) ++ [root (l.drop k)]) := by
          show _ = _
          rw [incl_left l i (by omega) (by rw [hlen, ← hk]; exact hik), hlen, ← hk, List.append_assoc]
        have IH : Hid (∀ W v, Below B w W → Holds B gp gf 61 (FI gp gf) v acc W → Calls Tryd.prog 35 #[.slice (some ⟨g, o, none⟩) k cap, .int .i64 i, .pointer (some ⟨gf, 0, none⟩), .pointer (some ⟨gp, 0, none⟩)] W fun e w' =>
            e = .returned (.tuple #[]) ∧ (∃ v', Holds B gp gf 61 (FI gp gf) v' (acc ++ incl (l.take k) i) w') ∧ Below B W w') := fun W v hb hh => by
          exact ih k hkl g o k cap i (l.take k) acc v W rfl ((hR.below hb low).take k (by omega)) hg (by omega) (by omega) (Nat.le_trans hBw hb.size) hh (table_low hK hb hKB)
        obtain ⟨D, HD⟩ : ∃ D, Hid (D = (cellsOf (root (l.drop k))).toArray) := ⟨_, (rfl : (cellsOf (root (l.drop k))).toArray = _)⟩
        have hdd : (root (l.drop k)).length = 32 := root_length sumD_length _ (hR.2.1.drop k)
        have RR : Hid (∀ W, Below B w W → Calls Tryd.prog 20 #[.slice (some ⟨g, o + 32 * k, none⟩) (len - k) (cap - k)] W fun e w' => e = .returned (.agg D) ∧ Below W.heap.size W w') := fun W hb =>
          root_any _ _ _ _ (l.drop k) W rfl ((hR.below hb low).drop k (by omega)) (table_low hK hb hKB) D HD
        have hsh : (acc ++ incl (l.take k) i).length + 1 ≤ 1000000 := by
          have := incl_len (l.take k) i (by simp only [List.length_take, List.length_drop]; omega)
          simp only [List.length_append, List.length_take, List.length_drop] at this ⊢
          omega
        obtain ⟨acc2, HA2⟩ : ∃ x, Hid (x = acc ++ incl (l.take k) i) := ⟨_, (rfl : acc ++ incl (l.take k) i = _)⟩
        rw [← HA2.out] at HE hsh IH
        have HH0 : Hid (Holds B gp gf 61 (FI gp gf) v acc w) := hH
        have hdl : (decide ((i : Int) < (k : Int))) = true := by rw [decide_eq_true_eq]; omega
        clear hK hR ih hH hlen hk HA2 low hac
        go_enter Tryd.func35, Tryd.ntmps35
        go_wp2_with fail
        refine (P.out _).mono ?_
        rintro e w1 ⟨rfl, hb1⟩
        have HH1 : Hid (Holds B gp gf 61 (FI gp gf) v acc w1) := HH0.out.keep hb1
        have hB1 : Below B w w1 := hb1.mono hBw
        have hcf : w1.cell? ⟨gf, 0, none⟩ = some (.func (.func 35) #[] #[.pointer (some ⟨gf, 0, none⟩), .pointer (some ⟨gp, 0, none⟩)]) := cell_of_one HH1.out.prove
        clear hb1 P HH0
        go_wp2_with fail
        refine (IH.out _ _ hB1 HH1.out).mono ?_
        rintro e w2 ⟨rfl, ⟨v2, hh2⟩, hb2⟩
        have HH : Hid (Holds B gp gf 61 (FI gp gf) v2 acc2 w2.drew) := hh2.drew
        have hB : Below B w w2.drew := (hB1.trans hb2).drew
        clear hb2 hh2 hB1 HH1 hcf IH
        go_wp2
        refine wp_region_held_drew (S := (fun _ => True)) (by kernel_rfl) trivial (fun hHeld => ?_)
        refine wpAnyH_take (i := 1) (oi := { dst := some 25, op := Op.move (Operand.tmp 7), type := 24, pos := "tree.go:51", after := #[], guard := none }) (v := .slice (some ⟨g, o + 32 * k, none⟩) (len - k) (cap - k)) rfl (by kernel_rfl) (by kernel_rfl) (by kernel_rfl) (fun _ _ _ h => h) (Or.inl ⟨by rfl, by intro W hSw; go_simp⟩) hHeld ?_
        try simp only [Act.put, List.setIfInBounds_toArray, List.set_cons_zero, List.set_cons_succ]
        refine wpAnyH_ready (rs := [0, 2]) (by kernel_rfl) (by simp) ?_
        refine (AllReadyH.cons (o := { dst := some 24, op := Op.load 24 (Operand.tmp 3), type := 24, pos := "tree.go:51", after := #[], guard := none }) rfl (fun K hK => ?_) (AllReadyH.cons (o := { dst := some 26, op := Op.call { callee := Callee.value (Operand.func 20), args := #[Operand.tmp 25], argTypes := #[24] }, type := 23, pos := "tree.go:51", after := #[{ on := 1, ground := Ground.data }], guard := none }) rfl (fun K hK => ?_) AllReadyH.nil))
        · have hc := cell_of_one HH.out.proof
          go_simp
          clear hc
          refine hK.out _ _ trivial (fun hHeld => ?_)
          clear hK K
          try simp only [Act.put, List.setIfInBounds_toArray, List.set_cons_zero, List.set_cons_succ]
          refine wpAnyH_ready (rs := [2]) (by kernel_rfl) (by simp) ?_
          refine (AllReadyH.cons (o := { dst := some 26, op := Op.call { callee := Callee.value (Operand.func 20), args := #[Operand.tmp 25], argTypes := #[24] }, type := 23, pos := "tree.go:51", after := #[{ on := 1, ground := Ground.data }], guard := none }) rfl (fun K hK => ?_) AllReadyH.nil)
          go_simp
          refine (RR.out _ hB).mono ?_
          rintro e w2 ⟨rfl, hb2⟩
          replace HH := hidk (HH.out.keep hb2)
          replace hB := hB.trans (hb2.mono (Nat.le_trans hBw hB.size))
          go_wp2_with fail
          refine hK.out _ _ trivial (fun hHeld => ?_)
          clear hK K
          try simp only [Act.put, List.setIfInBounds_toArray, List.set_cons_zero, List.set_cons_succ]
          refine wpAnyH_ready (rs := [3]) (by kernel_rfl) (by simp) ?_
          refine (AllReadyH.cons (o := { dst := some 27, op := Op.buildSlice 24 1 #[(0, Operand.tmp 26)], type := 24, pos := "tree.go:51", after := #[{ on := 2, ground := Ground.data }], guard := none }) rfl (fun K hK => ?_) AllReadyH.nil)
          refine step_build_run (by rfl) 24 1 _ rfl #[(0, .agg D)] rfl _ _ (build_one _ _ hdd D HD) ?_
          obtain ⟨gn, cn, w4, hrun, q1, q2, q3, q4⟩ := HH.out.append htf (Nat.le_trans hBw hB.size) hsh _ hdd D HD
          replace HH := hidk (HH.out.keep ((Below.refl _ _).alloc (Nat.le_refl _) (.cells D 23)))
          refine hK.out _ _ trivial (fun hHeld => ?_)
          clear hK K
          try simp only [Act.put, List.setIfInBounds_toArray, List.set_cons_zero, List.set_cons_succ]
          refine wpAnyH_ready (rs := [4]) (by kernel_rfl) (by simp) ?_
          refine (AllReadyH.cons (o := { dst := some 28, op := Op.call { callee := Callee.builtin Builtin.append, args := #[Operand.tmp 24, Operand.tmp 27], argTypes := #[24, 24] }, type := 24, pos := "tree.go:51", after := #[{ on := 0, ground := Ground.data }, { on := 3, ground := Ground.data }, { on := 2, ground := Ground.chain }], guard := none }) rfl (fun K hK => ?_) AllReadyH.nil)
          refine step_append_run rfl (.tmp 24) (.tmp 27) 24 24 rfl v2 _ _ w4 rfl rfl hrun ?_
          refine hK.out _ _ trivial (fun hHeld => ?_)
          clear hK K
          try simp only [Act.put, List.setIfInBounds_toArray, List.set_cons_zero, List.set_cons_succ]
          refine wpAnyH_ready (rs := [5]) (by kernel_rfl) (by simp) ?_
          refine (AllReadyH.cons (o := { dst := none, op := Op.store 24 (Operand.tmp 3) (Operand.tmp 28), type := 0, pos := "tree.go:51", after := #[{ on := 4, ground := Ground.data }, { on := 4, ground := Ground.chain }, { on := 0, ground := Ground.phase }, { on := 1, ground := Ground.phase }, { on := 2, ground := Ground.phase }, { on := 3, ground := Ground.phase }, { on := 4, ground := Ground.phase }], guard := none }) rfl (fun K hK => ?_) AllReadyH.nil)
          have hc := cell_of_one q1
          have hfz := free_of_one q1
          go_simp
          clear hc hfz
          refine hK.out _ _ trivial (fun hHeld => ?_)
          clear hK K
          try simp only [Act.put, List.setIfInBounds_toArray, List.set_cons_zero, List.set_cons_succ]
          refine wpAnyH_done (by kernel_rfl) ?_ _
          go_wp2
          first | go_end0 | (refine bodyPost_ret (results_none rfl _ _ _) rfl ?_)
          refine ⟨rfl, ⟨.slice (some ⟨gn, 0, none⟩) (acc2.length + 1) cn, ?_⟩, (hB.trans q4).setCell (by simpa using hp) _⟩
          rw [HE.out]
          exact Holds.put hne q1 q2 q3
        · go_simp
          refine (RR.out _ hB).mono ?_
          rintro e w2 ⟨rfl, hb2⟩
          replace HH := hidk (HH.out.keep hb2)
          replace hB := hB.trans (hb2.mono (Nat.le_trans hBw hB.size))
          go_wp2_with fail
          refine hK.out _ _ trivial (fun hHeld => ?_)
          clear hK K
          try simp only [Act.put, List.setIfInBounds_toArray, List.set_cons_zero, List.set_cons_succ]
          refine wpAnyH_ready (rs := [0, 3]) (by kernel_rfl) (by simp) ?_
          refine (AllReadyH.cons (o := { dst := some 24, op := Op.load 24 (Operand.tmp 3), type := 24, pos := "tree.go:51", after := #[], guard := none }) rfl (fun K hK => ?_) (AllReadyH.cons (o := { dst := some 27, op := Op.buildSlice 24 1 #[(0, Operand.tmp 26)], type := 24, pos := "tree.go:51", after := #[{ on := 2, ground := Ground.data }], guard := none }) rfl (fun K hK => ?_) AllReadyH.nil))
          · have hc := cell_of_one HH.out.proof
            go_simp
            clear hc
            refine hK.out _ _ trivial (fun hHeld => ?_)
            clear hK K
            try simp only [Act.put, List.setIfInBounds_toArray, List.set_cons_zero, List.set_cons_succ]
            refine wpAnyH_ready (rs := [3]) (by kernel_rfl) (by simp) ?_
            refine (AllReadyH.cons (o := { dst := some 27, op := Op.buildSlice 24 1 #[(0, Operand.tmp 26)], type := 24, pos := "tree.go:51", after := #[{ on := 2, ground := Ground.data }], guard := none }) rfl (fun K hK => ?_) AllReadyH.nil)
            refine step_build_run (by rfl) 24 1 _ rfl #[(0, .agg D)] rfl _ _ (build_one _ _ hdd D HD) ?_
            obtain ⟨gn, cn, w4, hrun, q1, q2, q3, q4⟩ := HH.out.append htf (Nat.le_trans hBw hB.size) hsh _ hdd D HD
            replace HH := hidk (HH.out.keep ((Below.refl _ _).alloc (Nat.le_refl _) (.cells D 23)))
            refine hK.out _ _ trivial (fun hHeld => ?_)
            clear hK K
            try simp only [Act.put, List.setIfInBounds_toArray, List.set_cons_zero, List.set_cons_succ]
            refine wpAnyH_ready (rs := [4]) (by kernel_rfl) (by simp) ?_
            refine (AllReadyH.cons (o := { dst := some 28, op := Op.call { callee := Callee.builtin Builtin.append, args := #[Operand.tmp 24, Operand.tmp 27], argTypes := #[24, 24] }, type := 24, pos := "tree.go:51", after := #[{ on := 0, ground := Ground.data }, { on := 3, ground := Ground.data }, { on := 2, ground := Ground.chain }], guard := none }) rfl (fun K hK => ?_) AllReadyH.nil)
            refine step_append_run rfl (.tmp 24) (.tmp 27) 24 24 rfl v2 _ _ w4 rfl rfl hrun ?_
            refine hK.out _ _ trivial (fun hHeld => ?_)
            clear hK K
            try simp only [Act.put, List.setIfInBounds_toArray, List.set_cons_zero, List.set_cons_succ]
            refine wpAnyH_ready (rs := [5]) (by kernel_rfl) (by simp) ?_
            refine (AllReadyH.cons (o := { dst := none, op := Op.store 24 (Operand.tmp 3) (Operand.tmp 28), type := 0, pos := "tree.go:51", after := #[{ on := 4, ground := Ground.data }, { on := 4, ground := Ground.chain }, { on := 0, ground := Ground.phase }, { on := 1, ground := Ground.phase }, { on := 2, ground := Ground.phase }, { on := 3, ground := Ground.phase }, { on := 4, ground := Ground.phase }], guard := none }) rfl (fun K hK => ?_) AllReadyH.nil)
            have hc := cell_of_one q1
            have hfz := free_of_one q1
            go_simp
            clear hc hfz
            refine hK.out _ _ trivial (fun hHeld => ?_)
            clear hK K
            try simp only [Act.put, List.setIfInBounds_toArray, List.set_cons_zero, List.set_cons_succ]
            refine wpAnyH_done (by kernel_rfl) ?_ _
            go_wp2
            first | go_end0 | (refine bodyPost_ret (results_none rfl _ _ _) rfl ?_)
            refine ⟨rfl, ⟨.slice (some ⟨gn, 0, none⟩) (acc2.length + 1) cn, ?_⟩, (hB.trans q4).setCell (by simpa using hp) _⟩
            rw [HE.out]
            exact Holds.put hne q1 q2 q3
          · refine step_build_run (by rfl) 24 1 _ rfl #[(0, .agg D)] rfl _ _ (build_one _ _ hdd D HD) ?_
            obtain ⟨gn, cn, w4, hrun, q1, q2, q3, q4⟩ := HH.out.append htf (Nat.le_trans hBw hB.size) hsh _ hdd D HD
            replace HH := hidk (HH.out.keep ((Below.refl _ _).alloc (Nat.le_refl _) (.cells D 23)))
            refine hK.out _ _ trivial (fun hHeld => ?_)
            clear hK K
            try simp only [Act.put, List.setIfInBounds_toArray, List.set_cons_zero, List.set_cons_succ]
            refine wpAnyH_ready (rs := [0]) (by kernel_rfl) (by simp) ?_
            refine (AllReadyH.cons (o := { dst := some 24, op := Op.load 24 (Operand.tmp 3), type := 24, pos := "tree.go:51", after := #[], guard := none }) rfl (fun K hK => ?_) AllReadyH.nil)
            have hc := cell_of_one HH.out.proof
            go_simp
            clear hc
            refine hK.out _ _ trivial (fun hHeld => ?_)
            clear hK K
            try simp only [Act.put, List.setIfInBounds_toArray, List.set_cons_zero, List.set_cons_succ]
            refine wpAnyH_ready (rs := [4]) (by kernel_rfl) (by simp) ?_
            refine (AllReadyH.cons (o := { dst := some 28, op := Op.call { callee := Callee.builtin Builtin.append, args := #[Operand.tmp 24, Operand.tmp 27], argTypes := #[24, 24] }, type := 24, pos := "tree.go:51", after := #[{ on := 0, ground := Ground.data }, { on := 3, ground := Ground.data }, { on := 2, ground := Ground.chain }], guard := none }) rfl (fun K hK => ?_) AllReadyH.nil)
            refine step_append_run rfl (.tmp 24) (.tmp 27) 24 24 rfl v2 _ _ w4 rfl rfl hrun ?_
            refine hK.out _ _ trivial (fun hHeld => ?_)
            clear hK K
            try simp only [Act.put, List.setIfInBounds_toArray, List.set_cons_zero, List.set_cons_succ]
            refine wpAnyH_ready (rs := [5]) (by kernel_rfl) (by simp) ?_
            refine (AllReadyH.cons (o := { dst := none, op := Op.store 24 (Operand.tmp 3) (Operand.tmp 28), type := 0, pos := "tree.go:51", after := #[{ on := 4, ground := Ground.data }, { on := 4, ground := Ground.chain }, { on := 0, ground := Ground.phase }, { on := 1, ground := Ground.phase }, { on := 2, ground := Ground.phase }, { on := 3, ground := Ground.phase }, { on := 4, ground := Ground.phase }], guard := none }) rfl (fun K hK => ?_) AllReadyH.nil)
            have hc := cell_of_one q1
            have hfz := free_of_one q1
            go_simp
            clear hc hfz
            refine hK.out _ _ trivial (fun hHeld => ?_)
            clear hK K
            try simp only [Act.put, List.setIfInBounds_toArray, List.set_cons_zero, List.set_cons_succ]
            refine wpAnyH_done (by kernel_rfl) ?_ _
            go_wp2
            first | go_end0 | (refine bodyPost_ret (results_none rfl _ _ _) rfl ?_)
            refine ⟨rfl, ⟨.slice (some ⟨gn, 0, none⟩) (acc2.length + 1) cn, ?_⟩, (hB.trans q4).setCell (by simpa using hp) _⟩
            rw [HE.out]
            exact Holds.put hne q1 q2 q3
      · -- the right part
        have HE : Hid (acc ++ incl l i = (acc ++ incl (l.drop k) (i - k)) ++ [root (l.take k)]) := by
          show _ = _
          rw [incl_right l i (by omega) (by rw [hlen, ← hk]; omega), hlen, ← hk, List.append_assoc]
        have IH : Hid (∀ W v, Below B w W → Holds B gp gf 61 (FI gp gf) v acc W → Calls Tryd.prog 35 #[.slice (some ⟨g, o + 32 * k, none⟩) (len - k) (cap - k), .int .i64 ((i : Int) - (k : Int)), .pointer (some ⟨gf, 0, none⟩), .pointer (some ⟨gp, 0, none⟩)] W fun e w' =>
            e = .returned (.tuple #[]) ∧ (∃ v', Holds B gp gf 61 (FI gp gf) v' (acc ++ incl (l.drop k) (i - k)) w') ∧ Below B W w') := fun W v hb hh => by
          rw [show ((i : Int) - (k : Int)) = ((i - k : Nat) : Int) by omega]
          exact ih (len - k) (by omega) g (o + 32 * k) (len - k) (cap - k) (i - k) (l.drop k) acc v W rfl ((hR.below hb low).drop k (by omega)) hg (by omega) (by omega) (Nat.le_trans hBw hb.size) hh (table_low hK hb hKB)
        obtain ⟨D, HD⟩ : ∃ D, Hid (D = (cellsOf (root (l.take k))).toArray) := ⟨_, (rfl : (cellsOf (root (l.take k))).toArray = _)⟩
        have hdd : (root (l.take k)).length = 32 := root_length sumD_length _ (hR.2.1.take k)
        have RR : Hid (∀ W, Below B w W → Calls Tryd.prog 20 #[.slice (some ⟨g, o, none⟩) k cap] W fun e w' => e = .returned (.agg D) ∧ Below W.heap.size W w') := fun W hb =>
          root_any _ _ _ _ (l.take k) W rfl ((hR.below hb low).take k (by omega)) (table_low hK hb hKB) D HD
        have hsh : (acc ++ incl (l.drop k) (i - k)).length + 1 ≤ 1000000 := by
          have := incl_len (l.drop k) (i - k) (by simp only [List.length_take, List.length_drop]; omega)
          simp only [List.length_append, List.length_take, List.length_drop] at this ⊢
          omega
        obtain ⟨acc2, HA2⟩ : ∃ x, Hid (x = acc ++ incl (l.drop k) (i - k)) := ⟨_, (rfl : acc ++ incl (l.drop k) (i - k) = _)⟩
        rw [← HA2.out] at HE hsh IH
        have HH0 : Hid (Holds B gp gf 61 (FI gp gf) v acc w) := hH
        have hw := wrap_int ((i : Int) - (k : Int)) (by omega) (by omega)
        have hdl : (decide ((i : Int) < (k : Int))) = false := by rw [decide_eq_false_iff_not]; omega
        clear hK hR ih hH hlen hk HA2 low hac
        go_enter Tryd.func35, Tryd.ntmps35
        go_wp2_with fail
        refine (P.out _).mono ?_
        rintro e w1 ⟨rfl, hb1⟩
        have HH1 : Hid (Holds B gp gf 61 (FI gp gf) v acc w1) := HH0.out.keep hb1
        have hB1 : Below B w w1 := hb1.mono hBw
        have hcf : w1.cell? ⟨gf, 0, none⟩ = some (.func (.func 35) #[] #[.pointer (some ⟨gf, 0, none⟩), .pointer (some ⟨gp, 0, none⟩)]) := cell_of_one HH1.out.prove
        clear hb1 P HH0
        go_wp2_with fail
        refine (IH.out _ _ hB1 HH1.out).mono ?_
        rintro e w2 ⟨rfl, ⟨v2, hh2⟩, hb2⟩
        have HH : Hid (Holds B gp gf 61 (FI gp gf) v2 acc2 w2.drew) := hh2.drew
        have hB : Below B w w2.drew := (hB1.trans hb2).drew
        clear hb2 hh2 hB1 HH1 hcf IH
        go_wp2
        refine wp_region_held_drew (S := (fun _ => True)) (by kernel_rfl) trivial (fun hHeld => ?_)
        refine wpAnyH_take (i := 1) (oi := { dst := some 37, op := Op.move (Operand.tmp 6), type := 24, pos := "tree.go:55", after := #[], guard := none }) (v := .slice (some ⟨g, o, none⟩) k cap) rfl (by kernel_rfl) (by kernel_rfl) (by kernel_rfl) (fun _ _ _ h => h) (Or.inl ⟨by rfl, by intro W hSw; go_simp⟩) hHeld ?_
        try simp only [Act.put, List.setIfInBounds_toArray, List.set_cons_zero, List.set_cons_succ]
        refine wpAnyH_ready (rs := [0, 2]) (by kernel_rfl) (by simp) ?_
        refine (AllReadyH.cons (o := { dst := some 36, op := Op.load 24 (Operand.tmp 3), type := 24, pos := "tree.go:55", after := #[], guard := none }) rfl (fun K hK => ?_) (AllReadyH.cons (o := { dst := some 38, op := Op.call { callee := Callee.value (Operand.func 20), args := #[Operand.tmp 37], argTypes := #[24] }, type := 23, pos := "tree.go:55", after := #[{ on := 1, ground := Ground.data }], guard := none }) rfl (fun K hK => ?_) AllReadyH.nil))
        · have hc := cell_of_one HH.out.proof
          go_simp
          clear hc
          refine hK.out _ _ trivial (fun hHeld => ?_)
          clear hK K
          try simp only [Act.put, List.setIfInBounds_toArray, List.set_cons_zero, List.set_cons_succ]
          refine wpAnyH_ready (rs := [2]) (by kernel_rfl) (by simp) ?_
          refine (AllReadyH.cons (o := { dst := some 38, op := Op.call { callee := Callee.value (Operand.func 20), args := #[Operand.tmp 37], argTypes := #[24] }, type := 23, pos := "tree.go:55", after := #[{ on := 1, ground := Ground.data }], guard := none }) rfl (fun K hK => ?_) AllReadyH.nil)
          go_simp
          refine (RR.out _ hB).mono ?_
          rintro e w2 ⟨rfl, hb2⟩
          replace HH := hidk (HH.out.keep hb2)
          replace hB := hB.trans (hb2.mono (Nat.le_trans hBw hB.size))
          go_wp2_with fail
          refine hK.out _ _ trivial (fun hHeld => ?_)
          clear hK K
          try simp only [Act.put, List.setIfInBounds_toArray, List.set_cons_zero, List.set_cons_succ]
          refine wpAnyH_ready (rs := [3]) (by kernel_rfl) (by simp) ?_
          refine (AllReadyH.cons (o := { dst := some 39, op := Op.buildSlice 24 1 #[(0, Operand.tmp 38)], type := 24, pos := "tree.go:55", after := #[{ on := 2, ground := Ground.data }], guard := none }) rfl (fun K hK => ?_) AllReadyH.nil)
          refine step_build_run (by rfl) 24 1 _ rfl #[(0, .agg D)] rfl _ _ (build_one _ _ hdd D HD) ?_
          obtain ⟨gn, cn, w4, hrun, q1, q2, q3, q4⟩ := HH.out.append htf (Nat.le_trans hBw hB.size) hsh _ hdd D HD
          replace HH := hidk (HH.out.keep ((Below.refl _ _).alloc (Nat.le_refl _) (.cells D 23)))
          refine hK.out _ _ trivial (fun hHeld => ?_)
          clear hK K
          try simp only [Act.put, List.setIfInBounds_toArray, List.set_cons_zero, List.set_cons_succ]
          refine wpAnyH_ready (rs := [4]) (by kernel_rfl) (by simp) ?_
          refine (AllReadyH.cons (o := { dst := some 40, op := Op.call { callee := Callee.builtin Builtin.append, args := #[Operand.tmp 36, Operand.tmp 39], argTypes := #[24, 24] }, type := 24, pos := "tree.go:55", after := #[{ on := 0, ground := Ground.data }, { on := 3, ground := Ground.data }, { on := 2, ground := Ground.chain }], guard := none }) rfl (fun K hK => ?_) AllReadyH.nil)
          refine step_append_run rfl (.tmp 36) (.tmp 39) 24 24 rfl v2 _ _ w4 rfl rfl hrun ?_
          refine hK.out _ _ trivial (fun hHeld => ?_)
          clear hK K
          try simp only [Act.put, List.setIfInBounds_toArray, List.set_cons_zero, List.set_cons_succ]
          refine wpAnyH_ready (rs := [5]) (by kernel_rfl) (by simp) ?_
          refine (AllReadyH.cons (o := { dst := none, op := Op.store 24 (Operand.tmp 3) (Operand.tmp 40), type := 0, pos := "tree.go:55", after := #[{ on := 4, ground := Ground.data }, { on := 4, ground := Ground.chain }, { on := 0, ground := Ground.phase }, { on := 1, ground := Ground.phase }, { on := 2, ground := Ground.phase }, { on := 3, ground := Ground.phase }, { on := 4, ground := Ground.phase }], guard := none }) rfl (fun K hK => ?_) AllReadyH.nil)
          have hc := cell_of_one q1
          have hfz := free_of_one q1
          go_simp
          clear hc hfz
          refine hK.out _ _ trivial (fun hHeld => ?_)
          clear hK K
          try simp only [Act.put, List.setIfInBounds_toArray, List.set_cons_zero, List.set_cons_succ]
          refine wpAnyH_done (by kernel_rfl) ?_ _
          go_wp2
          first | go_end0 | (refine bodyPost_ret (results_none rfl _ _ _) rfl ?_)
          refine ⟨rfl, ⟨.slice (some ⟨gn, 0, none⟩) (acc2.length + 1) cn, ?_⟩, (hB.trans q4).setCell (by simpa using hp) _⟩
          rw [HE.out]
          exact Holds.put hne q1 q2 q3
        · go_simp
          refine (RR.out _ hB).mono ?_
          rintro e w2 ⟨rfl, hb2⟩
          replace HH := hidk (HH.out.keep hb2)
          replace hB := hB.trans (hb2.mono (Nat.le_trans hBw hB.size))
          go_wp2_with fail
          refine hK.out _ _ trivial (fun hHeld => ?_)
          clear hK K
          try simp only [Act.put, List.setIfInBounds_toArray, List.set_cons_zero, List.set_cons_succ]
          refine wpAnyH_ready (rs := [0, 3]) (by kernel_rfl) (by simp) ?_
          refine (AllReadyH.cons (o := { dst := some 36, op := Op.load 24 (Operand.tmp 3), type := 24, pos := "tree.go:55", after := #[], guard := none }) rfl (fun K hK => ?_) (AllReadyH.cons (o := { dst := some 39, op := Op.buildSlice 24 1 #[(0, Operand.tmp 38)], type := 24, pos := "tree.go:55", after := #[{ on := 2, ground := Ground.data }], guard := none }) rfl (fun K hK => ?_) AllReadyH.nil))
          · have hc := cell_of_one HH.out.proof
            go_simp
            clear hc
            refine hK.out _ _ trivial (fun hHeld => ?_)
            clear hK K
            try simp only [Act.put, List.setIfInBounds_toArray, List.set_cons_zero, List.set_cons_succ]
            refine wpAnyH_ready (rs := [3]) (by kernel_rfl) (by simp) ?_
            refine (AllReadyH.cons (o := { dst := some 39, op := Op.buildSlice 24 1 #[(0, Operand.tmp 38)], type := 24, pos := "tree.go:55", after := #[{ on := 2, ground := Ground.data }], guard := none }) rfl (fun K hK => ?_) AllReadyH.nil)
            refine step_build_run (by rfl) 24 1 _ rfl #[(0, .agg D)] rfl _ _ (build_one _ _ hdd D HD) ?_
            obtain ⟨gn, cn, w4, hrun, q1, q2, q3, q4⟩ := HH.out.append htf (Nat.le_trans hBw hB.size) hsh _ hdd D HD
            replace HH := hidk (HH.out.keep ((Below.refl _ _).alloc (Nat.le_refl _) (.cells D 23)))
            refine hK.out _ _ trivial (fun hHeld => ?_)
            clear hK K
            try simp only [Act.put, List.setIfInBounds_toArray, List.set_cons_zero, List.set_cons_succ]
            refine wpAnyH_ready (rs := [4]) (by kernel_rfl) (by simp) ?_
            refine (AllReadyH.cons (o := { dst := some 40, op := Op.call { callee := Callee.builtin Builtin.append, args := #[Operand.tmp 36, Operand.tmp 39], argTypes := #[24, 24] }, type := 24, pos := "tree.go:55", after := #[{ on := 0, ground := Ground.data }, { on := 3, ground := Ground.data }, { on := 2, ground := Ground.chain }], guard := none }) rfl (fun K hK => ?_) AllReadyH.nil)
            refine step_append_run rfl (.tmp 36) (.tmp 39) 24 24 rfl v2 _ _ w4 rfl rfl hrun ?_
            refine hK.out _ _ trivial (fun hHeld => ?_)
            clear hK K
            try simp only [Act.put, List.setIfInBounds_toArray, List.set_cons_zero, List.set_cons_succ]
            refine wpAnyH_ready (rs := [5]) (by kernel_rfl) (by simp) ?_
            refine (AllReadyH.cons (o := { dst := none, op := Op.store 24 (Operand.tmp 3) (Operand.tmp 40), type := 0, pos := "tree.go:55", after := #[{ on := 4, ground := Ground.data }, { on := 4, ground := Ground.chain }, { on := 0, ground := Ground.phase }, { on := 1, ground := Ground.phase }, { on := 2, ground := Ground.phase }, { on := 3, ground := Ground.phase }, { on := 4, ground := Ground.phase }], guard := none }) rfl (fun K hK => ?_) AllReadyH.nil)
            have hc := cell_of_one q1
            have hfz := free_of_one q1
            go_simp
            clear hc hfz
            refine hK.out _ _ trivial (fun hHeld => ?_)
            clear hK K
            try simp only [Act.put, List.setIfInBounds_toArray, List.set_cons_zero, List.set_cons_succ]
            refine wpAnyH_done (by kernel_rfl) ?_ _
            go_wp2
            first | go_end0 | (refine bodyPost_ret (results_none rfl _ _ _) rfl ?_)
            refine ⟨rfl, ⟨.slice (some ⟨gn, 0, none⟩) (acc2.length + 1) cn, ?_⟩, (hB.trans q4).setCell (by simpa using hp) _⟩
            rw [HE.out]
            exact Holds.put hne q1 q2 q3
          · refine step_build_run (by rfl) 24 1 _ rfl #[(0, .agg D)] rfl _ _ (build_one _ _ hdd D HD) ?_
            obtain ⟨gn, cn, w4, hrun, q1, q2, q3, q4⟩ := HH.out.append htf (Nat.le_trans hBw hB.size) hsh _ hdd D HD
            replace HH := hidk (HH.out.keep ((Below.refl _ _).alloc (Nat.le_refl _) (.cells D 23)))
            refine hK.out _ _ trivial (fun hHeld => ?_)
            clear hK K
            try simp only [Act.put, List.setIfInBounds_toArray, List.set_cons_zero, List.set_cons_succ]
            refine wpAnyH_ready (rs := [0]) (by kernel_rfl) (by simp) ?_
            refine (AllReadyH.cons (o := { dst := some 36, op := Op.load 24 (Operand.tmp 3), type := 24, pos := "tree.go:55", after := #[], guard := none }) rfl (fun K hK => ?_) AllReadyH.nil)
            have hc := cell_of_one HH.out.proof
            go_simp
            clear hc
            refine hK.out _ _ trivial (fun hHeld => ?_)
            clear hK K
            try simp only [Act.put, List.setIfInBounds_toArray, List.set_cons_zero, List.set_cons_succ]
            refine wpAnyH_ready (rs := [4]) (by kernel_rfl) (by simp) ?_
            refine (AllReadyH.cons (o := { dst := some 40, op := Op.call { callee := Callee.builtin Builtin.append, args := #[Operand.tmp 36, Operand.tmp 39], argTypes := #[24, 24] }, type := 24, pos := "tree.go:55", after := #[{ on := 0, ground := Ground.data }, { on := 3, ground := Ground.data }, { on := 2, ground := Ground.chain }], guard := none }) rfl (fun K hK => ?_) AllReadyH.nil)
            refine step_append_run rfl (.tmp 36) (.tmp 39) 24 24 rfl v2 _ _ w4 rfl rfl hrun ?_
            refine hK.out _ _ trivial (fun hHeld => ?_)
            clear hK K
            try simp only [Act.put, List.setIfInBounds_toArray, List.set_cons_zero, List.set_cons_succ]
            refine wpAnyH_ready (rs := [5]) (by kernel_rfl) (by simp) ?_
            refine (AllReadyH.cons (o := { dst := none, op := Op.store 24 (Operand.tmp 3) (Operand.tmp 40), type := 0, pos := "tree.go:55", after := #[{ on := 4, ground := Ground.data }, { on := 4, ground := Ground.chain }, { on := 0, ground := Ground.phase }, { on := 1, ground := Ground.phase }, { on := 2, ground := Ground.phase }, { on := 3, ground := Ground.phase }, { on := 4, ground := Ground.phase }], guard := none }) rfl (fun K hK => ?_) AllReadyH.nil)
            have hc := cell_of_one q1
            have hfz := free_of_one q1
            go_simp
            clear hc hfz
            refine hK.out _ _ trivial (fun hHeld => ?_)
            clear hK K
            try simp only [Act.put, List.setIfInBounds_toArray, List.set_cons_zero, List.set_cons_succ]
            refine wpAnyH_done (by kernel_rfl) ?_ _
            go_wp2
            first | go_end0 | (refine bodyPost_ret (results_none rfl _ _ _) rfl ?_)
            refine ⟨rfl, ⟨.slice (some ⟨gn, 0, none⟩) (acc2.length + 1) cn, ?_⟩, (hB.trans q4).setCell (by simpa using hp) _⟩
            rw [HE.out]
            exact Holds.put hne q1 q2 q3

set_option maxHeartbeats 1000000 in
theorem inclusion_out (a : Option Addr) (len cap : Nat) (i : Int) (w : World) (hm : len ≤ maxLen) (hi : i < 0 ∨ (len : Int) ≤ i) :
    Calls Tryd.prog 18 #[.slice a len cap, .int .i64 i] w fun e w' => e = .returned (.tuple #[.slice none 0 0, .int .i64 20]) ∧ Below w.heap.size w w' := by
  by_cases h0 : i < 0
  · have hd : decide (i < 0) = true := by rw [decide_eq_true_eq]; exact h0
    go_enter Tryd.func18, Tryd.ntmps18
    go_wp2
    go_ret2
    exact ⟨rfl, Below.refl _ _⟩
  · have hd : decide (i < 0) = false := by rw [decide_eq_false_iff_not]; exact h0
    have hd2 : decide ((len : Int) ≤ i) = true := by rw [decide_eq_true_eq]; omega
    go_enter Tryd.func18, Tryd.ntmps18
    go_wp2
    go_ret2
    exact ⟨rfl, Below.refl _ _⟩

set_option maxHeartbeats 1000000 in
theorem inclusion_in (a : Option Addr) (len cap : Nat) (l : List (List UInt8)) (i : Nat) (w : World) (hR : LReads w a len cap l) (hi : i < len) (hl : len ≤ 100000) (hK : Table 0 w) :
    Calls Tryd.prog 18 #[.slice a len cap, .int .i64 i] w fun e w' => ∃ v, e = .returned (.tuple #[v, .int .i64 0]) ∧ w'.ownsRow w.heap.size 23 32 v (incl l i).length (cellsOf (incl l i).flatten) ∧ Below w.heap.size w w' := by
  obtain ⟨g, o, rfl, hg⟩ := hR.at (by omega)
  have hd : decide ((i : Int) < 0) = false := by rw [decide_eq_false_iff_not]; omega
  have hd2 : decide ((len : Int) ≤ (i : Int)) = false := by rw [decide_eq_false_iff_not]; omega
  have hK0 := hK.1
  have hd3 : decide (len ≤ i) = false := by rw [decide_eq_false_iff_not]; omega
  have PV : Hid (∀ W, Below w.heap.size w W → Holds w.heap.size w.heap.size (w.heap.size + 1) 61 (FI w.heap.size (w.heap.size + 1)) (.slice none 0 0) [] W →
      Calls Tryd.prog 35 #[.slice (some ⟨g, o, none⟩) len cap, .int .i64 i, .pointer (some ⟨w.heap.size + 1, 0, none⟩), .pointer (some ⟨w.heap.size, 0, none⟩)] W fun e w' =>
      e = .returned (.tuple #[]) ∧ (∃ v', Holds w.heap.size w.heap.size (w.heap.size + 1) 61 (FI w.heap.size (w.heap.size + 1)) v' (incl l i) w') ∧ Below w.heap.size W w') := fun W hb hh =>
    prove_any len g o len cap i l [] w.heap.size w.heap.size (w.heap.size + 1) _ W rfl (hR.keep hb) hg hi (Nat.le_refl _) (by omega) (by simp; omega) hb.size hh (hK.keep hb) hK0
  have HS : Hid (Holds w.heap.size w.heap.size (w.heap.size + 1) 61 (FI w.heap.size (w.heap.size + 1)) (.slice none 0 0) [] ((w.alloc (.cells #[.slice none 0 0] 24)).alloc (.cells #[FI w.heap.size (w.heap.size + 1)] 61))) :=
    ⟨heap_alloc2_old w _ _, heap_alloc2_new w _ _, World.ownsRow_nil _ _ _ _⟩
  have HB : Hid (Below w.heap.size w ((w.alloc (.cells #[.slice none 0 0] 24)).alloc (.cells #[FI w.heap.size (w.heap.size + 1)] 61))) := ((Below.refl _ _).alloc (Nat.le_refl _) _).alloc (by simp) _
  clear hK hR
  go_enter Tryd.func18, Tryd.ntmps18
  go_wp2_with fail
  refine (PV.out _ HB.out HS.out).mono ?_
  rintro e w2 ⟨rfl, ⟨v, hh⟩, hb2⟩
  have hcv := cell_of_one hh.proof
  have HO : Hid (w2.ownsRow w.heap.size 23 32 v (incl l i).length (cellsOf (incl l i).flatten) ∧ Below w.heap.size w w2) := ⟨hh.own, HB.out.trans hb2⟩
  clear hh hb2 PV HS HB
  go_wp2
  go_ret2
  exact ⟨v, rfl, HO.out⟩
end Go.Proofs.YtehfoeedlchphaaDoor
