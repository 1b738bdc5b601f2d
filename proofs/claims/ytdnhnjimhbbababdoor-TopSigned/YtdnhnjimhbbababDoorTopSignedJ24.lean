/- Texts of our own that the row of TopSigned leans on, part 24. -/
import Derived.Test.YtdnhnjimhbbababDoorTopSignedJ10
import Derived.Test.YtdnhnjimhbbababDoorTopSignedJ11
import Derived.Test.YtdnhnjimhbbababDoorTopSignedJ13
import Derived.Test.YtdnhnjimhbbababDoorTopSignedJ23
import Derived.OpenShut

/- Lists of digests and of heads that grow in a call; heads read in them. -/
namespace Go.Proofs.YtdnhnjimhbbababDoor
open Go.RowKit Sums P7
set_option linter.unusedVariables false
set_option linter.unusedSimpArgs false
set_option maxRecDepth 100000
/-- One thing put behind a list of the call's own: the list lies where it lay, or in a new block. -/
theorem append_gen {tL tE : TypeId} {i0 : TypeInfo} {z : Value} {sz by' : Nat} (hu : Tryd.prog.underlying tL = some (.slice tE)) (hi : Tryd.prog.info? tE = some i0) (hz0 : i0.zero = some z) (hz1 : i0.size = sz) (hz2 : i0.bytes = by') (hzs : z.cells.size = sz) (hsz : 0 < sz) (hsz2 : sz ≤ 100) (hby : by' ≤ 100)
    (W : World) (B n : Nat) (v : Value) (xs : List Value) (hown : W.ownsRow B tE sz v n xs) (a : Addr) (news : List Value) (hl : news.length = sz)
    (hN : ∀ j u, news[j]? = some u → W.cell? (a.add j) = some u) (h1 : ∀ u ∈ news, u.oneCell' = true) (hB : B ≤ W.heap.size) (hlen : n + 1 ≤ 1000000) :
    ∃ v' w', (Builtin.append_ #[tL, tL] tL #[v, .slice (some a) 1 1]).run Tryd.prog W = .ok v' w' ∧ w'.ownsRow B tE sz v' (n + 1) (xs ++ news) ∧ W.grownBy w' v.ownBlock ∧ (v'.ownBlock = v.ownBlock ∨ ∃ q, v'.ownBlock = some q ∧ W.heap.size ≤ q) := by
  have hl1 : news.length = 1 * sz := by omega
  have hbb : (n + 1) * by' ≤ 100000000 := by
    have := Nat.mul_le_mul hlen hby
    omega
  obtain ⟨v', w', hr, ho, hg, _⟩ := run_append_own (P := Tryd.prog) W B tL tL tE i0 z sz by' hu hi hz0 hz1 hz2 hzs hsz v n _ hown a 1 1 news
    hl1 hN h1 (by unfold maxLen; omega) (by omega) hB
  refine ⟨v', w', hr, ho, hg, ?_⟩
  have hi1 : news.length = 1 * i0.size := by rw [hz1, hl1]
  rcases hown.2 with ⟨rfl, h0⟩ | ⟨g, cap, cur, rfl, hbg, hgg, hnc, hcm, hcs, htake⟩
  · have := run_append_nil (P := Tryd.prog) W tL tL tE i0 _ hu hi hz0 a 1 1 news hi1 hN (by omega) (by omega) (by omega)
    rw [hr] at this
    cases this
    exact .inr ⟨W.heap.size, rfl, Nat.le_refl _⟩
  · by_cases hroom : n + 1 ≤ cap
    · have hfit : n * i0.size + news.length ≤ cur.size := by
        rw [hz1, hl, hcs]
        have := Nat.mul_le_mul_right sz hroom
        rw [Nat.add_mul] at this
        omega
      have := run_append_room (P := Tryd.prog) W tL tL tE i0 hu hi g n cap cur hgg a 1 1 news hi1 hN h1 hroom hfit
      rw [hr] at this
      cases this
      exact .inl rfl
    · have hx : xs.length = n * i0.size := by rw [hz1]; exact hown.1
      have := run_append_grow (P := Tryd.prog) W tL tL tE i0 _ hu hi hz0 ⟨g, 0, none⟩ n cap xs hx (hown.cells (g := g) rfl) a 1 1 news hi1 hN (by omega) (by omega) (growslice_fits (by omega) (by rw [hz2]; omega))
      rw [hr] at this
      cases this
      exact .inr ⟨W.heap.size, rfl, Nat.le_refl _⟩
/-- What is written into a list of the call's own is not seen elsewhere. -/
theorem LReads.grown {W W' : World} {y : Option Addr} {m cy : Nat} {p : List (List UInt8)} {row : Option Nat} (h : LReads W y m cy p) (hg : W.grownBy W' row) (hne : ∀ g o, y = some ⟨g, o, none⟩ → 0 < m → some g ≠ row) : LReads W' y m cy p := by
  obtain ⟨h1, h2, h3, h4, h5⟩ := h
  refine ⟨h1, h2, h3, h4, ?_⟩
  by_cases h0 : m = 0
  · exact .inl h0
  · rcases h5 with h5 | ⟨g, o, ha, hl⟩
    · exact .inl h5
    · refine .inr ⟨g, o, ha, fun i hi => ?_⟩
      have hc := hl i hi
      have hlt := World.block_lt_of_cell? _ _ hc
      rw [World.cell?_of_block (hg.block g hlt (hne g o ha (by omega)))]
      exact hc
theorem LReads.wroteG {W W' : World} {y : Option Addr} {m cy gl : Nat} {p : List (List UInt8)} (h : LReads W y m cy p) (ho : ∀ k, k ≠ gl → W'.heap[k]? = W.heap[k]?) (hne : ∀ g o, y = some ⟨g, o, none⟩ → 0 < m → g ≠ gl) : LReads W' y m cy p := by
  obtain ⟨h1, h2, h3, h4, h5⟩ := h
  refine ⟨h1, h2, h3, h4, ?_⟩
  by_cases h0 : m = 0
  · exact .inl h0
  · rcases h5 with h5 | ⟨g, o, ha, hl⟩
    · exact .inl h5
    · refine .inr ⟨g, o, ha, fun i hi => ?_⟩
      have hc := hl i hi
      rw [World.cell?_of_block (ho g (hne g o ha (by omega)))]
      exact hc
theorem own_typed {B n sz : Nat} {tE : TypeId} {v : Value} {xs : List Value} {w : World} {b : Nat} {c : Array Value} {t : TypeId} {m : Nat × Nat} (h : w.ownsRow B tE sz v n xs) (hb : w.heap[b]? = some (.cells c t m)) (ht : t ≠ tE) : some b ≠ v.ownBlock := by
  intro e
  rcases h.2 with ⟨rfl, _⟩ | ⟨g, cap, cur, rfl, _, hgb, _⟩
  · simp [Value.ownBlock] at e
  · obtain rfl : b = g := by simpa [Value.ownBlock] using e
    rw [hgb] at hb
    cases hb
    exact ht rfl
theorem own_two {B n n' sz sz' : Nat} {tE tE' : TypeId} {v v' : Value} {xs xs' : List Value} {w : World} (h : w.ownsRow B tE sz v n xs) (h' : w.ownsRow B tE' sz' v' n' xs') (ht : tE ≠ tE') : v.ownBlock = none ∨ v.ownBlock ≠ v'.ownBlock := by
  rcases h.2 with ⟨rfl, _⟩ | ⟨g, cap, cur, rfl, _, hgb, _⟩
  · exact .inl rfl
  · refine .inr fun e => ?_
    exact own_typed h' hgb ht e
/-! Heads. -/
theorem infoHB : (Tryd.prog.info? 38).map (fun i => (i.zero, i.size, i.bytes)) = some (some (.agg (hcells zeroH).toArray), 36, 64) := by kernel_rfl
def hdsC (l : List HdT) : List Value := (l.map hcells).flatten
theorem hdsC_snoc (l : List HdT) (h : HdT) : hdsC (l ++ [h]) = hdsC l ++ hcells h := by unfold hdsC; simp
theorem hdsC_at : ∀ (l : List HdT) (hl : ∀ h ∈ l, h.d.length = 32) (k : Nat) (hk : k < l.length) (j : Nat) (hj : j < 36), (hdsC l)[36 * k + j]? = (hcells l[k])[j]?
  | h :: r, hl, 0, _, j, hj => by
    have h1 := hcells_length h (hl h (List.mem_cons_self ..))
    show (hcells h ++ hdsC r)[36 * 0 + j]? = (hcells h)[j]?
    rw [Nat.mul_zero, Nat.zero_add, List.getElem?_append_left (by omega)]
  | h :: r, hl, k + 1, hk, j, hj => by
    have h1 := hcells_length h (hl h (List.mem_cons_self ..))
    have hk' : k < r.length := by simpa using hk
    have ih := hdsC_at r (fun x hx => hl x (List.mem_cons_of_mem _ hx)) k hk' j hj
    show (hcells h ++ hdsC r)[36 * (k + 1) + j]? = (hcells (r[k]'hk'))[j]?
    rw [List.getElem?_append_right (by omega), h1, ← ih]
    congr 1
    omega
theorem append_head (W : World) (B : Nat) (v : Value) (l : List HdT) (h : HdT) (hd : h.d.length = 32) (hown : W.ownsRow B 38 36 v l.length (hdsC l)) (a : Addr)
    (hN : ∀ j u, (hcells h)[j]? = some u → W.cell? (a.add j) = some u) (hB : B ≤ W.heap.size) (hlen : l.length + 1 ≤ 1000000) :
    ∃ v' w', (Builtin.append_ #[29, 29] 29 #[v, .slice (some a) 1 1]).run Tryd.prog W = .ok v' w' ∧ w'.ownsRow B 38 36 v' (l ++ [h]).length (hdsC (l ++ [h])) ∧ W.grownBy w' v.ownBlock ∧ (v'.ownBlock = v.ownBlock ∨ ∃ q, v'.ownBlock = some q ∧ W.heap.size ≤ q) := by
  obtain ⟨i0, hi, hz0, hz1, hz2⟩ := info_parts infoHB
  have hu : Tryd.prog.underlying 29 = some (.slice 38) := Tryd.underlying29
  have := append_gen hu hi hz0 hz1 hz2 (by rfl) (by decide) (by decide) (by decide) W B l.length v _ hown a (hcells h) (hcells_length h hd) hN (fun u hu => by
    have := one_cells h
    rw [Array.all_eq_true'] at this
    exact this u (by simpa using hu)) hB hlen
  rw [List.length_append, hdsC_snoc]
  exact this
theorem append_dig (W : World) (B : Nat) (v : Value) (l : List (List UInt8)) (d : List UInt8) (hd : d.length = 32) (hown : W.ownsRow B 30 32 v l.length (cellsOf l.flatten)) (a : Addr)
    (hN : ∀ j u, (cellsOf d)[j]? = some u → W.cell? (a.add j) = some u) (hB : B ≤ W.heap.size) (hlen : l.length + 1 ≤ 1000000) :
    ∃ v' w', (Builtin.append_ #[26, 26] 26 #[v, .slice (some a) 1 1]).run Tryd.prog W = .ok v' w' ∧ w'.ownsRow B 30 32 v' (l ++ [d]).length (cellsOf (l ++ [d]).flatten) ∧ W.grownBy w' v.ownBlock ∧ (v'.ownBlock = v.ownBlock ∨ ∃ q, v'.ownBlock = some q ∧ W.heap.size ≤ q) := by
  obtain ⟨i0, hi, hz0, hz1, hz2⟩ := info_parts infoD
  have hu : Tryd.prog.underlying 26 = some (.slice 30) := Tryd.underlying26
  have := append_gen hu hi hz0 hz1 hz2 (by rfl) (by decide) (by decide) (by decide) W B l.length v _ hown a (cellsOf d) (by rw [cellsOf_length, hd]) hN (cellsOf_one _) hB hlen
  rw [List.length_append, List.flatten_append, cellsOf_append]
  simpa using this
theorem build_head (w : World) (h : HdT) (hd : h.d.length = 32) (C : Array Value) (HC : Hid (C = (hcells h).toArray)) :
    (Instr.buildSlice 29 1 #[(0, .agg C)]).run Tryd.prog w = .ok (.slice (some ⟨w.heap.size, 0, none⟩) 1 1) (w.alloc (.cells C 38)) := by
  obtain ⟨i0, hi, hz0, hz1, hz2⟩ := info_parts infoHB
  refine run_buildSlice w 29 38 1 _ _ i0 _ Tryd.underlying29 hi hz0 (by rw [hz1]; omega) (by rw [hz1]; omega) ?_
  rw [hz1]
  generalize hcs : Array.map _ (Array.range (1 * 36)) = cs
  have hcz : cs.size = 36 := by rw [← hcs]; simp
  have hC : C.size = 36 := by rw [HC.out]; simp [hcells_length h hd]
  refine (fill_val _ 0 0 36 (.agg C) C cs [] cs.toList [] [] rfl rfl hC (by simp) rfl (by simpa using hcz)).trans ?_
  simp [Instr.fill]
theorem sizeHd (w : World) : (sizeOf 38).run Tryd.prog w = .ok 36 w := by
  cases h : Tryd.prog.info? 38 with
  | none => have := infoHB; simp [h] at this
  | some i => have := infoHB; simp [h] at this; simp [sizeOf, typeInfo, h, this.2.1]
theorem index_heads (W : World) (g len cap i : Nat) (hi : i < len) : (Instr.indexAt 29 (.slice (some ⟨g, 0, none⟩) len cap) (.int .i64 i)).run Tryd.prog W = .ok (.pointer (some ⟨g, 36 * i, none⟩)) W := by
  simp [Instr.indexAt, asIntOf, run_underlying Tryd.underlying29, sizeHd, hi]
  rw [add_plain, Nat.mul_comm, Nat.zero_add]
/-- What a list of heads has. -/
theorem heads_row {W : World} {B g len cap : Nat} {l : List HdT} (hl : ∀ h ∈ l, h.d.length = 32) (h : W.ownsRow B 38 36 (.slice (some ⟨g, 0, none⟩) len cap) l.length (hdsC l)) (k : Nat) (hk : k < l.length) :
    W.cell? ⟨g, 36 * k + 2, none⟩ = some (.int .i64 l[k].s) ∧ W.rangeAt g (36 * k + 3) (cellsOf l[k].d) := by
  have hd := hl _ (List.getElem_mem hk)
  have hc := h.cells (g := g) rfl
  have each : ∀ j, j < 36 → ∀ u, (hcells l[k])[j]? = some u → W.cell? ⟨g, 36 * k + j, none⟩ = some u := fun j hj u hu => by
    have e := hdsC_at l hl k hk j hj
    have := hc (36 * k + j) u (by rw [e]; exact hu)
    rw [add_plain, Nat.zero_add] at this
    exact this
  refine ⟨each 2 (by omega) _ rfl, fun j v hj => ?_⟩
  have hj32 : j < 32 := by
    have := (List.getElem?_eq_some_iff.1 hj).1
    rw [cellsOf_length, hd] at this
    exact this
  have := each (3 + j) (by omega) v (by
    unfold hcells
    rw [List.append_assoc, List.getElem?_append_right (by simp), List.getElem?_append_left (by simp [cellsOf_length, hd]; omega)]
    simpa using hj)
  rw [← Nat.add_assoc] at this
  exact this
end Go.Proofs.YtdnhnjimhbbababDoor

/- The example of the whole's signed heads. -/
namespace Go.Proofs.YtdnhnjimhbbababDoor
open Go.RowKit Sums P7
set_option linter.unusedVariables false
set_option linter.unusedSimpArgs false
set_option maxRecDepth 100000
theorem builtY7 : Tryd.prog.built 24 [] = some (cellsOf (List.replicate 32 0)).toArray := by kernel_rfl
theorem master_any (w : World) (Z : Array Value) (HZ : Hid (Z = (cellsOf (List.replicate 32 0)).toArray)) : Calls Tryd.prog 16 #[] w fun e w' => e = .returned (.agg Z) ∧ Below w.heap.size w w' := by
  obtain ⟨Y, HY, HA, H32⟩ := noughtsY
  obtain rfl : Z = Y := by rw [HZ.out, HY.out]
  have HBY : Hid (Tryd.prog.built 24 [] = some Z) := by show _ = _; rw [HZ.out]; exact builtY7
  have HSZ : Hid ((Tryd.prog.info? 24).map (·.size) = some Z.size) := by show _ = _; rw [sizeY, H32.out]
  have H1Z : Hid (Z.all (·.oneCell') = true) := by show _ = _; rw [HZ.out]; exact cellsOf_all _
  clear HZ HY H32
  go_enter Tryd.func16, Tryd.ntmps16
  go_wp2_with (first
    | (show wpList _ _ _ ({ dst := some 0, op := _, type := _, pos := _, after := _, guard := _ } :: _) _ _; refine P7.wpList_new_var rfl 24 rfl Z HA.out ?_; intro g0 w1 HM0; try simp only [Act.put, List.setIfInBounds_toArray, List.set_cons_zero, List.set_cons_succ])
    | (show wpList _ _ _ ({ dst := some 1, op := _, type := _, pos := _, after := _, guard := _ } :: _) _ _; refine wpList_build_none rfl 24 rfl Z HBY.out ?_; try simp only [Act.put, List.setIfInBounds_toArray, List.set_cons_zero, List.set_cons_succ])
    | (refine P7.wpList_set_var rfl 24 (.tmp 0) (.tmp 1) rfl g0 Z rfl rfl 24 Z HM0.out.row HSZ.out rfl H1Z.out ?_; intro w2 HW0; try simp only [Act.put, List.setIfInBounds_toArray, List.set_cons_zero, List.set_cons_succ])
    | fail)
  refine bodyPost_ret (v := .agg Z) ?_ rfl ⟨rfl, HW0.out.below w.heap.size w HM0.out.below (Nat.le_of_eq HM0.out.new.symm)⟩
  exact results_cell_row (p := 0) (ty := 24) rfl _ _ g0 24 Z (0, 0) _ rfl HW0.out.row Tryd.underlying24 rfl HSZ.out
/-- A head whose tick is not named. -/
theorem builtH4 (r e s : Int) (d : List UInt8) (hd : d.length = 32) (D R : Array Value) (HD : Hid (D = (cellsOf d).toArray)) (HR : Hid (R = (hcells ⟨r, e, s, d, 0⟩).toArray)) : Tryd.prog.built 38 [(0, .int .i64 r), (1, .int .i64 e), (2, .int .i64 s), (3, .agg D)] = some R := by
  have hi := infoH
  cases hq : Tryd.prog.info? 38 with
  | none => rw [hq] at hi; cases hi
  | some i =>
    rw [hq] at hi
    simp only [Option.map_some, Option.some.injEq, Prod.mk.injEq] at hi
    have hD := size23
    have h3 : (Tryd.prog.info? 3).map (·.size) = some 1 := by kernel_rfl
    cases hqD : Tryd.prog.info? 30 with
    | none => rw [hqD] at hD; cases hD
    | some iD =>
      cases hq3 : Tryd.prog.info? 3 with
      | none => rw [hq3] at h3; cases h3
      | some i3 =>
        rw [hqD] at hD
        rw [hq3] at h3
        simp only [Option.map_some, Option.some.injEq] at hD h3
        unfold Program.built
        simp only [hq, Tryd.underlying38, hi.1, List.mapM_cons, List.mapM_nil, hqD, hq3, hD, h3, Option.map_some, Option.bind_eq_bind, Option.bind_some, Option.pure_def]
        show Instr.fill _ (hcells zeroH).toArray _ = some R
        have hd32 : D.size = 32 := by rw [HD.out]; simp [cellsOf_length, hd]
        refine (fill_val _ 0 0 1 (.int .i64 r) #[.int .i64 r] _ [] [.int .i64 0] ([.int .i64 0, .int .i64 0] ++ cellsOf (List.replicate 32 0) ++ [.int .i64 0]) _ rfl rfl rfl (by simp [hcells, zeroH]) rfl rfl).trans ?_
        refine (fill_val _ 1 1 1 (.int .i64 e) #[.int .i64 e] _ [.int .i64 r] [.int .i64 0] ([.int .i64 0] ++ cellsOf (List.replicate 32 0) ++ [.int .i64 0]) _ rfl rfl rfl (by simp) rfl rfl).trans ?_
        refine (fill_val _ 2 2 1 (.int .i64 s) #[.int .i64 s] _ [.int .i64 r, .int .i64 e] [.int .i64 0] (cellsOf (List.replicate 32 0) ++ [.int .i64 0]) _ rfl rfl rfl (by simp) rfl rfl).trans ?_
        refine (fill_val _ 3 3 32 (.agg D) D _ [.int .i64 r, .int .i64 e, .int .i64 s] (cellsOf (List.replicate 32 0)) [.int .i64 0] _ rfl rfl hd32 (by simp) rfl (by simp [cellsOf_length])).trans ?_
        simp only [Instr.fill, List.append_nil, Option.some.injEq]
        rw [HR.out, HD.out]
        rfl
theorem head_range {W : World} {g : Nat} {t : TypeId} {X : Array Value} (s : SgT) (hd : s.h.d.length = 32) (HX : Hid (X = (scells s).toArray)) (h : W.heap[g]? = some (.cells X t (0, 0))) : W.cell? ⟨g, 36, none⟩ = some (.int .i64 s.n) ∧ W.rangeAt g 3 (cellsOf s.h.d) ∧ W.rangeAt g 0 (hcells s.h) := by
  have hl := hcells_length s.h hd
  have each : ∀ j u, (scells s)[j]? = some u → W.cell? ⟨g, j, none⟩ = some u := fun j u hj => by
    rw [cell_of_row W g j _ t (0, 0) h, HX.out]
    simpa using hj
  have hh : ∀ j u, (hcells s.h)[j]? = some u → (scells s)[j]? = some u := fun j u hj => by
    have := (List.getElem?_eq_some_iff.1 hj).1
    unfold scells
    rw [List.append_assoc, List.getElem?_append_left this]
    exact hj
  refine ⟨each 36 _ (scells_n s hd), fun j v hj => ?_, fun j v hj => ?_⟩
  · have hj32 : j < 32 := by
      have := (List.getElem?_eq_some_iff.1 hj).1
      rw [cellsOf_length, hd] at this
      exact this
    refine each (3 + j) v (hh _ _ ?_)
    unfold hcells
    rw [List.append_assoc, List.getElem?_append_right (by simp), List.getElem?_append_left (by simp [cellsOf_length, hd]; omega)]
    simpa using hj
  · rw [Nat.zero_add]
    exact each j v (hh j v hj)
theorem leaf_apart : sumD [0, 97] ≠ sumD [] := by decide +kernel
theorem mk_one (x : List UInt8) : mkR [] 1 0 x = (x, true) := by
  have h := mkR_incl 1 [x] 0 rfl (by simp)
  have e1 : incl [x] 0 = [] := incl_one _ _ (by simp)
  have e2 : root [x] = x := root_one [x] rfl
  rw [e1, e2] at h
  exact h
set_option maxHeartbeats 16000000 in
theorem proves_true (hc : HeadC) (ck : CheckC) (w : World) (hT : TabC w) : Calls Tryd.prog 4 #[] w fun e w' => e = .returned (.bool true) ∧ Below w.heap.size w w' := by
  have h32 : (sumD [0, 97]).length = 32 := sumD_length _
  have h32e : (sumD []).length = 32 := sumD_length _
  obtain ⟨D, HD, HSD, H1D, H32D⟩ := dig_row' (sumD [0, 97]) h32
  obtain ⟨X, HX, HSX, H1X, H32X⟩ := dig_row' (sumD []) h32e
  obtain ⟨ZD, HZD, HAD, HSZD, H1ZD, H32Z⟩ := noughts27
  have HZDD : Hid (ZD.size = D.size) := by show _ = _; rw [H32Z.out, H32D.out]
  obtain ⟨Z, HZ, HA, HBZ, H69⟩ := noughtsS
  obtain ⟨Ky, HKy⟩ : ∃ K : Array Value, Hid (K = (cellsOf (List.replicate 32 0)).toArray) := ⟨_, hidk rfl⟩
  obtain ⟨h1, Hh1⟩ : ∃ h : HdT, Hid (h = ⟨1, 1, 1, sumD [0, 97], 0⟩) := ⟨_, hidk rfl⟩
  have hin : InH h1 := by rw [Hh1.out]; exact ⟨h32, by unfold In64; decide, by unfold In64; decide, by unfold In64; decide, by unfold In64; decide⟩
  have hd1 : h1.d = sumD [0, 97] := by rw [Hh1.out]
  obtain ⟨C, HC⟩ : ∃ C : Array Value, Hid (C = (hcells h1).toArray) := ⟨_, hidk rfl⟩
  obtain ⟨s1, Hs1⟩ : ∃ s : SgT, Hid (s = ⟨h1, 2, tagD (List.replicate 32 0) h1 2⟩) := ⟨_, hidk rfl⟩
  have hs1 : signO (List.replicate 32 0) h1 2 = s1 := by
    rw [Hs1.out]
    unfold signO
    rw [if_pos (by rw [Hh1.out]; rfl)]
  have hse : signE h1 2 = 0 := by unfold signE; rw [if_pos (by rw [Hh1.out]; rfl)]
  have hsd : s1.h.d.length = 32 := by rw [Hs1.out]; exact hin.d
  have hsg : s1.g.length = 32 := by rw [Hs1.out]; exact tagD_length sumD_length _ _ _
  have hsn : s1.n = 2 := by rw [Hs1.out]
  have hsh : s1.h = h1 := by rw [Hs1.out]
  have hsin : InS s1 := ⟨by rw [hsh]; exact hin, by rw [hsn]; unfold In64; decide, hsg⟩
  have hver : verE (List.replicate 32 0) s1 = 0 := by
    unfold verE
    rw [if_pos (by rw [Hs1.out, Hh1.out]; rfl), if_pos (by rw [Hs1.out])]
  obtain ⟨R, HR, HSR, H1R, H69R⟩ := sign_row s1 hsd hsg
  have HZR : Hid (Z.size = R.size) := by show _ = _; rw [H69.out, H69R.out]
  have LF : Hid (∀ W, Below w.heap.size w W → Calls Tryd.prog 5 #[.string ⟨#[97]⟩] W fun e w' => e = .returned (.agg D) ∧ Below W.heap.size W w') := fun W hb => leaf_any ⟨#[97]⟩ W (by decide) (hT.keep hb).sha D HD
  have EM : Hid (∀ W, Below w.heap.size w W → Calls Tryd.prog 17 #[] W fun e w' => e = .returned (.agg X) ∧ Below W.heap.size W w') := fun W hb => empty_any W (hT.keep hb).sha X HX
  have MS : Hid (∀ W, Calls Tryd.prog 16 #[] W fun e w' => e = .returned (.agg Ky) ∧ Below W.heap.size W w') := fun W => master_any W Ky HKy
  have SG : Hid (∀ W, Below w.heap.size w W → Calls Tryd.prog 8 #[.agg Ky, .agg C, .int .i64 2] W fun e w' => e = .returned (.tuple #[.agg R, .int .i64 0]) ∧ Below W.heap.size W w') := fun W hb => by
    have := hc.sign (List.replicate 32 0) h1 2 W Ky C R HKy HC rfl hin (by unfold In64; decide) (hT.keep hb) (by show _ = _; rw [HR.out, hs1])
    rwa [hse] at this
  have VF : Hid (∀ W, Below w.heap.size w W → Calls Tryd.prog 11 #[.agg Ky, .agg R] W fun e w' => e = .returned (.int .i64 0) ∧ Below W.heap.size W w') := fun W hb => by
    have := hc.verify (List.replicate 32 0) s1 W Ky R HKy HR rfl hsin (hT.keep hb)
    rwa [hver] at this
  have hnil : ∀ W, LReads W none 0 0 [] := fun W => ⟨rfl, (fun x hx => absurd hx (by simp) : ∀ x ∈ ([] : List (List UInt8)), x.length = 32), Nat.le_refl _, Nat.zero_le _, Or.inl rfl⟩
  have I1 : Hid (∀ W, Below w.heap.size w W → Calls Tryd.prog 14 #[.agg D, .int .i64 1, .int .i64 0, .agg D, .slice none 0 0] W fun e w' => e = .returned (.int .i64 0) ∧ Below W.heap.size W w') := fun W hb => by
    have := ck.included (sumD [0, 97]) 1 0 (sumD [0, 97]) [] none 0 0 W D D HD HD h32 h32 (by decide) (by decide) (hnil W) (hT.keep hb)
    have e : incE (sumD [0, 97]) 1 0 (sumD [0, 97]) [] = 0 := by
      have q := incE_in (sumD [0, 97]) 1 0 (sumD [0, 97]) [] (by decide) (by decide) (by decide)
      rw [List.reverse_nil, mk_one] at q
      simpa using q
    rwa [e] at this
  have I2 : Hid (∀ W, Below w.heap.size w W → Calls Tryd.prog 14 #[.agg D, .int .i64 1, .int .i64 0, .agg X, .slice none 0 0] W fun e w' => e = .returned (.int .i64 41) ∧ Below W.heap.size W w') := fun W hb => by
    have := ck.included (sumD [0, 97]) 1 0 (sumD []) [] none 0 0 W D X HD HX h32 h32e (by decide) (by decide) (hnil W) (hT.keep hb)
    have e : incE (sumD [0, 97]) 1 0 (sumD []) [] = 41 := by
      have q := incE_in (sumD [0, 97]) 1 0 (sumD []) [] (by decide) (by decide) (by decide)
      rw [List.reverse_nil, mk_one, if_pos rfl, if_neg (fun e => leaf_apart e.symm)] at q
      simpa using q
    rwa [e] at this
  have HBH : Hid (∀ W : World, (Instr.build 38 #[(0, .int .i64 1), (1, .int .i64 1), (2, .int .i64 1), (3, .agg D)]).run Tryd.prog W = .ok (.agg C) W) := fun W => run_build W _ _ C (builtH4 1 1 1 (sumD [0, 97]) h32 D C HD (by show _ = _; rw [HC.out, Hh1.out]))
  have HG : Hid (∀ (W : World) (g : Nat), W.heap[g]? = some (.cells R 40 (0, 0)) → W.cell? ⟨g, 36, none⟩ = some (.int .i64 2) ∧ W.rangeAt g 3 D.toList) := fun W g hr => by
    have := head_range s1 hsd HR hr
    rw [hsn, hsh, hd1] at this
    exact ⟨this.1, by rw [HD.out]; simpa using this.2.1⟩
  have EQ : ∀ W, (binOp .eql 30 (.agg D) (.agg D)).run Tryd.prog W = .ok (.bool true) W := fun W => eqSelf D _ h32 HD W
  clear hT HD HX HKy Hh1 hin hd1 HC Hs1 hs1 hse hsd hsg hsn hsh hsin hver HR hnil HZ HBZ H69 HZD
  go_enter Tryd.func4, Tryd.ntmps4
  go_wp2_with fail
  refine (LF.out _ (Below.refl _ _)).mono ?_
  rintro e w1 ⟨rfl, hb1⟩
  have HB1 := hidk hb1
  clear hb1 LF
  go_wp2_with (first
    | (refine wpList_new_row rfl rfl 30 rfl (.tmp 1) (.tmp 4) rfl ZD D HAD.out (fun _ => rfl) (fun _ => rfl) HSD.out HZDD.out H1D.out ?_; intro g1 w2 F2; try simp only [Act.put, List.setIfInBounds_toArray, List.set_cons_zero, List.set_cons_succ])
    | fail)
  have HB2 : Hid (w2.heap[g1]? = some (.cells D 30 (0, 0)) ∧ Below w.heap.size w w2) := ⟨F2.out.2.1, HB1.out.trans (F2.out.2.2.mono HB1.out.size)⟩
  clear F2 HB1
  refine wp_region_held_drew (S := (fun W => W.heap[g1]? = some (.cells D 30 (0, 0)) ∧ Below w.heap.size w W)) (by kernel_rfl) ⟨HB2.out.1, HB2.out.2.drew⟩ (fun hHeld => ?_)
  refine wpAnyH_take (i := 1) (oi := { dst := some 7, op := Op.load 30 (Operand.tmp 1), type := 30, pos := "top07.go:15", after := #[], guard := none }) (v := .agg D) rfl (by kernel_rfl) (by kernel_rfl) (by kernel_rfl) (fun _ _ _ h => h) (yieldsIf_row (by rfl) 30 (.tmp 1) rfl g1 rfl 30 D (0, 0) _ (fun _ h => h.1) Tryd.underlying30 rfl HSD.out) hHeld ?_
  try simp only [Act.put, List.setIfInBounds_toArray, List.set_cons_zero, List.set_cons_succ]
  refine wpAnyH_take (i := 2) (oi := { dst := some 8, op := Op.build 38 #[(0, Operand.const (Value.int IntKind.i64 1)), (1, Operand.const (Value.int IntKind.i64 1)), (2, Operand.const (Value.int IntKind.i64 1)), (3, Operand.tmp 7)], type := 38, pos := "top07.go:15", after := #[{ on := 1, ground := Ground.data }], guard := none }) (v := .agg C) rfl (by kernel_rfl) (by kernel_rfl) (by kernel_rfl) (fun _ _ _ h => h) (yieldsIf_build (by rfl) 38 _ rfl #[(0, .int .i64 1), (1, .int .i64 1), (2, .int .i64 1), (3, .agg D)] (by rfl) (.agg C) HBH.out) hHeld ?_
  try simp only [Act.put, List.setIfInBounds_toArray, List.set_cons_zero, List.set_cons_succ]
  refine wpAnyH_ready (rs := [0, 7]) (by kernel_rfl) (by simp) ?_
  refine (AllReadyH.cons (o := { dst := some 6, op := Op.call { callee := Callee.value (Operand.func 16), args := #[], argTypes := #[] }, type := 24, pos := "top07.go:15", after := #[], guard := none }) rfl (fun K hK => ?_) (AllReadyH.cons (o := { dst := some 2, op := Op.alloc 40, type := 0, pos := "top07.go:15", after := #[], guard := none }) rfl (fun K hK => ?_) AllReadyH.nil))
  · go_simp
    refine (MS.out _).mono ?_
    rintro e wc0 ⟨rfl, hb0⟩
    try replace HG2 := hidk ((hb0.block _ (heap_lt HG2.out)).trans HG2.out)
    go_wp2_with fail
    refine hK.out _ _ ⟨(hb0.block _ (heap_lt hHeld.1)).trans hHeld.1, hHeld.2.trans (hb0.mono hHeld.2.size)⟩ (fun hHeld => ?_)
    clear hK K
    try simp only [Act.put, List.setIfInBounds_toArray, List.set_cons_zero, List.set_cons_succ]
    refine wpAnyH_ready (rs := [3, 7]) (by kernel_rfl) (by simp) ?_
    refine (AllReadyH.cons (o := { dst := some 9, op := Op.call { callee := Callee.value (Operand.func 8), args := #[Operand.tmp 6, Operand.tmp 8, Operand.const (Value.int IntKind.i64 2)], argTypes := #[24, 38, 3] }, type := 41, pos := "top07.go:15", after := #[{ on := 0, ground := Ground.data }, { on := 2, ground := Ground.data }, { on := 0, ground := Ground.chain }], guard := none }) rfl (fun K hK => ?_) (AllReadyH.cons (o := { dst := some 2, op := Op.alloc 40, type := 0, pos := "top07.go:15", after := #[], guard := none }) rfl (fun K hK => ?_) AllReadyH.nil))
    · go_simp
      refine (SG.out _ hHeld.2).mono ?_
      rintro e wc3 ⟨rfl, hb3⟩
      try replace HG2 := hidk ((hb3.block _ (heap_lt HG2.out)).trans HG2.out)
      go_wp2_with fail
      refine hK.out _ _ ⟨(hb3.block _ (heap_lt hHeld.1)).trans hHeld.1, hHeld.2.trans (hb3.mono hHeld.2.size)⟩ (fun hHeld => ?_)
      clear hK K
      try simp only [Act.put, List.setIfInBounds_toArray, List.set_cons_zero, List.set_cons_succ]
      refine wpAnyH_take (i := 4) (oi := { dst := some 5, op := Op.move (Operand.tmp 9), type := 41, pos := "top07.go:15", after := #[{ on := 3, ground := Ground.data }], guard := none }) (v := .tuple #[.agg R, .int .i64 0]) rfl (by kernel_rfl) (by kernel_rfl) (by kernel_rfl) (fun _ _ _ h => h) (Or.inl ⟨by rfl, by intro W hSw; go_simp⟩) hHeld ?_
      try simp only [Act.put, List.setIfInBounds_toArray, List.set_cons_zero, List.set_cons_succ]
      refine wpAnyH_take (i := 5) (oi := { dst := some 10, op := Op.extract (Operand.tmp 5) 0, type := 40, pos := "top07.go:15", after := #[{ on := 4, ground := Ground.data }], guard := none }) (v := .agg R) rfl (by kernel_rfl) (by kernel_rfl) (by kernel_rfl) (fun _ _ _ h => h) (Or.inl ⟨by rfl, by intro W hSw; go_simp⟩) hHeld ?_
      try simp only [Act.put, List.setIfInBounds_toArray, List.set_cons_zero, List.set_cons_succ]
      refine wpAnyH_take (i := 6) (oi := { dst := some 11, op := Op.extract (Operand.tmp 5) 1, type := 32, pos := "top07.go:15", after := #[{ on := 4, ground := Ground.data }, { on := 8, ground := Ground.gcOnly Departure.lateStores }], guard := none }) (v := .int .i64 0) rfl (by kernel_rfl) (by kernel_rfl) (by kernel_rfl) (fun _ _ _ h => h) (Or.inl ⟨by rfl, by intro W hSw; go_simp⟩) hHeld ?_
      try simp only [Act.put, List.setIfInBounds_toArray, List.set_cons_zero, List.set_cons_succ]
      refine wpAnyH_ready (rs := [7]) (by kernel_rfl) (by simp) ?_
      refine (AllReadyH.cons (o := { dst := some 2, op := Op.alloc 40, type := 0, pos := "top07.go:15", after := #[], guard := none }) rfl (fun K hK => ?_) AllReadyH.nil)
      refine step_new_var (by rfl) 40 rfl Z HA.out ?_
      intro g2 wn HM2
      have HG2 := hidk HM2.out.row
      have hg2 : w.heap.size ≤ g2 := (by rw [HM2.out.new]; exact hHeld.2.size)
      have hg12 : g1 ≠ g2 := (by have h1 := heap_lt hHeld.1; have h2 := HM2.out.new; omega)
      refine hK.out _ _ ⟨(HM2.out.below.block _ (heap_lt hHeld.1)).trans hHeld.1, hHeld.2.trans (HM2.out.below.mono hHeld.2.size)⟩ (fun hHeld => ?_)
      clear hK K
      try simp only [Act.put, List.setIfInBounds_toArray, List.set_cons_zero, List.set_cons_succ]
      refine wpAnyH_ready (rs := [8]) (by kernel_rfl) (by simp) ?_
      refine (AllReadyH.cons (o := { dst := none, op := Op.store 40 (Operand.tmp 2) (Operand.tmp 10), type := 0, pos := "top07.go:15", after := #[{ on := 7, ground := Ground.data }, { on := 5, ground := Ground.data }, { on := 3, ground := Ground.chain }, { on := 0, ground := Ground.phase }, { on := 1, ground := Ground.phase }, { on := 2, ground := Ground.phase }, { on := 3, ground := Ground.phase }, { on := 4, ground := Ground.phase }, { on := 5, ground := Ground.phase }, { on := 6, ground := Ground.textOnly Departure.lateStores }, { on := 7, ground := Ground.phase }], guard := none }) rfl (fun K hK => ?_) AllReadyH.nil)
      refine step_set_var (by rfl) 40 (.tmp 2) (.tmp 10) rfl g2 R rfl rfl 40 Z HG2.out HSR.out HZR.out H1R.out ?_
      intro wz HW2
      refine hK.out _ _ ⟨(HW2.out.other g1 hg12).trans hHeld.1, HW2.out.below _ _ hHeld.2 hg2⟩ (fun hHeld => ?_)
      clear hK K
      try simp only [Act.put, List.setIfInBounds_toArray, List.set_cons_zero, List.set_cons_succ]
      refine wpAnyH_take (i := 9) (oi := { dst := some 3, op := Op.assign (Operand.tmp 11), type := 32, pos := "top07.go:15", after := #[{ on := 6, ground := Ground.data }, { on := 8, ground := Ground.chain }, { on := 0, ground := Ground.phase }, { on := 1, ground := Ground.phase }, { on := 2, ground := Ground.phase }, { on := 3, ground := Ground.phase }, { on := 4, ground := Ground.phase }, { on := 5, ground := Ground.phase }, { on := 6, ground := Ground.phase }, { on := 7, ground := Ground.phase }, { on := 8, ground := Ground.phase }], guard := none }) (v := .int .i64 0) rfl (by kernel_rfl) (by kernel_rfl) (by kernel_rfl) (fun _ _ _ h => h) (Or.inl ⟨by rfl, by intro W hSw; go_simp⟩) hHeld ?_
      try simp only [Act.put, List.setIfInBounds_toArray, List.set_cons_zero, List.set_cons_succ]
      refine wpAnyH_done (by kernel_rfl) ?_ _
      have HB3 : Hid (wz.heap[g1]? = some (.cells D 30 (0, 0)) ∧ wz.heap[g2]? = some (.cells R 40 (0, 0)) ∧ Below w.heap.size w wz) := ⟨hHeld.1, HW2.out.row, hHeld.2⟩
      clear hHeld HW2 HB2 HBH SG
      go_wp2_with fail
      refine wp_region_held_drew (S := (fun W => W.heap[g1]? = some (.cells D 30 (0, 0)) ∧ W.heap[g2]? = some (.cells R 40 (0, 0)) ∧ Below w.heap.size w W)) (by kernel_rfl) ⟨HB3.out.1, HB3.out.2.1, HB3.out.2.2.drew⟩ (fun hHeld => ?_)
      refine wpAnyH_take (i := 0) (oi := { dst := some 12, op := Op.move (Operand.tmp 3), type := 32, pos := "top07.go:16", after := #[], guard := none }) (v := .int .i64 0) rfl (by kernel_rfl) (by kernel_rfl) (by kernel_rfl) (fun _ _ _ h => h) (Or.inl ⟨by rfl, by intro w hSw; go_simp⟩) hHeld ?_
      try simp only [Act.put, List.setIfInBounds_toArray, List.set_cons_zero, List.set_cons_succ]
      refine wpAnyH_take (i := 1) (oi := { dst := some 13, op := Op.binOp BinOp.eql 32 (Operand.tmp 12) (Operand.const (Value.int IntKind.i64 0)) 32, type := 4, pos := "top07.go:16", after := #[{ on := 0, ground := Ground.data }], guard := none }) (v := .bool true) rfl (by kernel_rfl) (by kernel_rfl) (by kernel_rfl) (fun _ _ _ h => h) (Or.inl ⟨by rfl, by intro w hSw; go_simp⟩) hHeld ?_
      try simp only [Act.put, List.setIfInBounds_toArray, List.set_cons_zero, List.set_cons_succ]
      refine wpAnyH_take (i := 2) (oi := { dst := some 14, op := Op.move (Operand.tmp 13), type := 4, pos := "top07.go:16", after := #[{ on := 1, ground := Ground.data }], guard := none }) (v := .bool true) rfl (by kernel_rfl) (by kernel_rfl) (by kernel_rfl) (fun _ _ _ h => h) (Or.inl ⟨by rfl, by intro w hSw; go_simp⟩) hHeld ?_
      try simp only [Act.put, List.setIfInBounds_toArray, List.set_cons_zero, List.set_cons_succ]
      refine wpAnyH_take (i := 3) (oi := { dst := some 15, op := Op.fieldAddr 40 (Operand.tmp 2) 1, type := 0, pos := "top07.go:16", after := #[{ on := 2, ground := Ground.guard }], guard := some (2, true) }) (v := .pointer (some ⟨g2, 36, none⟩)) rfl (by kernel_rfl) (by kernel_rfl) (by kernel_rfl) (fun _ _ _ h => h) (Or.inl ⟨by rfl, by intro w hSw; go_simp⟩) hHeld ?_
      try simp only [Act.put, List.setIfInBounds_toArray, List.set_cons_zero, List.set_cons_succ]
      refine wpAnyH_take (i := 4) (oi := { dst := some 16, op := Op.load 3 (Operand.tmp 15), type := 3, pos := "top07.go:16", after := #[{ on := 3, ground := Ground.data }, { on := 2, ground := Ground.guard }], guard := some (2, true) }) (v := .int .i64 2) rfl (by kernel_rfl) (by kernel_rfl) (by kernel_rfl) (fun _ _ _ h => h) (Or.inl ⟨by rfl, by intro W hSw; have := (HG.out W g2 hSw.2.1).1; go_simp⟩) hHeld ?_
      try simp only [Act.put, List.setIfInBounds_toArray, List.set_cons_zero, List.set_cons_succ]
      refine wpAnyH_take (i := 5) (oi := { dst := some 17, op := Op.binOp BinOp.eql 3 (Operand.tmp 16) (Operand.const (Value.int IntKind.i64 2)) 3, type := 4, pos := "top07.go:16", after := #[{ on := 4, ground := Ground.data }, { on := 2, ground := Ground.guard }], guard := some (2, true) }) (v := .bool true) rfl (by kernel_rfl) (by kernel_rfl) (by kernel_rfl) (fun _ _ _ h => h) (Or.inl ⟨by rfl, by intro w hSw; go_simp⟩) hHeld ?_
      try simp only [Act.put, List.setIfInBounds_toArray, List.set_cons_zero, List.set_cons_succ]
      refine wpAnyH_take (i := 6) (oi := { dst := some 18, op := Op.pick (Operand.tmp 14) (Operand.tmp 17) (Operand.const (Value.bool false)), type := 4, pos := "top07.go:16", after := #[{ on := 2, ground := Ground.data }, { on := 5, ground := Ground.data }], guard := none }) (v := .bool true) rfl (by kernel_rfl) (by kernel_rfl) (by kernel_rfl) (fun _ _ _ h => h) (Or.inl ⟨by rfl, by intro w hSw; go_simp⟩) hHeld ?_
      try simp only [Act.put, List.setIfInBounds_toArray, List.set_cons_zero, List.set_cons_succ]
      refine wpAnyH_take (i := 7) (oi := { dst := some 19, op := Op.move (Operand.tmp 18), type := 4, pos := "top07.go:16", after := #[{ on := 6, ground := Ground.data }, { on := 2, ground := Ground.chain }], guard := none }) (v := .bool true) rfl (by kernel_rfl) (by kernel_rfl) (by kernel_rfl) (fun _ _ _ h => h) (Or.inl ⟨by rfl, by intro w hSw; go_simp⟩) hHeld ?_
      try simp only [Act.put, List.setIfInBounds_toArray, List.set_cons_zero, List.set_cons_succ]
      refine wpAnyH_take (i := 8) (oi := { dst := some 20, op := Op.fieldAddr 40 (Operand.tmp 2) 0, type := 0, pos := "top07.go:16", after := #[{ on := 7, ground := Ground.guard }], guard := some (7, true) }) (v := .pointer (some ⟨g2, 0, none⟩)) rfl (by kernel_rfl) (by kernel_rfl) (by kernel_rfl) (fun _ _ _ h => h) (Or.inl ⟨by rfl, by intro w hSw; go_simp⟩) hHeld ?_
      try simp only [Act.put, List.setIfInBounds_toArray, List.set_cons_zero, List.set_cons_succ]
      refine wpAnyH_take (i := 9) (oi := { dst := some 21, op := Op.fieldAddr 38 (Operand.tmp 20) 3, type := 0, pos := "top07.go:16", after := #[{ on := 8, ground := Ground.data }, { on := 7, ground := Ground.guard }], guard := some (7, true) }) (v := .pointer (some ⟨g2, 3, none⟩)) rfl (by kernel_rfl) (by kernel_rfl) (by kernel_rfl) (fun _ _ _ h => h) (Or.inl ⟨by rfl, by intro w hSw; go_simp⟩) hHeld ?_
      try simp only [Act.put, List.setIfInBounds_toArray, List.set_cons_zero, List.set_cons_succ]
      refine wpAnyH_take (i := 10) (oi := { dst := some 22, op := Op.load 30 (Operand.tmp 21), type := 30, pos := "top07.go:16", after := #[{ on := 9, ground := Ground.data }, { on := 7, ground := Ground.guard }], guard := some (7, true) }) (v := .agg D) rfl (by kernel_rfl) (by kernel_rfl) (by kernel_rfl) (fun _ _ _ h => h) (yieldsIf_mid (by rfl) 30 (.tmp 21) rfl g2 3 rfl D _ (fun W h => (HG.out W g2 h.2.1).2) Tryd.underlying30 rfl HSD.out) hHeld ?_
      try simp only [Act.put, List.setIfInBounds_toArray, List.set_cons_zero, List.set_cons_succ]
      refine wpAnyH_take (i := 11) (oi := { dst := some 23, op := Op.load 30 (Operand.tmp 1), type := 30, pos := "top07.go:16", after := #[{ on := 7, ground := Ground.guard }], guard := some (7, true) }) (v := .agg D) rfl (by kernel_rfl) (by kernel_rfl) (by kernel_rfl) (fun _ _ _ h => h) (yieldsIf_row (by rfl) 30 (.tmp 1) rfl g1 rfl 30 D (0, 0) _ (fun _ h => h.1) Tryd.underlying30 rfl HSD.out) hHeld ?_
      try simp only [Act.put, List.setIfInBounds_toArray, List.set_cons_zero, List.set_cons_succ]
      refine wpAnyH_take (i := 12) (oi := { dst := some 24, op := Op.binOp BinOp.eql 30 (Operand.tmp 22) (Operand.tmp 23) 30, type := 4, pos := "top07.go:16", after := #[{ on := 10, ground := Ground.data }, { on := 11, ground := Ground.data }, { on := 7, ground := Ground.guard }], guard := some (7, true) }) (v := .bool true) rfl (by kernel_rfl) (by kernel_rfl) (by kernel_rfl) (fun _ _ _ h => h) (Or.inl ⟨by rfl, by intro W hSw; have := EQ W; go_simp⟩) hHeld ?_
      try simp only [Act.put, List.setIfInBounds_toArray, List.set_cons_zero, List.set_cons_succ]
      refine wpAnyH_take (i := 13) (oi := { dst := some 25, op := Op.pick (Operand.tmp 19) (Operand.tmp 24) (Operand.const (Value.bool false)), type := 4, pos := "top07.go:16", after := #[{ on := 7, ground := Ground.data }, { on := 12, ground := Ground.data }], guard := none }) (v := .bool true) rfl (by kernel_rfl) (by kernel_rfl) (by kernel_rfl) (fun _ _ _ h => h) (Or.inl ⟨by rfl, by intro w hSw; go_simp⟩) hHeld ?_
      try simp only [Act.put, List.setIfInBounds_toArray, List.set_cons_zero, List.set_cons_succ]
      refine wpAnyH_take (i := 14) (oi := { dst := some 26, op := Op.move (Operand.tmp 25), type := 4, pos := "top07.go:16", after := #[{ on := 13, ground := Ground.data }, { on := 7, ground := Ground.chain }], guard := none }) (v := .bool true) rfl (by kernel_rfl) (by kernel_rfl) (by kernel_rfl) (fun _ _ _ h => h) (Or.inl ⟨by rfl, by intro w hSw; go_simp⟩) hHeld ?_
      try simp only [Act.put, List.setIfInBounds_toArray, List.set_cons_zero, List.set_cons_succ]
      refine wpAnyH_take (i := 16) (oi := { dst := some 28, op := Op.load 40 (Operand.tmp 2), type := 40, pos := "top07.go:16", after := #[{ on := 14, ground := Ground.guard }], guard := some (14, true) }) (v := .agg R) rfl (by kernel_rfl) (by kernel_rfl) (by kernel_rfl) (fun _ _ _ h => h) (yieldsIf_row (by rfl) 40 (.tmp 2) rfl g2 rfl 40 R (0, 0) _ (fun _ h => h.2.1) Tryd.underlying40 rfl HSR.out) hHeld ?_
      try simp only [Act.put, List.setIfInBounds_toArray, List.set_cons_zero, List.set_cons_succ]
      refine wpAnyH_ready (rs := [15]) (by kernel_rfl) (by simp) ?_
      refine AllReadyH.cons (o := { dst := some 27, op := Op.call { callee := Callee.value (Operand.func 16), args := #[], argTypes := #[] }, type := 24, pos := "top07.go:16", after := #[{ on := 14, ground := Ground.chain }, { on := 14, ground := Ground.guard }], guard := some (14, true) }) rfl (fun K hK => ?_) AllReadyH.nil
      go_simp
      refine (MS.out _).mono ?_
      rintro e wd ⟨rfl, hbd⟩
      go_wp2_with fail
      refine hK.out _ _ ⟨(hbd.block _ (heap_lt hHeld.1)).trans hHeld.1, (hbd.block _ (heap_lt hHeld.2.1)).trans hHeld.2.1, hHeld.2.2.trans (hbd.mono hHeld.2.2.size)⟩ (fun hHeld => ?_)
      clear hK K
      try simp only [Act.put, List.setIfInBounds_toArray, List.set_cons_zero, List.set_cons_succ]
      refine wpAnyH_ready (rs := [17]) (by kernel_rfl) (by simp) ?_
      refine AllReadyH.cons (o := { dst := some 29, op := Op.call { callee := Callee.value (Operand.func 11), args := #[Operand.tmp 27, Operand.tmp 28], argTypes := #[24, 40] }, type := 32, pos := "top07.go:16", after := #[{ on := 15, ground := Ground.data }, { on := 16, ground := Ground.data }, { on := 15, ground := Ground.chain }, { on := 14, ground := Ground.guard }], guard := some (14, true) }) rfl (fun K hK => ?_) AllReadyH.nil
      go_simp
      refine (VF.out _ hHeld.2.2).mono ?_
      rintro e we ⟨rfl, hbe⟩
      go_wp2_with fail
      refine hK.out _ _ ⟨(hbe.block _ (heap_lt hHeld.1)).trans hHeld.1, (hbe.block _ (heap_lt hHeld.2.1)).trans hHeld.2.1, hHeld.2.2.trans (hbe.mono hHeld.2.2.size)⟩ (fun hHeld => ?_)
      clear hK K
      try simp only [Act.put, List.setIfInBounds_toArray, List.set_cons_zero, List.set_cons_succ]
      refine wpAnyH_take (i := 18) (oi := { dst := some 30, op := Op.binOp BinOp.eql 32 (Operand.tmp 29) (Operand.const (Value.int IntKind.i64 0)) 32, type := 4, pos := "top07.go:16", after := #[{ on := 17, ground := Ground.data }, { on := 14, ground := Ground.guard }], guard := some (14, true) }) (v := .bool true) rfl (by kernel_rfl) (by kernel_rfl) (by kernel_rfl) (fun _ _ _ h => h) (Or.inl ⟨by rfl, by intro w hSw; go_simp⟩) hHeld ?_
      try simp only [Act.put, List.setIfInBounds_toArray, List.set_cons_zero, List.set_cons_succ]
      refine wpAnyH_take (i := 19) (oi := { dst := some 31, op := Op.pick (Operand.tmp 26) (Operand.tmp 30) (Operand.const (Value.bool false)), type := 4, pos := "top07.go:16", after := #[{ on := 14, ground := Ground.data }, { on := 18, ground := Ground.data }], guard := none }) (v := .bool true) rfl (by kernel_rfl) (by kernel_rfl) (by kernel_rfl) (fun _ _ _ h => h) (Or.inl ⟨by rfl, by intro w hSw; go_simp⟩) hHeld ?_
      try simp only [Act.put, List.setIfInBounds_toArray, List.set_cons_zero, List.set_cons_succ]
      refine wpAnyH_take (i := 20) (oi := { dst := some 32, op := Op.move (Operand.tmp 31), type := 4, pos := "top07.go:16", after := #[{ on := 19, ground := Ground.data }, { on := 17, ground := Ground.chain }], guard := none }) (v := .bool true) rfl (by kernel_rfl) (by kernel_rfl) (by kernel_rfl) (fun _ _ _ h => h) (Or.inl ⟨by rfl, by intro w hSw; go_simp⟩) hHeld ?_
      try simp only [Act.put, List.setIfInBounds_toArray, List.set_cons_zero, List.set_cons_succ]
      refine wpAnyH_take (i := 21) (oi := { dst := some 33, op := Op.fieldAddr 40 (Operand.tmp 2) 0, type := 0, pos := "top07.go:16", after := #[{ on := 20, ground := Ground.guard }], guard := some (20, true) }) (v := .pointer (some ⟨g2, 0, none⟩)) rfl (by kernel_rfl) (by kernel_rfl) (by kernel_rfl) (fun _ _ _ h => h) (Or.inl ⟨by rfl, by intro w hSw; go_simp⟩) hHeld ?_
      try simp only [Act.put, List.setIfInBounds_toArray, List.set_cons_zero, List.set_cons_succ]
      refine wpAnyH_take (i := 22) (oi := { dst := some 34, op := Op.fieldAddr 38 (Operand.tmp 33) 3, type := 0, pos := "top07.go:16", after := #[{ on := 21, ground := Ground.data }, { on := 20, ground := Ground.guard }], guard := some (20, true) }) (v := .pointer (some ⟨g2, 3, none⟩)) rfl (by kernel_rfl) (by kernel_rfl) (by kernel_rfl) (fun _ _ _ h => h) (Or.inl ⟨by rfl, by intro w hSw; go_simp⟩) hHeld ?_
      try simp only [Act.put, List.setIfInBounds_toArray, List.set_cons_zero, List.set_cons_succ]
      refine wpAnyH_take (i := 23) (oi := { dst := some 35, op := Op.load 30 (Operand.tmp 34), type := 30, pos := "top07.go:16", after := #[{ on := 22, ground := Ground.data }, { on := 20, ground := Ground.guard }], guard := some (20, true) }) (v := .agg D) rfl (by kernel_rfl) (by kernel_rfl) (by kernel_rfl) (fun _ _ _ h => h) (yieldsIf_mid (by rfl) 30 (.tmp 34) rfl g2 3 rfl D _ (fun W h => (HG.out W g2 h.2.1).2) Tryd.underlying30 rfl HSD.out) hHeld ?_
      try simp only [Act.put, List.setIfInBounds_toArray, List.set_cons_zero, List.set_cons_succ]
      refine wpAnyH_take (i := 24) (oi := { dst := some 36, op := Op.load 30 (Operand.tmp 1), type := 30, pos := "top07.go:16", after := #[{ on := 20, ground := Ground.guard }], guard := some (20, true) }) (v := .agg D) rfl (by kernel_rfl) (by kernel_rfl) (by kernel_rfl) (fun _ _ _ h => h) (yieldsIf_row (by rfl) 30 (.tmp 1) rfl g1 rfl 30 D (0, 0) _ (fun _ h => h.1) Tryd.underlying30 rfl HSD.out) hHeld ?_
      try simp only [Act.put, List.setIfInBounds_toArray, List.set_cons_zero, List.set_cons_succ]
      refine wpAnyH_ready (rs := [25]) (by kernel_rfl) (by simp) ?_
      refine AllReadyH.cons (o := { dst := some 37, op := Op.call { callee := Callee.value (Operand.func 14), args := #[Operand.tmp 35, Operand.const (Value.int IntKind.i64 1), Operand.const (Value.int IntKind.i64 0), Operand.tmp 36, Operand.const (Value.slice none 0 0)], argTypes := #[30, 3, 3, 30, 26] }, type := 32, pos := "top07.go:16", after := #[{ on := 23, ground := Ground.data }, { on := 24, ground := Ground.data }, { on := 20, ground := Ground.chain }, { on := 20, ground := Ground.guard }], guard := some (20, true) }) rfl (fun K hK => ?_) AllReadyH.nil
      go_simp
      refine (I1.out _ hHeld.2.2).mono ?_
      rintro e wf ⟨rfl, hbf⟩
      go_wp2_with fail
      refine hK.out _ _ ⟨(hbf.block _ (heap_lt hHeld.1)).trans hHeld.1, (hbf.block _ (heap_lt hHeld.2.1)).trans hHeld.2.1, hHeld.2.2.trans (hbf.mono hHeld.2.2.size)⟩ (fun hHeld => ?_)
      clear hK K
      try simp only [Act.put, List.setIfInBounds_toArray, List.set_cons_zero, List.set_cons_succ]
      refine wpAnyH_take (i := 26) (oi := { dst := some 38, op := Op.binOp BinOp.eql 32 (Operand.tmp 37) (Operand.const (Value.int IntKind.i64 0)) 32, type := 4, pos := "top07.go:16", after := #[{ on := 25, ground := Ground.data }, { on := 20, ground := Ground.guard }], guard := some (20, true) }) (v := .bool true) rfl (by kernel_rfl) (by kernel_rfl) (by kernel_rfl) (fun _ _ _ h => h) (Or.inl ⟨by rfl, by intro w hSw; go_simp⟩) hHeld ?_
      try simp only [Act.put, List.setIfInBounds_toArray, List.set_cons_zero, List.set_cons_succ]
      refine wpAnyH_take (i := 27) (oi := { dst := some 39, op := Op.pick (Operand.tmp 32) (Operand.tmp 38) (Operand.const (Value.bool false)), type := 4, pos := "top07.go:16", after := #[{ on := 20, ground := Ground.data }, { on := 26, ground := Ground.data }], guard := none }) (v := .bool true) rfl (by kernel_rfl) (by kernel_rfl) (by kernel_rfl) (fun _ _ _ h => h) (Or.inl ⟨by rfl, by intro w hSw; go_simp⟩) hHeld ?_
      try simp only [Act.put, List.setIfInBounds_toArray, List.set_cons_zero, List.set_cons_succ]
      refine wpAnyH_take (i := 28) (oi := { dst := some 40, op := Op.move (Operand.tmp 39), type := 4, pos := "top07.go:16", after := #[{ on := 27, ground := Ground.data }, { on := 25, ground := Ground.chain }], guard := none }) (v := .bool true) rfl (by kernel_rfl) (by kernel_rfl) (by kernel_rfl) (fun _ _ _ h => h) (Or.inl ⟨by rfl, by intro w hSw; go_simp⟩) hHeld ?_
      try simp only [Act.put, List.setIfInBounds_toArray, List.set_cons_zero, List.set_cons_succ]
      refine wpAnyH_take (i := 29) (oi := { dst := some 41, op := Op.fieldAddr 40 (Operand.tmp 2) 0, type := 0, pos := "top07.go:16", after := #[{ on := 28, ground := Ground.guard }], guard := some (28, true) }) (v := .pointer (some ⟨g2, 0, none⟩)) rfl (by kernel_rfl) (by kernel_rfl) (by kernel_rfl) (fun _ _ _ h => h) (Or.inl ⟨by rfl, by intro w hSw; go_simp⟩) hHeld ?_
      try simp only [Act.put, List.setIfInBounds_toArray, List.set_cons_zero, List.set_cons_succ]
      refine wpAnyH_take (i := 30) (oi := { dst := some 42, op := Op.fieldAddr 38 (Operand.tmp 41) 3, type := 0, pos := "top07.go:16", after := #[{ on := 29, ground := Ground.data }, { on := 28, ground := Ground.guard }], guard := some (28, true) }) (v := .pointer (some ⟨g2, 3, none⟩)) rfl (by kernel_rfl) (by kernel_rfl) (by kernel_rfl) (fun _ _ _ h => h) (Or.inl ⟨by rfl, by intro w hSw; go_simp⟩) hHeld ?_
      try simp only [Act.put, List.setIfInBounds_toArray, List.set_cons_zero, List.set_cons_succ]
      refine wpAnyH_take (i := 31) (oi := { dst := some 43, op := Op.load 30 (Operand.tmp 42), type := 30, pos := "top07.go:16", after := #[{ on := 30, ground := Ground.data }, { on := 28, ground := Ground.guard }], guard := some (28, true) }) (v := .agg D) rfl (by kernel_rfl) (by kernel_rfl) (by kernel_rfl) (fun _ _ _ h => h) (yieldsIf_mid (by rfl) 30 (.tmp 42) rfl g2 3 rfl D _ (fun W h => (HG.out W g2 h.2.1).2) Tryd.underlying30 rfl HSD.out) hHeld ?_
      try simp only [Act.put, List.setIfInBounds_toArray, List.set_cons_zero, List.set_cons_succ]
      refine wpAnyH_ready (rs := [32]) (by kernel_rfl) (by simp) ?_
      refine AllReadyH.cons (o := { dst := some 44, op := Op.call { callee := Callee.value (Operand.func 17), args := #[], argTypes := #[] }, type := 30, pos := "top07.go:16", after := #[{ on := 28, ground := Ground.chain }, { on := 28, ground := Ground.guard }], guard := some (28, true) }) rfl (fun K hK => ?_) AllReadyH.nil
      go_simp
      refine (EM.out _ hHeld.2.2).mono ?_
      rintro e wg ⟨rfl, hbg⟩
      go_wp2_with fail
      refine hK.out _ _ ⟨(hbg.block _ (heap_lt hHeld.1)).trans hHeld.1, (hbg.block _ (heap_lt hHeld.2.1)).trans hHeld.2.1, hHeld.2.2.trans (hbg.mono hHeld.2.2.size)⟩ (fun hHeld => ?_)
      clear hK K
      try simp only [Act.put, List.setIfInBounds_toArray, List.set_cons_zero, List.set_cons_succ]
      refine wpAnyH_ready (rs := [33]) (by kernel_rfl) (by simp) ?_
      refine AllReadyH.cons (o := { dst := some 45, op := Op.call { callee := Callee.value (Operand.func 14), args := #[Operand.tmp 43, Operand.const (Value.int IntKind.i64 1), Operand.const (Value.int IntKind.i64 0), Operand.tmp 44, Operand.const (Value.slice none 0 0)], argTypes := #[30, 3, 3, 30, 26] }, type := 32, pos := "top07.go:16", after := #[{ on := 31, ground := Ground.data }, { on := 32, ground := Ground.data }, { on := 32, ground := Ground.chain }, { on := 28, ground := Ground.guard }], guard := some (28, true) }) rfl (fun K hK => ?_) AllReadyH.nil
      go_simp
      refine (I2.out _ hHeld.2.2).mono ?_
      rintro e wh ⟨rfl, hbh⟩
      go_wp2_with fail
      refine hK.out _ _ ⟨(hbh.block _ (heap_lt hHeld.1)).trans hHeld.1, (hbh.block _ (heap_lt hHeld.2.1)).trans hHeld.2.1, hHeld.2.2.trans (hbh.mono hHeld.2.2.size)⟩ (fun hHeld => ?_)
      clear hK K
      try simp only [Act.put, List.setIfInBounds_toArray, List.set_cons_zero, List.set_cons_succ]
      refine wpAnyH_take (i := 34) (oi := { dst := some 46, op := Op.binOp BinOp.eql 32 (Operand.tmp 45) (Operand.const (Value.int IntKind.i64 41)) 32, type := 4, pos := "top07.go:16", after := #[{ on := 33, ground := Ground.data }, { on := 28, ground := Ground.guard }], guard := some (28, true) }) (v := .bool true) rfl (by kernel_rfl) (by kernel_rfl) (by kernel_rfl) (fun _ _ _ h => h) (Or.inl ⟨by rfl, by intro w hSw; go_simp⟩) hHeld ?_
      try simp only [Act.put, List.setIfInBounds_toArray, List.set_cons_zero, List.set_cons_succ]
      refine wpAnyH_take (i := 35) (oi := { dst := some 47, op := Op.pick (Operand.tmp 40) (Operand.tmp 46) (Operand.const (Value.bool false)), type := 4, pos := "top07.go:16", after := #[{ on := 28, ground := Ground.data }, { on := 34, ground := Ground.data }], guard := none }) (v := .bool true) rfl (by kernel_rfl) (by kernel_rfl) (by kernel_rfl) (fun _ _ _ h => h) (Or.inl ⟨by rfl, by intro w hSw; go_simp⟩) hHeld ?_
      try simp only [Act.put, List.setIfInBounds_toArray, List.set_cons_zero, List.set_cons_succ]
      refine wpAnyH_take (i := 36) (oi := { dst := some 0, op := Op.assign (Operand.tmp 47), type := 4, pos := "top07.go:16", after := #[{ on := 35, ground := Ground.data }, { on := 33, ground := Ground.chain }, { on := 0, ground := Ground.phase }, { on := 1, ground := Ground.phase }, { on := 2, ground := Ground.phase }, { on := 3, ground := Ground.phase }, { on := 4, ground := Ground.phase }, { on := 5, ground := Ground.phase }, { on := 6, ground := Ground.phase }, { on := 7, ground := Ground.phase }, { on := 8, ground := Ground.phase }, { on := 9, ground := Ground.phase }, { on := 10, ground := Ground.phase }, { on := 11, ground := Ground.phase }, { on := 12, ground := Ground.phase }, { on := 13, ground := Ground.phase }, { on := 14, ground := Ground.phase }, { on := 15, ground := Ground.phase }, { on := 16, ground := Ground.phase }, { on := 17, ground := Ground.phase }, { on := 18, ground := Ground.phase }, { on := 19, ground := Ground.phase }, { on := 20, ground := Ground.phase }, { on := 21, ground := Ground.phase }, { on := 22, ground := Ground.phase }, { on := 23, ground := Ground.phase }, { on := 24, ground := Ground.phase }, { on := 25, ground := Ground.phase }, { on := 26, ground := Ground.phase }, { on := 27, ground := Ground.phase }, { on := 28, ground := Ground.phase }, { on := 29, ground := Ground.phase }, { on := 30, ground := Ground.phase }, { on := 31, ground := Ground.phase }, { on := 32, ground := Ground.phase }, { on := 33, ground := Ground.phase }, { on := 34, ground := Ground.phase }, { on := 35, ground := Ground.phase }], guard := none }) (v := .bool true) rfl (by kernel_rfl) (by kernel_rfl) (by kernel_rfl) (fun _ _ _ h => h) (Or.inl ⟨by rfl, by intro w hSw; go_simp⟩) hHeld ?_
      try simp only [Act.put, List.setIfInBounds_toArray, List.set_cons_zero, List.set_cons_succ]
      refine wpAnyH_done (by kernel_rfl) ?_ _
      have HBF := hidk hHeld.2.2
      clear hHeld
      go_wp2_with fail
      go_ret
      exact ⟨rfl, HBF.out⟩
    · refine step_new_var (by rfl) 40 rfl Z HA.out ?_
      intro g2 wn HM2
      have HG2 := hidk HM2.out.row
      have hg2 : w.heap.size ≤ g2 := (by rw [HM2.out.new]; exact hHeld.2.size)
      have hg12 : g1 ≠ g2 := (by have h1 := heap_lt hHeld.1; have h2 := HM2.out.new; omega)
      refine hK.out _ _ ⟨(HM2.out.below.block _ (heap_lt hHeld.1)).trans hHeld.1, hHeld.2.trans (HM2.out.below.mono hHeld.2.size)⟩ (fun hHeld => ?_)
      clear hK K
      try simp only [Act.put, List.setIfInBounds_toArray, List.set_cons_zero, List.set_cons_succ]
      refine wpAnyH_ready (rs := [3]) (by kernel_rfl) (by simp) ?_
      refine (AllReadyH.cons (o := { dst := some 9, op := Op.call { callee := Callee.value (Operand.func 8), args := #[Operand.tmp 6, Operand.tmp 8, Operand.const (Value.int IntKind.i64 2)], argTypes := #[24, 38, 3] }, type := 41, pos := "top07.go:15", after := #[{ on := 0, ground := Ground.data }, { on := 2, ground := Ground.data }, { on := 0, ground := Ground.chain }], guard := none }) rfl (fun K hK => ?_) AllReadyH.nil)
      go_simp
      refine (SG.out _ hHeld.2).mono ?_
      rintro e wc3 ⟨rfl, hb3⟩
      try replace HG2 := hidk ((hb3.block _ (heap_lt HG2.out)).trans HG2.out)
      go_wp2_with fail
      refine hK.out _ _ ⟨(hb3.block _ (heap_lt hHeld.1)).trans hHeld.1, hHeld.2.trans (hb3.mono hHeld.2.size)⟩ (fun hHeld => ?_)
      clear hK K
      try simp only [Act.put, List.setIfInBounds_toArray, List.set_cons_zero, List.set_cons_succ]
      refine wpAnyH_take (i := 4) (oi := { dst := some 5, op := Op.move (Operand.tmp 9), type := 41, pos := "top07.go:15", after := #[{ on := 3, ground := Ground.data }], guard := none }) (v := .tuple #[.agg R, .int .i64 0]) rfl (by kernel_rfl) (by kernel_rfl) (by kernel_rfl) (fun _ _ _ h => h) (Or.inl ⟨by rfl, by intro W hSw; go_simp⟩) hHeld ?_
      try simp only [Act.put, List.setIfInBounds_toArray, List.set_cons_zero, List.set_cons_succ]
      refine wpAnyH_take (i := 5) (oi := { dst := some 10, op := Op.extract (Operand.tmp 5) 0, type := 40, pos := "top07.go:15", after := #[{ on := 4, ground := Ground.data }], guard := none }) (v := .agg R) rfl (by kernel_rfl) (by kernel_rfl) (by kernel_rfl) (fun _ _ _ h => h) (Or.inl ⟨by rfl, by intro W hSw; go_simp⟩) hHeld ?_
      try simp only [Act.put, List.setIfInBounds_toArray, List.set_cons_zero, List.set_cons_succ]
      refine wpAnyH_take (i := 6) (oi := { dst := some 11, op := Op.extract (Operand.tmp 5) 1, type := 32, pos := "top07.go:15", after := #[{ on := 4, ground := Ground.data }, { on := 8, ground := Ground.gcOnly Departure.lateStores }], guard := none }) (v := .int .i64 0) rfl (by kernel_rfl) (by kernel_rfl) (by kernel_rfl) (fun _ _ _ h => h) (Or.inl ⟨by rfl, by intro W hSw; go_simp⟩) hHeld ?_
      try simp only [Act.put, List.setIfInBounds_toArray, List.set_cons_zero, List.set_cons_succ]
      refine wpAnyH_ready (rs := [8]) (by kernel_rfl) (by simp) ?_
      refine (AllReadyH.cons (o := { dst := none, op := Op.store 40 (Operand.tmp 2) (Operand.tmp 10), type := 0, pos := "top07.go:15", after := #[{ on := 7, ground := Ground.data }, { on := 5, ground := Ground.data }, { on := 3, ground := Ground.chain }, { on := 0, ground := Ground.phase }, { on := 1, ground := Ground.phase }, { on := 2, ground := Ground.phase }, { on := 3, ground := Ground.phase }, { on := 4, ground := Ground.phase }, { on := 5, ground := Ground.phase }, { on := 6, ground := Ground.textOnly Departure.lateStores }, { on := 7, ground := Ground.phase }], guard := none }) rfl (fun K hK => ?_) AllReadyH.nil)
      refine step_set_var (by rfl) 40 (.tmp 2) (.tmp 10) rfl g2 R rfl rfl 40 Z HG2.out HSR.out HZR.out H1R.out ?_
      intro wz HW2
      refine hK.out _ _ ⟨(HW2.out.other g1 hg12).trans hHeld.1, HW2.out.below _ _ hHeld.2 hg2⟩ (fun hHeld => ?_)
      clear hK K
      try simp only [Act.put, List.setIfInBounds_toArray, List.set_cons_zero, List.set_cons_succ]
      refine wpAnyH_take (i := 9) (oi := { dst := some 3, op := Op.assign (Operand.tmp 11), type := 32, pos := "top07.go:15", after := #[{ on := 6, ground := Ground.data }, { on := 8, ground := Ground.chain }, { on := 0, ground := Ground.phase }, { on := 1, ground := Ground.phase }, { on := 2, ground := Ground.phase }, { on := 3, ground := Ground.phase }, { on := 4, ground := Ground.phase }, { on := 5, ground := Ground.phase }, { on := 6, ground := Ground.phase }, { on := 7, ground := Ground.phase }, { on := 8, ground := Ground.phase }], guard := none }) (v := .int .i64 0) rfl (by kernel_rfl) (by kernel_rfl) (by kernel_rfl) (fun _ _ _ h => h) (Or.inl ⟨by rfl, by intro W hSw; go_simp⟩) hHeld ?_
      try simp only [Act.put, List.setIfInBounds_toArray, List.set_cons_zero, List.set_cons_succ]
      refine wpAnyH_done (by kernel_rfl) ?_ _
      have HB3 : Hid (wz.heap[g1]? = some (.cells D 30 (0, 0)) ∧ wz.heap[g2]? = some (.cells R 40 (0, 0)) ∧ Below w.heap.size w wz) := ⟨hHeld.1, HW2.out.row, hHeld.2⟩
      clear hHeld HW2 HB2 HBH SG
      go_wp2_with fail
      refine wp_region_held_drew (S := (fun W => W.heap[g1]? = some (.cells D 30 (0, 0)) ∧ W.heap[g2]? = some (.cells R 40 (0, 0)) ∧ Below w.heap.size w W)) (by kernel_rfl) ⟨HB3.out.1, HB3.out.2.1, HB3.out.2.2.drew⟩ (fun hHeld => ?_)
      refine wpAnyH_take (i := 0) (oi := { dst := some 12, op := Op.move (Operand.tmp 3), type := 32, pos := "top07.go:16", after := #[], guard := none }) (v := .int .i64 0) rfl (by kernel_rfl) (by kernel_rfl) (by kernel_rfl) (fun _ _ _ h => h) (Or.inl ⟨by rfl, by intro w hSw; go_simp⟩) hHeld ?_
      try simp only [Act.put, List.setIfInBounds_toArray, List.set_cons_zero, List.set_cons_succ]
      refine wpAnyH_take (i := 1) (oi := { dst := some 13, op := Op.binOp BinOp.eql 32 (Operand.tmp 12) (Operand.const (Value.int IntKind.i64 0)) 32, type := 4, pos := "top07.go:16", after := #[{ on := 0, ground := Ground.data }], guard := none }) (v := .bool true) rfl (by kernel_rfl) (by kernel_rfl) (by kernel_rfl) (fun _ _ _ h => h) (Or.inl ⟨by rfl, by intro w hSw; go_simp⟩) hHeld ?_
      try simp only [Act.put, List.setIfInBounds_toArray, List.set_cons_zero, List.set_cons_succ]
      refine wpAnyH_take (i := 2) (oi := { dst := some 14, op := Op.move (Operand.tmp 13), type := 4, pos := "top07.go:16", after := #[{ on := 1, ground := Ground.data }], guard := none }) (v := .bool true) rfl (by kernel_rfl) (by kernel_rfl) (by kernel_rfl) (fun _ _ _ h => h) (Or.inl ⟨by rfl, by intro w hSw; go_simp⟩) hHeld ?_
      try simp only [Act.put, List.setIfInBounds_toArray, List.set_cons_zero, List.set_cons_succ]
      refine wpAnyH_take (i := 3) (oi := { dst := some 15, op := Op.fieldAddr 40 (Operand.tmp 2) 1, type := 0, pos := "top07.go:16", after := #[{ on := 2, ground := Ground.guard }], guard := some (2, true) }) (v := .pointer (some ⟨g2, 36, none⟩)) rfl (by kernel_rfl) (by kernel_rfl) (by kernel_rfl) (fun _ _ _ h => h) (Or.inl ⟨by rfl, by intro w hSw; go_simp⟩) hHeld ?_
      try simp only [Act.put, List.setIfInBounds_toArray, List.set_cons_zero, List.set_cons_succ]
      refine wpAnyH_take (i := 4) (oi := { dst := some 16, op := Op.load 3 (Operand.tmp 15), type := 3, pos := "top07.go:16", after := #[{ on := 3, ground := Ground.data }, { on := 2, ground := Ground.guard }], guard := some (2, true) }) (v := .int .i64 2) rfl (by kernel_rfl) (by kernel_rfl) (by kernel_rfl) (fun _ _ _ h => h) (Or.inl ⟨by rfl, by intro W hSw; have := (HG.out W g2 hSw.2.1).1; go_simp⟩) hHeld ?_
      try simp only [Act.put, List.setIfInBounds_toArray, List.set_cons_zero, List.set_cons_succ]
      refine wpAnyH_take (i := 5) (oi := { dst := some 17, op := Op.binOp BinOp.eql 3 (Operand.tmp 16) (Operand.const (Value.int IntKind.i64 2)) 3, type := 4, pos := "top07.go:16", after := #[{ on := 4, ground := Ground.data }, { on := 2, ground := Ground.guard }], guard := some (2, true) }) (v := .bool true) rfl (by kernel_rfl) (by kernel_rfl) (by kernel_rfl) (fun _ _ _ h => h) (Or.inl ⟨by rfl, by intro w hSw; go_simp⟩) hHeld ?_
      try simp only [Act.put, List.setIfInBounds_toArray, List.set_cons_zero, List.set_cons_succ]
      refine wpAnyH_take (i := 6) (oi := { dst := some 18, op := Op.pick (Operand.tmp 14) (Operand.tmp 17) (Operand.const (Value.bool false)), type := 4, pos := "top07.go:16", after := #[{ on := 2, ground := Ground.data }, { on := 5, ground := Ground.data }], guard := none }) (v := .bool true) rfl (by kernel_rfl) (by kernel_rfl) (by kernel_rfl) (fun _ _ _ h => h) (Or.inl ⟨by rfl, by intro w hSw; go_simp⟩) hHeld ?_
      try simp only [Act.put, List.setIfInBounds_toArray, List.set_cons_zero, List.set_cons_succ]
      refine wpAnyH_take (i := 7) (oi := { dst := some 19, op := Op.move (Operand.tmp 18), type := 4, pos := "top07.go:16", after := #[{ on := 6, ground := Ground.data }, { on := 2, ground := Ground.chain }], guard := none }) (v := .bool true) rfl (by kernel_rfl) (by kernel_rfl) (by kernel_rfl) (fun _ _ _ h => h) (Or.inl ⟨by rfl, by intro w hSw; go_simp⟩) hHeld ?_
      try simp only [Act.put, List.setIfInBounds_toArray, List.set_cons_zero, List.set_cons_succ]
      refine wpAnyH_take (i := 8) (oi := { dst := some 20, op := Op.fieldAddr 40 (Operand.tmp 2) 0, type := 0, pos := "top07.go:16", after := #[{ on := 7, ground := Ground.guard }], guard := some (7, true) }) (v := .pointer (some ⟨g2, 0, none⟩)) rfl (by kernel_rfl) (by kernel_rfl) (by kernel_rfl) (fun _ _ _ h => h) (Or.inl ⟨by rfl, by intro w hSw; go_simp⟩) hHeld ?_
      try simp only [Act.put, List.setIfInBounds_toArray, List.set_cons_zero, List.set_cons_succ]
      refine wpAnyH_take (i := 9) (oi := { dst := some 21, op := Op.fieldAddr 38 (Operand.tmp 20) 3, type := 0, pos := "top07.go:16", after := #[{ on := 8, ground := Ground.data }, { on := 7, ground := Ground.guard }], guard := some (7, true) }) (v := .pointer (some ⟨g2, 3, none⟩)) rfl (by kernel_rfl) (by kernel_rfl) (by kernel_rfl) (fun _ _ _ h => h) (Or.inl ⟨by rfl, by intro w hSw; go_simp⟩) hHeld ?_
      try simp only [Act.put, List.setIfInBounds_toArray, List.set_cons_zero, List.set_cons_succ]
      refine wpAnyH_take (i := 10) (oi := { dst := some 22, op := Op.load 30 (Operand.tmp 21), type := 30, pos := "top07.go:16", after := #[{ on := 9, ground := Ground.data }, { on := 7, ground := Ground.guard }], guard := some (7, true) }) (v := .agg D) rfl (by kernel_rfl) (by kernel_rfl) (by kernel_rfl) (fun _ _ _ h => h) (yieldsIf_mid (by rfl) 30 (.tmp 21) rfl g2 3 rfl D _ (fun W h => (HG.out W g2 h.2.1).2) Tryd.underlying30 rfl HSD.out) hHeld ?_
      try simp only [Act.put, List.setIfInBounds_toArray, List.set_cons_zero, List.set_cons_succ]
      refine wpAnyH_take (i := 11) (oi := { dst := some 23, op := Op.load 30 (Operand.tmp 1), type := 30, pos := "top07.go:16", after := #[{ on := 7, ground := Ground.guard }], guard := some (7, true) }) (v := .agg D) rfl (by kernel_rfl) (by kernel_rfl) (by kernel_rfl) (fun _ _ _ h => h) (yieldsIf_row (by rfl) 30 (.tmp 1) rfl g1 rfl 30 D (0, 0) _ (fun _ h => h.1) Tryd.underlying30 rfl HSD.out) hHeld ?_
      try simp only [Act.put, List.setIfInBounds_toArray, List.set_cons_zero, List.set_cons_succ]
      refine wpAnyH_take (i := 12) (oi := { dst := some 24, op := Op.binOp BinOp.eql 30 (Operand.tmp 22) (Operand.tmp 23) 30, type := 4, pos := "top07.go:16", after := #[{ on := 10, ground := Ground.data }, { on := 11, ground := Ground.data }, { on := 7, ground := Ground.guard }], guard := some (7, true) }) (v := .bool true) rfl (by kernel_rfl) (by kernel_rfl) (by kernel_rfl) (fun _ _ _ h => h) (Or.inl ⟨by rfl, by intro W hSw; have := EQ W; go_simp⟩) hHeld ?_
      try simp only [Act.put, List.setIfInBounds_toArray, List.set_cons_zero, List.set_cons_succ]
      refine wpAnyH_take (i := 13) (oi := { dst := some 25, op := Op.pick (Operand.tmp 19) (Operand.tmp 24) (Operand.const (Value.bool false)), type := 4, pos := "top07.go:16", after := #[{ on := 7, ground := Ground.data }, { on := 12, ground := Ground.data }], guard := none }) (v := .bool true) rfl (by kernel_rfl) (by kernel_rfl) (by kernel_rfl) (fun _ _ _ h => h) (Or.inl ⟨by rfl, by intro w hSw; go_simp⟩) hHeld ?_
      try simp only [Act.put, List.setIfInBounds_toArray, List.set_cons_zero, List.set_cons_succ]
      refine wpAnyH_take (i := 14) (oi := { dst := some 26, op := Op.move (Operand.tmp 25), type := 4, pos := "top07.go:16", after := #[{ on := 13, ground := Ground.data }, { on := 7, ground := Ground.chain }], guard := none }) (v := .bool true) rfl (by kernel_rfl) (by kernel_rfl) (by kernel_rfl) (fun _ _ _ h => h) (Or.inl ⟨by rfl, by intro w hSw; go_simp⟩) hHeld ?_
      try simp only [Act.put, List.setIfInBounds_toArray, List.set_cons_zero, List.set_cons_succ]
      refine wpAnyH_take (i := 16) (oi := { dst := some 28, op := Op.load 40 (Operand.tmp 2), type := 40, pos := "top07.go:16", after := #[{ on := 14, ground := Ground.guard }], guard := some (14, true) }) (v := .agg R) rfl (by kernel_rfl) (by kernel_rfl) (by kernel_rfl) (fun _ _ _ h => h) (yieldsIf_row (by rfl) 40 (.tmp 2) rfl g2 rfl 40 R (0, 0) _ (fun _ h => h.2.1) Tryd.underlying40 rfl HSR.out) hHeld ?_
      try simp only [Act.put, List.setIfInBounds_toArray, List.set_cons_zero, List.set_cons_succ]
      refine wpAnyH_ready (rs := [15]) (by kernel_rfl) (by simp) ?_
      refine AllReadyH.cons (o := { dst := some 27, op := Op.call { callee := Callee.value (Operand.func 16), args := #[], argTypes := #[] }, type := 24, pos := "top07.go:16", after := #[{ on := 14, ground := Ground.chain }, { on := 14, ground := Ground.guard }], guard := some (14, true) }) rfl (fun K hK => ?_) AllReadyH.nil
      go_simp
      refine (MS.out _).mono ?_
      rintro e wd ⟨rfl, hbd⟩
      go_wp2_with fail
      refine hK.out _ _ ⟨(hbd.block _ (heap_lt hHeld.1)).trans hHeld.1, (hbd.block _ (heap_lt hHeld.2.1)).trans hHeld.2.1, hHeld.2.2.trans (hbd.mono hHeld.2.2.size)⟩ (fun hHeld => ?_)
      clear hK K
      try simp only [Act.put, List.setIfInBounds_toArray, List.set_cons_zero, List.set_cons_succ]
      refine wpAnyH_ready (rs := [17]) (by kernel_rfl) (by simp) ?_
      refine AllReadyH.cons (o := { dst := some 29, op := Op.call { callee := Callee.value (Operand.func 11), args := #[Operand.tmp 27, Operand.tmp 28], argTypes := #[24, 40] }, type := 32, pos := "top07.go:16", after := #[{ on := 15, ground := Ground.data }, { on := 16, ground := Ground.data }, { on := 15, ground := Ground.chain }, { on := 14, ground := Ground.guard }], guard := some (14, true) }) rfl (fun K hK => ?_) AllReadyH.nil
      go_simp
      refine (VF.out _ hHeld.2.2).mono ?_
      rintro e we ⟨rfl, hbe⟩
      go_wp2_with fail
      refine hK.out _ _ ⟨(hbe.block _ (heap_lt hHeld.1)).trans hHeld.1, (hbe.block _ (heap_lt hHeld.2.1)).trans hHeld.2.1, hHeld.2.2.trans (hbe.mono hHeld.2.2.size)⟩ (fun hHeld => ?_)
      clear hK K
      try simp only [Act.put, List.setIfInBounds_toArray, List.set_cons_zero, List.set_cons_succ]
      refine wpAnyH_take (i := 18) (oi := { dst := some 30, op := Op.binOp BinOp.eql 32 (Operand.tmp 29) (Operand.const (Value.int IntKind.i64 0)) 32, type := 4, pos := "top07.go:16", after := #[{ on := 17, ground := Ground.data }, { on := 14, ground := Ground.guard }], guard := some (14, true) }) (v := .bool true) rfl (by kernel_rfl) (by kernel_rfl) (by kernel_rfl) (fun _ _ _ h => h) (Or.inl ⟨by rfl, by intro w hSw; go_simp⟩) hHeld ?_
      try simp only [Act.put, List.setIfInBounds_toArray, List.set_cons_zero, List.set_cons_succ]
      refine wpAnyH_take (i := 19) (oi := { dst := some 31, op := Op.pick (Operand.tmp 26) (Operand.tmp 30) (Operand.const (Value.bool false)), type := 4, pos := "top07.go:16", after := #[{ on := 14, ground := Ground.data }, { on := 18, ground := Ground.data }], guard := none }) (v := .bool true) rfl (by kernel_rfl) (by kernel_rfl) (by kernel_rfl) (fun _ _ _ h => h) (Or.inl ⟨by rfl, by intro w hSw; go_simp⟩) hHeld ?_
      try simp only [Act.put, List.setIfInBounds_toArray, List.set_cons_zero, List.set_cons_succ]
      refine wpAnyH_take (i := 20) (oi := { dst := some 32, op := Op.move (Operand.tmp 31), type := 4, pos := "top07.go:16", after := #[{ on := 19, ground := Ground.data }, { on := 17, ground := Ground.chain }], guard := none }) (v := .bool true) rfl (by kernel_rfl) (by kernel_rfl) (by kernel_rfl) (fun _ _ _ h => h) (Or.inl ⟨by rfl, by intro w hSw; go_simp⟩) hHeld ?_
      try simp only [Act.put, List.setIfInBounds_toArray, List.set_cons_zero, List.set_cons_succ]
      refine wpAnyH_take (i := 21) (oi := { dst := some 33, op := Op.fieldAddr 40 (Operand.tmp 2) 0, type := 0, pos := "top07.go:16", after := #[{ on := 20, ground := Ground.guard }], guard := some (20, true) }) (v := .pointer (some ⟨g2, 0, none⟩)) rfl (by kernel_rfl) (by kernel_rfl) (by kernel_rfl) (fun _ _ _ h => h) (Or.inl ⟨by rfl, by intro w hSw; go_simp⟩) hHeld ?_
      try simp only [Act.put, List.setIfInBounds_toArray, List.set_cons_zero, List.set_cons_succ]
      refine wpAnyH_take (i := 22) (oi := { dst := some 34, op := Op.fieldAddr 38 (Operand.tmp 33) 3, type := 0, pos := "top07.go:16", after := #[{ on := 21, ground := Ground.data }, { on := 20, ground := Ground.guard }], guard := some (20, true) }) (v := .pointer (some ⟨g2, 3, none⟩)) rfl (by kernel_rfl) (by kernel_rfl) (by kernel_rfl) (fun _ _ _ h => h) (Or.inl ⟨by rfl, by intro w hSw; go_simp⟩) hHeld ?_
      try simp only [Act.put, List.setIfInBounds_toArray, List.set_cons_zero, List.set_cons_succ]
      refine wpAnyH_take (i := 23) (oi := { dst := some 35, op := Op.load 30 (Operand.tmp 34), type := 30, pos := "top07.go:16", after := #[{ on := 22, ground := Ground.data }, { on := 20, ground := Ground.guard }], guard := some (20, true) }) (v := .agg D) rfl (by kernel_rfl) (by kernel_rfl) (by kernel_rfl) (fun _ _ _ h => h) (yieldsIf_mid (by rfl) 30 (.tmp 34) rfl g2 3 rfl D _ (fun W h => (HG.out W g2 h.2.1).2) Tryd.underlying30 rfl HSD.out) hHeld ?_
      try simp only [Act.put, List.setIfInBounds_toArray, List.set_cons_zero, List.set_cons_succ]
      refine wpAnyH_take (i := 24) (oi := { dst := some 36, op := Op.load 30 (Operand.tmp 1), type := 30, pos := "top07.go:16", after := #[{ on := 20, ground := Ground.guard }], guard := some (20, true) }) (v := .agg D) rfl (by kernel_rfl) (by kernel_rfl) (by kernel_rfl) (fun _ _ _ h => h) (yieldsIf_row (by rfl) 30 (.tmp 1) rfl g1 rfl 30 D (0, 0) _ (fun _ h => h.1) Tryd.underlying30 rfl HSD.out) hHeld ?_
      try simp only [Act.put, List.setIfInBounds_toArray, List.set_cons_zero, List.set_cons_succ]
      refine wpAnyH_ready (rs := [25]) (by kernel_rfl) (by simp) ?_
      refine AllReadyH.cons (o := { dst := some 37, op := Op.call { callee := Callee.value (Operand.func 14), args := #[Operand.tmp 35, Operand.const (Value.int IntKind.i64 1), Operand.const (Value.int IntKind.i64 0), Operand.tmp 36, Operand.const (Value.slice none 0 0)], argTypes := #[30, 3, 3, 30, 26] }, type := 32, pos := "top07.go:16", after := #[{ on := 23, ground := Ground.data }, { on := 24, ground := Ground.data }, { on := 20, ground := Ground.chain }, { on := 20, ground := Ground.guard }], guard := some (20, true) }) rfl (fun K hK => ?_) AllReadyH.nil
      go_simp
      refine (I1.out _ hHeld.2.2).mono ?_
      rintro e wf ⟨rfl, hbf⟩
      go_wp2_with fail
      refine hK.out _ _ ⟨(hbf.block _ (heap_lt hHeld.1)).trans hHeld.1, (hbf.block _ (heap_lt hHeld.2.1)).trans hHeld.2.1, hHeld.2.2.trans (hbf.mono hHeld.2.2.size)⟩ (fun hHeld => ?_)
      clear hK K
      try simp only [Act.put, List.setIfInBounds_toArray, List.set_cons_zero, List.set_cons_succ]
      refine wpAnyH_take (i := 26) (oi := { dst := some 38, op := Op.binOp BinOp.eql 32 (Operand.tmp 37) (Operand.const (Value.int IntKind.i64 0)) 32, type := 4, pos := "top07.go:16", after := #[{ on := 25, ground := Ground.data }, { on := 20, ground := Ground.guard }], guard := some (20, true) }) (v := .bool true) rfl (by kernel_rfl) (by kernel_rfl) (by kernel_rfl) (fun _ _ _ h => h) (Or.inl ⟨by rfl, by intro w hSw; go_simp⟩) hHeld ?_
      try simp only [Act.put, List.setIfInBounds_toArray, List.set_cons_zero, List.set_cons_succ]
      refine wpAnyH_take (i := 27) (oi := { dst := some 39, op := Op.pick (Operand.tmp 32) (Operand.tmp 38) (Operand.const (Value.bool false)), type := 4, pos := "top07.go:16", after := #[{ on := 20, ground := Ground.data }, { on := 26, ground := Ground.data }], guard := none }) (v := .bool true) rfl (by kernel_rfl) (by kernel_rfl) (by kernel_rfl) (fun _ _ _ h => h) (Or.inl ⟨by rfl, by intro w hSw; go_simp⟩) hHeld ?_
      try simp only [Act.put, List.setIfInBounds_toArray, List.set_cons_zero, List.set_cons_succ]
      refine wpAnyH_take (i := 28) (oi := { dst := some 40, op := Op.move (Operand.tmp 39), type := 4, pos := "top07.go:16", after := #[{ on := 27, ground := Ground.data }, { on := 25, ground := Ground.chain }], guard := none }) (v := .bool true) rfl (by kernel_rfl) (by kernel_rfl) (by kernel_rfl) (fun _ _ _ h => h) (Or.inl ⟨by rfl, by intro w hSw; go_simp⟩) hHeld ?_
      try simp only [Act.put, List.setIfInBounds_toArray, List.set_cons_zero, List.set_cons_succ]
      refine wpAnyH_take (i := 29) (oi := { dst := some 41, op := Op.fieldAddr 40 (Operand.tmp 2) 0, type := 0, pos := "top07.go:16", after := #[{ on := 28, ground := Ground.guard }], guard := some (28, true) }) (v := .pointer (some ⟨g2, 0, none⟩)) rfl (by kernel_rfl) (by kernel_rfl) (by kernel_rfl) (fun _ _ _ h => h) (Or.inl ⟨by rfl, by intro w hSw; go_simp⟩) hHeld ?_
      try simp only [Act.put, List.setIfInBounds_toArray, List.set_cons_zero, List.set_cons_succ]
      refine wpAnyH_take (i := 30) (oi := { dst := some 42, op := Op.fieldAddr 38 (Operand.tmp 41) 3, type := 0, pos := "top07.go:16", after := #[{ on := 29, ground := Ground.data }, { on := 28, ground := Ground.guard }], guard := some (28, true) }) (v := .pointer (some ⟨g2, 3, none⟩)) rfl (by kernel_rfl) (by kernel_rfl) (by kernel_rfl) (fun _ _ _ h => h) (Or.inl ⟨by rfl, by intro w hSw; go_simp⟩) hHeld ?_
      try simp only [Act.put, List.setIfInBounds_toArray, List.set_cons_zero, List.set_cons_succ]
      refine wpAnyH_take (i := 31) (oi := { dst := some 43, op := Op.load 30 (Operand.tmp 42), type := 30, pos := "top07.go:16", after := #[{ on := 30, ground := Ground.data }, { on := 28, ground := Ground.guard }], guard := some (28, true) }) (v := .agg D) rfl (by kernel_rfl) (by kernel_rfl) (by kernel_rfl) (fun _ _ _ h => h) (yieldsIf_mid (by rfl) 30 (.tmp 42) rfl g2 3 rfl D _ (fun W h => (HG.out W g2 h.2.1).2) Tryd.underlying30 rfl HSD.out) hHeld ?_
      try simp only [Act.put, List.setIfInBounds_toArray, List.set_cons_zero, List.set_cons_succ]
      refine wpAnyH_ready (rs := [32]) (by kernel_rfl) (by simp) ?_
      refine AllReadyH.cons (o := { dst := some 44, op := Op.call { callee := Callee.value (Operand.func 17), args := #[], argTypes := #[] }, type := 30, pos := "top07.go:16", after := #[{ on := 28, ground := Ground.chain }, { on := 28, ground := Ground.guard }], guard := some (28, true) }) rfl (fun K hK => ?_) AllReadyH.nil
      go_simp
      refine (EM.out _ hHeld.2.2).mono ?_
      rintro e wg ⟨rfl, hbg⟩
      go_wp2_with fail
      refine hK.out _ _ ⟨(hbg.block _ (heap_lt hHeld.1)).trans hHeld.1, (hbg.block _ (heap_lt hHeld.2.1)).trans hHeld.2.1, hHeld.2.2.trans (hbg.mono hHeld.2.2.size)⟩ (fun hHeld => ?_)
      clear hK K
      try simp only [Act.put, List.setIfInBounds_toArray, List.set_cons_zero, List.set_cons_succ]
      refine wpAnyH_ready (rs := [33]) (by kernel_rfl) (by simp) ?_
      refine AllReadyH.cons (o := { dst := some 45, op := Op.call { callee := Callee.value (Operand.func 14), args := #[Operand.tmp 43, Operand.const (Value.int IntKind.i64 1), Operand.const (Value.int IntKind.i64 0), Operand.tmp 44, Operand.const (Value.slice none 0 0)], argTypes := #[30, 3, 3, 30, 26] }, type := 32, pos := "top07.go:16", after := #[{ on := 31, ground := Ground.data }, { on := 32, ground := Ground.data }, { on := 32, ground := Ground.chain }, { on := 28, ground := Ground.guard }], guard := some (28, true) }) rfl (fun K hK => ?_) AllReadyH.nil
      go_simp
      refine (I2.out _ hHeld.2.2).mono ?_
      rintro e wh ⟨rfl, hbh⟩
      go_wp2_with fail
      refine hK.out _ _ ⟨(hbh.block _ (heap_lt hHeld.1)).trans hHeld.1, (hbh.block _ (heap_lt hHeld.2.1)).trans hHeld.2.1, hHeld.2.2.trans (hbh.mono hHeld.2.2.size)⟩ (fun hHeld => ?_)
      clear hK K
      try simp only [Act.put, List.setIfInBounds_toArray, List.set_cons_zero, List.set_cons_succ]
      refine wpAnyH_take (i := 34) (oi := { dst := some 46, op := Op.binOp BinOp.eql 32 (Operand.tmp 45) (Operand.const (Value.int IntKind.i64 41)) 32, type := 4, pos := "top07.go:16", after := #[{ on := 33, ground := Ground.data }, { on := 28, ground := Ground.guard }], guard := some (28, true) }) (v := .bool true) rfl (by kernel_rfl) (by kernel_rfl) (by kernel_rfl) (fun _ _ _ h => h) (Or.inl ⟨by rfl, by intro w hSw; go_simp⟩) hHeld ?_
      try simp only [Act.put, List.setIfInBounds_toArray, List.set_cons_zero, List.set_cons_succ]
      refine wpAnyH_take (i := 35) (oi := { dst := some 47, op := Op.pick (Operand.tmp 40) (Operand.tmp 46) (Operand.const (Value.bool false)), type := 4, pos := "top07.go:16", after := #[{ on := 28, ground := Ground.data }, { on := 34, ground := Ground.data }], guard := none }) (v := .bool true) rfl (by kernel_rfl) (by kernel_rfl) (by kernel_rfl) (fun _ _ _ h => h) (Or.inl ⟨by rfl, by intro w hSw; go_simp⟩) hHeld ?_
      try simp only [Act.put, List.setIfInBounds_toArray, List.set_cons_zero, List.set_cons_succ]
      refine wpAnyH_take (i := 36) (oi := { dst := some 0, op := Op.assign (Operand.tmp 47), type := 4, pos := "top07.go:16", after := #[{ on := 35, ground := Ground.data }, { on := 33, ground := Ground.chain }, { on := 0, ground := Ground.phase }, { on := 1, ground := Ground.phase }, { on := 2, ground := Ground.phase }, { on := 3, ground := Ground.phase }, { on := 4, ground := Ground.phase }, { on := 5, ground := Ground.phase }, { on := 6, ground := Ground.phase }, { on := 7, ground := Ground.phase }, { on := 8, ground := Ground.phase }, { on := 9, ground := Ground.phase }, { on := 10, ground := Ground.phase }, { on := 11, ground := Ground.phase }, { on := 12, ground := Ground.phase }, { on := 13, ground := Ground.phase }, { on := 14, ground := Ground.phase }, { on := 15, ground := Ground.phase }, { on := 16, ground := Ground.phase }, { on := 17, ground := Ground.phase }, { on := 18, ground := Ground.phase }, { on := 19, ground := Ground.phase }, { on := 20, ground := Ground.phase }, { on := 21, ground := Ground.phase }, { on := 22, ground := Ground.phase }, { on := 23, ground := Ground.phase }, { on := 24, ground := Ground.phase }, { on := 25, ground := Ground.phase }, { on := 26, ground := Ground.phase }, { on := 27, ground := Ground.phase }, { on := 28, ground := Ground.phase }, { on := 29, ground := Ground.phase }, { on := 30, ground := Ground.phase }, { on := 31, ground := Ground.phase }, { on := 32, ground := Ground.phase }, { on := 33, ground := Ground.phase }, { on := 34, ground := Ground.phase }, { on := 35, ground := Ground.phase }], guard := none }) (v := .bool true) rfl (by kernel_rfl) (by kernel_rfl) (by kernel_rfl) (fun _ _ _ h => h) (Or.inl ⟨by rfl, by intro w hSw; go_simp⟩) hHeld ?_
      try simp only [Act.put, List.setIfInBounds_toArray, List.set_cons_zero, List.set_cons_succ]
      refine wpAnyH_done (by kernel_rfl) ?_ _
      have HBF := hidk hHeld.2.2
      clear hHeld
      go_wp2_with fail
      go_ret
      exact ⟨rfl, HBF.out⟩
  · refine step_new_var (by rfl) 40 rfl Z HA.out ?_
    intro g2 wn HM2
    have HG2 := hidk HM2.out.row
    have hg2 : w.heap.size ≤ g2 := (by rw [HM2.out.new]; exact hHeld.2.size)
    have hg12 : g1 ≠ g2 := (by have h1 := heap_lt hHeld.1; have h2 := HM2.out.new; omega)
    refine hK.out _ _ ⟨(HM2.out.below.block _ (heap_lt hHeld.1)).trans hHeld.1, hHeld.2.trans (HM2.out.below.mono hHeld.2.size)⟩ (fun hHeld => ?_)
    clear hK K
    try simp only [Act.put, List.setIfInBounds_toArray, List.set_cons_zero, List.set_cons_succ]
    refine wpAnyH_ready (rs := [0]) (by kernel_rfl) (by simp) ?_
    refine (AllReadyH.cons (o := { dst := some 6, op := Op.call { callee := Callee.value (Operand.func 16), args := #[], argTypes := #[] }, type := 24, pos := "top07.go:15", after := #[], guard := none }) rfl (fun K hK => ?_) AllReadyH.nil)
    go_simp
    refine (MS.out _).mono ?_
    rintro e wc0 ⟨rfl, hb0⟩
    try replace HG2 := hidk ((hb0.block _ (heap_lt HG2.out)).trans HG2.out)
    go_wp2_with fail
    refine hK.out _ _ ⟨(hb0.block _ (heap_lt hHeld.1)).trans hHeld.1, hHeld.2.trans (hb0.mono hHeld.2.size)⟩ (fun hHeld => ?_)
    clear hK K
    try simp only [Act.put, List.setIfInBounds_toArray, List.set_cons_zero, List.set_cons_succ]
    refine wpAnyH_ready (rs := [3]) (by kernel_rfl) (by simp) ?_
    refine (AllReadyH.cons (o := { dst := some 9, op := Op.call { callee := Callee.value (Operand.func 8), args := #[Operand.tmp 6, Operand.tmp 8, Operand.const (Value.int IntKind.i64 2)], argTypes := #[24, 38, 3] }, type := 41, pos := "top07.go:15", after := #[{ on := 0, ground := Ground.data }, { on := 2, ground := Ground.data }, { on := 0, ground := Ground.chain }], guard := none }) rfl (fun K hK => ?_) AllReadyH.nil)
    go_simp
    refine (SG.out _ hHeld.2).mono ?_
    rintro e wc3 ⟨rfl, hb3⟩
    try replace HG2 := hidk ((hb3.block _ (heap_lt HG2.out)).trans HG2.out)
    go_wp2_with fail
    refine hK.out _ _ ⟨(hb3.block _ (heap_lt hHeld.1)).trans hHeld.1, hHeld.2.trans (hb3.mono hHeld.2.size)⟩ (fun hHeld => ?_)
    clear hK K
    try simp only [Act.put, List.setIfInBounds_toArray, List.set_cons_zero, List.set_cons_succ]
    refine wpAnyH_take (i := 4) (oi := { dst := some 5, op := Op.move (Operand.tmp 9), type := 41, pos := "top07.go:15", after := #[{ on := 3, ground := Ground.data }], guard := none }) (v := .tuple #[.agg R, .int .i64 0]) rfl (by kernel_rfl) (by kernel_rfl) (by kernel_rfl) (fun _ _ _ h => h) (Or.inl ⟨by rfl, by intro W hSw; go_simp⟩) hHeld ?_
    try simp only [Act.put, List.setIfInBounds_toArray, List.set_cons_zero, List.set_cons_succ]
    refine wpAnyH_take (i := 5) (oi := { dst := some 10, op := Op.extract (Operand.tmp 5) 0, type := 40, pos := "top07.go:15", after := #[{ on := 4, ground := Ground.data }], guard := none }) (v := .agg R) rfl (by kernel_rfl) (by kernel_rfl) (by kernel_rfl) (fun _ _ _ h => h) (Or.inl ⟨by rfl, by intro W hSw; go_simp⟩) hHeld ?_
    try simp only [Act.put, List.setIfInBounds_toArray, List.set_cons_zero, List.set_cons_succ]
    refine wpAnyH_take (i := 6) (oi := { dst := some 11, op := Op.extract (Operand.tmp 5) 1, type := 32, pos := "top07.go:15", after := #[{ on := 4, ground := Ground.data }, { on := 8, ground := Ground.gcOnly Departure.lateStores }], guard := none }) (v := .int .i64 0) rfl (by kernel_rfl) (by kernel_rfl) (by kernel_rfl) (fun _ _ _ h => h) (Or.inl ⟨by rfl, by intro W hSw; go_simp⟩) hHeld ?_
    try simp only [Act.put, List.setIfInBounds_toArray, List.set_cons_zero, List.set_cons_succ]
    refine wpAnyH_ready (rs := [8]) (by kernel_rfl) (by simp) ?_
    refine (AllReadyH.cons (o := { dst := none, op := Op.store 40 (Operand.tmp 2) (Operand.tmp 10), type := 0, pos := "top07.go:15", after := #[{ on := 7, ground := Ground.data }, { on := 5, ground := Ground.data }, { on := 3, ground := Ground.chain }, { on := 0, ground := Ground.phase }, { on := 1, ground := Ground.phase }, { on := 2, ground := Ground.phase }, { on := 3, ground := Ground.phase }, { on := 4, ground := Ground.phase }, { on := 5, ground := Ground.phase }, { on := 6, ground := Ground.textOnly Departure.lateStores }, { on := 7, ground := Ground.phase }], guard := none }) rfl (fun K hK => ?_) AllReadyH.nil)
    refine step_set_var (by rfl) 40 (.tmp 2) (.tmp 10) rfl g2 R rfl rfl 40 Z HG2.out HSR.out HZR.out H1R.out ?_
    intro wz HW2
    refine hK.out _ _ ⟨(HW2.out.other g1 hg12).trans hHeld.1, HW2.out.below _ _ hHeld.2 hg2⟩ (fun hHeld => ?_)
    clear hK K
    try simp only [Act.put, List.setIfInBounds_toArray, List.set_cons_zero, List.set_cons_succ]
    refine wpAnyH_take (i := 9) (oi := { dst := some 3, op := Op.assign (Operand.tmp 11), type := 32, pos := "top07.go:15", after := #[{ on := 6, ground := Ground.data }, { on := 8, ground := Ground.chain }, { on := 0, ground := Ground.phase }, { on := 1, ground := Ground.phase }, { on := 2, ground := Ground.phase }, { on := 3, ground := Ground.phase }, { on := 4, ground := Ground.phase }, { on := 5, ground := Ground.phase }, { on := 6, ground := Ground.phase }, { on := 7, ground := Ground.phase }, { on := 8, ground := Ground.phase }], guard := none }) (v := .int .i64 0) rfl (by kernel_rfl) (by kernel_rfl) (by kernel_rfl) (fun _ _ _ h => h) (Or.inl ⟨by rfl, by intro W hSw; go_simp⟩) hHeld ?_
    try simp only [Act.put, List.setIfInBounds_toArray, List.set_cons_zero, List.set_cons_succ]
    refine wpAnyH_done (by kernel_rfl) ?_ _
    have HB3 : Hid (wz.heap[g1]? = some (.cells D 30 (0, 0)) ∧ wz.heap[g2]? = some (.cells R 40 (0, 0)) ∧ Below w.heap.size w wz) := ⟨hHeld.1, HW2.out.row, hHeld.2⟩
    clear hHeld HW2 HB2 HBH SG
    go_wp2_with fail
    refine wp_region_held_drew (S := (fun W => W.heap[g1]? = some (.cells D 30 (0, 0)) ∧ W.heap[g2]? = some (.cells R 40 (0, 0)) ∧ Below w.heap.size w W)) (by kernel_rfl) ⟨HB3.out.1, HB3.out.2.1, HB3.out.2.2.drew⟩ (fun hHeld => ?_)
    refine wpAnyH_take (i := 0) (oi := { dst := some 12, op := Op.move (Operand.tmp 3), type := 32, pos := "top07.go:16", after := #[], guard := none }) (v := .int .i64 0) rfl (by kernel_rfl) (by kernel_rfl) (by kernel_rfl) (fun _ _ _ h => h) (Or.inl ⟨by rfl, by intro w hSw; go_simp⟩) hHeld ?_
    try simp only [Act.put, List.setIfInBounds_toArray, List.set_cons_zero, List.set_cons_succ]
    refine wpAnyH_take (i := 1) (oi := { dst := some 13, op := Op.binOp BinOp.eql 32 (Operand.tmp 12) (Operand.const (Value.int IntKind.i64 0)) 32, type := 4, pos := "top07.go:16", after := #[{ on := 0, ground := Ground.data }], guard := none }) (v := .bool true) rfl (by kernel_rfl) (by kernel_rfl) (by kernel_rfl) (fun _ _ _ h => h) (Or.inl ⟨by rfl, by intro w hSw; go_simp⟩) hHeld ?_
    try simp only [Act.put, List.setIfInBounds_toArray, List.set_cons_zero, List.set_cons_succ]
    refine wpAnyH_take (i := 2) (oi := { dst := some 14, op := Op.move (Operand.tmp 13), type := 4, pos := "top07.go:16", after := #[{ on := 1, ground := Ground.data }], guard := none }) (v := .bool true) rfl (by kernel_rfl) (by kernel_rfl) (by kernel_rfl) (fun _ _ _ h => h) (Or.inl ⟨by rfl, by intro w hSw; go_simp⟩) hHeld ?_
    try simp only [Act.put, List.setIfInBounds_toArray, List.set_cons_zero, List.set_cons_succ]
    refine wpAnyH_take (i := 3) (oi := { dst := some 15, op := Op.fieldAddr 40 (Operand.tmp 2) 1, type := 0, pos := "top07.go:16", after := #[{ on := 2, ground := Ground.guard }], guard := some (2, true) }) (v := .pointer (some ⟨g2, 36, none⟩)) rfl (by kernel_rfl) (by kernel_rfl) (by kernel_rfl) (fun _ _ _ h => h) (Or.inl ⟨by rfl, by intro w hSw; go_simp⟩) hHeld ?_
    try simp only [Act.put, List.setIfInBounds_toArray, List.set_cons_zero, List.set_cons_succ]
    refine wpAnyH_take (i := 4) (oi := { dst := some 16, op := Op.load 3 (Operand.tmp 15), type := 3, pos := "top07.go:16", after := #[{ on := 3, ground := Ground.data }, { on := 2, ground := Ground.guard }], guard := some (2, true) }) (v := .int .i64 2) rfl (by kernel_rfl) (by kernel_rfl) (by kernel_rfl) (fun _ _ _ h => h) (Or.inl ⟨by rfl, by intro W hSw; have := (HG.out W g2 hSw.2.1).1; go_simp⟩) hHeld ?_
    try simp only [Act.put, List.setIfInBounds_toArray, List.set_cons_zero, List.set_cons_succ]
    refine wpAnyH_take (i := 5) (oi := { dst := some 17, op := Op.binOp BinOp.eql 3 (Operand.tmp 16) (Operand.const (Value.int IntKind.i64 2)) 3, type := 4, pos := "top07.go:16", after := #[{ on := 4, ground := Ground.data }, { on := 2, ground := Ground.guard }], guard := some (2, true) }) (v := .bool true) rfl (by kernel_rfl) (by kernel_rfl) (by kernel_rfl) (fun _ _ _ h => h) (Or.inl ⟨by rfl, by intro w hSw; go_simp⟩) hHeld ?_
    try simp only [Act.put, List.setIfInBounds_toArray, List.set_cons_zero, List.set_cons_succ]
    refine wpAnyH_take (i := 6) (oi := { dst := some 18, op := Op.pick (Operand.tmp 14) (Operand.tmp 17) (Operand.const (Value.bool false)), type := 4, pos := "top07.go:16", after := #[{ on := 2, ground := Ground.data }, { on := 5, ground := Ground.data }], guard := none }) (v := .bool true) rfl (by kernel_rfl) (by kernel_rfl) (by kernel_rfl) (fun _ _ _ h => h) (Or.inl ⟨by rfl, by intro w hSw; go_simp⟩) hHeld ?_
    try simp only [Act.put, List.setIfInBounds_toArray, List.set_cons_zero, List.set_cons_succ]
    refine wpAnyH_take (i := 7) (oi := { dst := some 19, op := Op.move (Operand.tmp 18), type := 4, pos := "top07.go:16", after := #[{ on := 6, ground := Ground.data }, { on := 2, ground := Ground.chain }], guard := none }) (v := .bool true) rfl (by kernel_rfl) (by kernel_rfl) (by kernel_rfl) (fun _ _ _ h => h) (Or.inl ⟨by rfl, by intro w hSw; go_simp⟩) hHeld ?_
    try simp only [Act.put, List.setIfInBounds_toArray, List.set_cons_zero, List.set_cons_succ]
    refine wpAnyH_take (i := 8) (oi := { dst := some 20, op := Op.fieldAddr 40 (Operand.tmp 2) 0, type := 0, pos := "top07.go:16", after := #[{ on := 7, ground := Ground.guard }], guard := some (7, true) }) (v := .pointer (some ⟨g2, 0, none⟩)) rfl (by kernel_rfl) (by kernel_rfl) (by kernel_rfl) (fun _ _ _ h => h) (Or.inl ⟨by rfl, by intro w hSw; go_simp⟩) hHeld ?_
    try simp only [Act.put, List.setIfInBounds_toArray, List.set_cons_zero, List.set_cons_succ]
    refine wpAnyH_take (i := 9) (oi := { dst := some 21, op := Op.fieldAddr 38 (Operand.tmp 20) 3, type := 0, pos := "top07.go:16", after := #[{ on := 8, ground := Ground.data }, { on := 7, ground := Ground.guard }], guard := some (7, true) }) (v := .pointer (some ⟨g2, 3, none⟩)) rfl (by kernel_rfl) (by kernel_rfl) (by kernel_rfl) (fun _ _ _ h => h) (Or.inl ⟨by rfl, by intro w hSw; go_simp⟩) hHeld ?_
    try simp only [Act.put, List.setIfInBounds_toArray, List.set_cons_zero, List.set_cons_succ]
    refine wpAnyH_take (i := 10) (oi := { dst := some 22, op := Op.load 30 (Operand.tmp 21), type := 30, pos := "top07.go:16", after := #[{ on := 9, ground := Ground.data }, { on := 7, ground := Ground.guard }], guard := some (7, true) }) (v := .agg D) rfl (by kernel_rfl) (by kernel_rfl) (by kernel_rfl) (fun _ _ _ h => h) (yieldsIf_mid (by rfl) 30 (.tmp 21) rfl g2 3 rfl D _ (fun W h => (HG.out W g2 h.2.1).2) Tryd.underlying30 rfl HSD.out) hHeld ?_
    try simp only [Act.put, List.setIfInBounds_toArray, List.set_cons_zero, List.set_cons_succ]
    refine wpAnyH_take (i := 11) (oi := { dst := some 23, op := Op.load 30 (Operand.tmp 1), type := 30, pos := "top07.go:16", after := #[{ on := 7, ground := Ground.guard }], guard := some (7, true) }) (v := .agg D) rfl (by kernel_rfl) (by kernel_rfl) (by kernel_rfl) (fun _ _ _ h => h) (yieldsIf_row (by rfl) 30 (.tmp 1) rfl g1 rfl 30 D (0, 0) _ (fun _ h => h.1) Tryd.underlying30 rfl HSD.out) hHeld ?_
    try simp only [Act.put, List.setIfInBounds_toArray, List.set_cons_zero, List.set_cons_succ]
    refine wpAnyH_take (i := 12) (oi := { dst := some 24, op := Op.binOp BinOp.eql 30 (Operand.tmp 22) (Operand.tmp 23) 30, type := 4, pos := "top07.go:16", after := #[{ on := 10, ground := Ground.data }, { on := 11, ground := Ground.data }, { on := 7, ground := Ground.guard }], guard := some (7, true) }) (v := .bool true) rfl (by kernel_rfl) (by kernel_rfl) (by kernel_rfl) (fun _ _ _ h => h) (Or.inl ⟨by rfl, by intro W hSw; have := EQ W; go_simp⟩) hHeld ?_
    try simp only [Act.put, List.setIfInBounds_toArray, List.set_cons_zero, List.set_cons_succ]
    refine wpAnyH_take (i := 13) (oi := { dst := some 25, op := Op.pick (Operand.tmp 19) (Operand.tmp 24) (Operand.const (Value.bool false)), type := 4, pos := "top07.go:16", after := #[{ on := 7, ground := Ground.data }, { on := 12, ground := Ground.data }], guard := none }) (v := .bool true) rfl (by kernel_rfl) (by kernel_rfl) (by kernel_rfl) (fun _ _ _ h => h) (Or.inl ⟨by rfl, by intro w hSw; go_simp⟩) hHeld ?_
    try simp only [Act.put, List.setIfInBounds_toArray, List.set_cons_zero, List.set_cons_succ]
    refine wpAnyH_take (i := 14) (oi := { dst := some 26, op := Op.move (Operand.tmp 25), type := 4, pos := "top07.go:16", after := #[{ on := 13, ground := Ground.data }, { on := 7, ground := Ground.chain }], guard := none }) (v := .bool true) rfl (by kernel_rfl) (by kernel_rfl) (by kernel_rfl) (fun _ _ _ h => h) (Or.inl ⟨by rfl, by intro w hSw; go_simp⟩) hHeld ?_
    try simp only [Act.put, List.setIfInBounds_toArray, List.set_cons_zero, List.set_cons_succ]
    refine wpAnyH_take (i := 16) (oi := { dst := some 28, op := Op.load 40 (Operand.tmp 2), type := 40, pos := "top07.go:16", after := #[{ on := 14, ground := Ground.guard }], guard := some (14, true) }) (v := .agg R) rfl (by kernel_rfl) (by kernel_rfl) (by kernel_rfl) (fun _ _ _ h => h) (yieldsIf_row (by rfl) 40 (.tmp 2) rfl g2 rfl 40 R (0, 0) _ (fun _ h => h.2.1) Tryd.underlying40 rfl HSR.out) hHeld ?_
    try simp only [Act.put, List.setIfInBounds_toArray, List.set_cons_zero, List.set_cons_succ]
    refine wpAnyH_ready (rs := [15]) (by kernel_rfl) (by simp) ?_
    refine AllReadyH.cons (o := { dst := some 27, op := Op.call { callee := Callee.value (Operand.func 16), args := #[], argTypes := #[] }, type := 24, pos := "top07.go:16", after := #[{ on := 14, ground := Ground.chain }, { on := 14, ground := Ground.guard }], guard := some (14, true) }) rfl (fun K hK => ?_) AllReadyH.nil
    go_simp
    refine (MS.out _).mono ?_
    rintro e wd ⟨rfl, hbd⟩
    go_wp2_with fail
    refine hK.out _ _ ⟨(hbd.block _ (heap_lt hHeld.1)).trans hHeld.1, (hbd.block _ (heap_lt hHeld.2.1)).trans hHeld.2.1, hHeld.2.2.trans (hbd.mono hHeld.2.2.size)⟩ (fun hHeld => ?_)
    clear hK K
    try simp only [Act.put, List.setIfInBounds_toArray, List.set_cons_zero, List.set_cons_succ]
    refine wpAnyH_ready (rs := [17]) (by kernel_rfl) (by simp) ?_
    refine AllReadyH.cons (o := { dst := some 29, op := Op.call { callee := Callee.value (Operand.func 11), args := #[Operand.tmp 27, Operand.tmp 28], argTypes := #[24, 40] }, type := 32, pos := "top07.go:16", after := #[{ on := 15, ground := Ground.data }, { on := 16, ground := Ground.data }, { on := 15, ground := Ground.chain }, { on := 14, ground := Ground.guard }], guard := some (14, true) }) rfl (fun K hK => ?_) AllReadyH.nil
    go_simp
    refine (VF.out _ hHeld.2.2).mono ?_
    rintro e we ⟨rfl, hbe⟩
    go_wp2_with fail
    refine hK.out _ _ ⟨(hbe.block _ (heap_lt hHeld.1)).trans hHeld.1, (hbe.block _ (heap_lt hHeld.2.1)).trans hHeld.2.1, hHeld.2.2.trans (hbe.mono hHeld.2.2.size)⟩ (fun hHeld => ?_)
    clear hK K
    try simp only [Act.put, List.setIfInBounds_toArray, List.set_cons_zero, List.set_cons_succ]
    refine wpAnyH_take (i := 18) (oi := { dst := some 30, op := Op.binOp BinOp.eql 32 (Operand.tmp 29) (Operand.const (Value.int IntKind.i64 0)) 32, type := 4, pos := "top07.go:16", after := #[{ on := 17, ground := Ground.data }, { on := 14, ground := Ground.guard }], guard := some (14, true) }) (v := .bool true) rfl (by kernel_rfl) (by kernel_rfl) (by kernel_rfl) (fun _ _ _ h => h) (Or.inl ⟨by rfl, by intro w hSw; go_simp⟩) hHeld ?_
    try simp only [Act.put, List.setIfInBounds_toArray, List.set_cons_zero, List.set_cons_succ]
    refine wpAnyH_take (i := 19) (oi := { dst := some 31, op := Op.pick (Operand.tmp 26) (Operand.tmp 30) (Operand.const (Value.bool false)), type := 4, pos := "top07.go:16", after := #[{ on := 14, ground := Ground.data }, { on := 18, ground := Ground.data }], guard := none }) (v := .bool true) rfl (by kernel_rfl) (by kernel_rfl) (by kernel_rfl) (fun _ _ _ h => h) (Or.inl ⟨by rfl, by intro w hSw; go_simp⟩) hHeld ?_
    try simp only [Act.put, List.setIfInBounds_toArray, List.set_cons_zero, List.set_cons_succ]
    refine wpAnyH_take (i := 20) (oi := { dst := some 32, op := Op.move (Operand.tmp 31), type := 4, pos := "top07.go:16", after := #[{ on := 19, ground := Ground.data }, { on := 17, ground := Ground.chain }], guard := none }) (v := .bool true) rfl (by kernel_rfl) (by kernel_rfl) (by kernel_rfl) (fun _ _ _ h => h) (Or.inl ⟨by rfl, by intro w hSw; go_simp⟩) hHeld ?_
    try simp only [Act.put, List.setIfInBounds_toArray, List.set_cons_zero, List.set_cons_succ]
    refine wpAnyH_take (i := 21) (oi := { dst := some 33, op := Op.fieldAddr 40 (Operand.tmp 2) 0, type := 0, pos := "top07.go:16", after := #[{ on := 20, ground := Ground.guard }], guard := some (20, true) }) (v := .pointer (some ⟨g2, 0, none⟩)) rfl (by kernel_rfl) (by kernel_rfl) (by kernel_rfl) (fun _ _ _ h => h) (Or.inl ⟨by rfl, by intro w hSw; go_simp⟩) hHeld ?_
    try simp only [Act.put, List.setIfInBounds_toArray, List.set_cons_zero, List.set_cons_succ]
    refine wpAnyH_take (i := 22) (oi := { dst := some 34, op := Op.fieldAddr 38 (Operand.tmp 33) 3, type := 0, pos := "top07.go:16", after := #[{ on := 21, ground := Ground.data }, { on := 20, ground := Ground.guard }], guard := some (20, true) }) (v := .pointer (some ⟨g2, 3, none⟩)) rfl (by kernel_rfl) (by kernel_rfl) (by kernel_rfl) (fun _ _ _ h => h) (Or.inl ⟨by rfl, by intro w hSw; go_simp⟩) hHeld ?_
    try simp only [Act.put, List.setIfInBounds_toArray, List.set_cons_zero, List.set_cons_succ]
    refine wpAnyH_take (i := 23) (oi := { dst := some 35, op := Op.load 30 (Operand.tmp 34), type := 30, pos := "top07.go:16", after := #[{ on := 22, ground := Ground.data }, { on := 20, ground := Ground.guard }], guard := some (20, true) }) (v := .agg D) rfl (by kernel_rfl) (by kernel_rfl) (by kernel_rfl) (fun _ _ _ h => h) (yieldsIf_mid (by rfl) 30 (.tmp 34) rfl g2 3 rfl D _ (fun W h => (HG.out W g2 h.2.1).2) Tryd.underlying30 rfl HSD.out) hHeld ?_
    try simp only [Act.put, List.setIfInBounds_toArray, List.set_cons_zero, List.set_cons_succ]
    refine wpAnyH_take (i := 24) (oi := { dst := some 36, op := Op.load 30 (Operand.tmp 1), type := 30, pos := "top07.go:16", after := #[{ on := 20, ground := Ground.guard }], guard := some (20, true) }) (v := .agg D) rfl (by kernel_rfl) (by kernel_rfl) (by kernel_rfl) (fun _ _ _ h => h) (yieldsIf_row (by rfl) 30 (.tmp 1) rfl g1 rfl 30 D (0, 0) _ (fun _ h => h.1) Tryd.underlying30 rfl HSD.out) hHeld ?_
    try simp only [Act.put, List.setIfInBounds_toArray, List.set_cons_zero, List.set_cons_succ]
    refine wpAnyH_ready (rs := [25]) (by kernel_rfl) (by simp) ?_
    refine AllReadyH.cons (o := { dst := some 37, op := Op.call { callee := Callee.value (Operand.func 14), args := #[Operand.tmp 35, Operand.const (Value.int IntKind.i64 1), Operand.const (Value.int IntKind.i64 0), Operand.tmp 36, Operand.const (Value.slice none 0 0)], argTypes := #[30, 3, 3, 30, 26] }, type := 32, pos := "top07.go:16", after := #[{ on := 23, ground := Ground.data }, { on := 24, ground := Ground.data }, { on := 20, ground := Ground.chain }, { on := 20, ground := Ground.guard }], guard := some (20, true) }) rfl (fun K hK => ?_) AllReadyH.nil
    go_simp
    refine (I1.out _ hHeld.2.2).mono ?_
    rintro e wf ⟨rfl, hbf⟩
    go_wp2_with fail
    refine hK.out _ _ ⟨(hbf.block _ (heap_lt hHeld.1)).trans hHeld.1, (hbf.block _ (heap_lt hHeld.2.1)).trans hHeld.2.1, hHeld.2.2.trans (hbf.mono hHeld.2.2.size)⟩ (fun hHeld => ?_)
    clear hK K
    try simp only [Act.put, List.setIfInBounds_toArray, List.set_cons_zero, List.set_cons_succ]
    refine wpAnyH_take (i := 26) (oi := { dst := some 38, op := Op.binOp BinOp.eql 32 (Operand.tmp 37) (Operand.const (Value.int IntKind.i64 0)) 32, type := 4, pos := "top07.go:16", after := #[{ on := 25, ground := Ground.data }, { on := 20, ground := Ground.guard }], guard := some (20, true) }) (v := .bool true) rfl (by kernel_rfl) (by kernel_rfl) (by kernel_rfl) (fun _ _ _ h => h) (Or.inl ⟨by rfl, by intro w hSw; go_simp⟩) hHeld ?_
    try simp only [Act.put, List.setIfInBounds_toArray, List.set_cons_zero, List.set_cons_succ]
    refine wpAnyH_take (i := 27) (oi := { dst := some 39, op := Op.pick (Operand.tmp 32) (Operand.tmp 38) (Operand.const (Value.bool false)), type := 4, pos := "top07.go:16", after := #[{ on := 20, ground := Ground.data }, { on := 26, ground := Ground.data }], guard := none }) (v := .bool true) rfl (by kernel_rfl) (by kernel_rfl) (by kernel_rfl) (fun _ _ _ h => h) (Or.inl ⟨by rfl, by intro w hSw; go_simp⟩) hHeld ?_
    try simp only [Act.put, List.setIfInBounds_toArray, List.set_cons_zero, List.set_cons_succ]
    refine wpAnyH_take (i := 28) (oi := { dst := some 40, op := Op.move (Operand.tmp 39), type := 4, pos := "top07.go:16", after := #[{ on := 27, ground := Ground.data }, { on := 25, ground := Ground.chain }], guard := none }) (v := .bool true) rfl (by kernel_rfl) (by kernel_rfl) (by kernel_rfl) (fun _ _ _ h => h) (Or.inl ⟨by rfl, by intro w hSw; go_simp⟩) hHeld ?_
    try simp only [Act.put, List.setIfInBounds_toArray, List.set_cons_zero, List.set_cons_succ]
    refine wpAnyH_take (i := 29) (oi := { dst := some 41, op := Op.fieldAddr 40 (Operand.tmp 2) 0, type := 0, pos := "top07.go:16", after := #[{ on := 28, ground := Ground.guard }], guard := some (28, true) }) (v := .pointer (some ⟨g2, 0, none⟩)) rfl (by kernel_rfl) (by kernel_rfl) (by kernel_rfl) (fun _ _ _ h => h) (Or.inl ⟨by rfl, by intro w hSw; go_simp⟩) hHeld ?_
    try simp only [Act.put, List.setIfInBounds_toArray, List.set_cons_zero, List.set_cons_succ]
    refine wpAnyH_take (i := 30) (oi := { dst := some 42, op := Op.fieldAddr 38 (Operand.tmp 41) 3, type := 0, pos := "top07.go:16", after := #[{ on := 29, ground := Ground.data }, { on := 28, ground := Ground.guard }], guard := some (28, true) }) (v := .pointer (some ⟨g2, 3, none⟩)) rfl (by kernel_rfl) (by kernel_rfl) (by kernel_rfl) (fun _ _ _ h => h) (Or.inl ⟨by rfl, by intro w hSw; go_simp⟩) hHeld ?_
    try simp only [Act.put, List.setIfInBounds_toArray, List.set_cons_zero, List.set_cons_succ]
    refine wpAnyH_take (i := 31) (oi := { dst := some 43, op := Op.load 30 (Operand.tmp 42), type := 30, pos := "top07.go:16", after := #[{ on := 30, ground := Ground.data }, { on := 28, ground := Ground.guard }], guard := some (28, true) }) (v := .agg D) rfl (by kernel_rfl) (by kernel_rfl) (by kernel_rfl) (fun _ _ _ h => h) (yieldsIf_mid (by rfl) 30 (.tmp 42) rfl g2 3 rfl D _ (fun W h => (HG.out W g2 h.2.1).2) Tryd.underlying30 rfl HSD.out) hHeld ?_
    try simp only [Act.put, List.setIfInBounds_toArray, List.set_cons_zero, List.set_cons_succ]
    refine wpAnyH_ready (rs := [32]) (by kernel_rfl) (by simp) ?_
    refine AllReadyH.cons (o := { dst := some 44, op := Op.call { callee := Callee.value (Operand.func 17), args := #[], argTypes := #[] }, type := 30, pos := "top07.go:16", after := #[{ on := 28, ground := Ground.chain }, { on := 28, ground := Ground.guard }], guard := some (28, true) }) rfl (fun K hK => ?_) AllReadyH.nil
    go_simp
    refine (EM.out _ hHeld.2.2).mono ?_
    rintro e wg ⟨rfl, hbg⟩
    go_wp2_with fail
    refine hK.out _ _ ⟨(hbg.block _ (heap_lt hHeld.1)).trans hHeld.1, (hbg.block _ (heap_lt hHeld.2.1)).trans hHeld.2.1, hHeld.2.2.trans (hbg.mono hHeld.2.2.size)⟩ (fun hHeld => ?_)
    clear hK K
    try simp only [Act.put, List.setIfInBounds_toArray, List.set_cons_zero, List.set_cons_succ]
    refine wpAnyH_ready (rs := [33]) (by kernel_rfl) (by simp) ?_
    refine AllReadyH.cons (o := { dst := some 45, op := Op.call { callee := Callee.value (Operand.func 14), args := #[Operand.tmp 43, Operand.const (Value.int IntKind.i64 1), Operand.const (Value.int IntKind.i64 0), Operand.tmp 44, Operand.const (Value.slice none 0 0)], argTypes := #[30, 3, 3, 30, 26] }, type := 32, pos := "top07.go:16", after := #[{ on := 31, ground := Ground.data }, { on := 32, ground := Ground.data }, { on := 32, ground := Ground.chain }, { on := 28, ground := Ground.guard }], guard := some (28, true) }) rfl (fun K hK => ?_) AllReadyH.nil
    go_simp
    refine (I2.out _ hHeld.2.2).mono ?_
    rintro e wh ⟨rfl, hbh⟩
    go_wp2_with fail
    refine hK.out _ _ ⟨(hbh.block _ (heap_lt hHeld.1)).trans hHeld.1, (hbh.block _ (heap_lt hHeld.2.1)).trans hHeld.2.1, hHeld.2.2.trans (hbh.mono hHeld.2.2.size)⟩ (fun hHeld => ?_)
    clear hK K
    try simp only [Act.put, List.setIfInBounds_toArray, List.set_cons_zero, List.set_cons_succ]
    refine wpAnyH_take (i := 34) (oi := { dst := some 46, op := Op.binOp BinOp.eql 32 (Operand.tmp 45) (Operand.const (Value.int IntKind.i64 41)) 32, type := 4, pos := "top07.go:16", after := #[{ on := 33, ground := Ground.data }, { on := 28, ground := Ground.guard }], guard := some (28, true) }) (v := .bool true) rfl (by kernel_rfl) (by kernel_rfl) (by kernel_rfl) (fun _ _ _ h => h) (Or.inl ⟨by rfl, by intro w hSw; go_simp⟩) hHeld ?_
    try simp only [Act.put, List.setIfInBounds_toArray, List.set_cons_zero, List.set_cons_succ]
    refine wpAnyH_take (i := 35) (oi := { dst := some 47, op := Op.pick (Operand.tmp 40) (Operand.tmp 46) (Operand.const (Value.bool false)), type := 4, pos := "top07.go:16", after := #[{ on := 28, ground := Ground.data }, { on := 34, ground := Ground.data }], guard := none }) (v := .bool true) rfl (by kernel_rfl) (by kernel_rfl) (by kernel_rfl) (fun _ _ _ h => h) (Or.inl ⟨by rfl, by intro w hSw; go_simp⟩) hHeld ?_
    try simp only [Act.put, List.setIfInBounds_toArray, List.set_cons_zero, List.set_cons_succ]
    refine wpAnyH_take (i := 36) (oi := { dst := some 0, op := Op.assign (Operand.tmp 47), type := 4, pos := "top07.go:16", after := #[{ on := 35, ground := Ground.data }, { on := 33, ground := Ground.chain }, { on := 0, ground := Ground.phase }, { on := 1, ground := Ground.phase }, { on := 2, ground := Ground.phase }, { on := 3, ground := Ground.phase }, { on := 4, ground := Ground.phase }, { on := 5, ground := Ground.phase }, { on := 6, ground := Ground.phase }, { on := 7, ground := Ground.phase }, { on := 8, ground := Ground.phase }, { on := 9, ground := Ground.phase }, { on := 10, ground := Ground.phase }, { on := 11, ground := Ground.phase }, { on := 12, ground := Ground.phase }, { on := 13, ground := Ground.phase }, { on := 14, ground := Ground.phase }, { on := 15, ground := Ground.phase }, { on := 16, ground := Ground.phase }, { on := 17, ground := Ground.phase }, { on := 18, ground := Ground.phase }, { on := 19, ground := Ground.phase }, { on := 20, ground := Ground.phase }, { on := 21, ground := Ground.phase }, { on := 22, ground := Ground.phase }, { on := 23, ground := Ground.phase }, { on := 24, ground := Ground.phase }, { on := 25, ground := Ground.phase }, { on := 26, ground := Ground.phase }, { on := 27, ground := Ground.phase }, { on := 28, ground := Ground.phase }, { on := 29, ground := Ground.phase }, { on := 30, ground := Ground.phase }, { on := 31, ground := Ground.phase }, { on := 32, ground := Ground.phase }, { on := 33, ground := Ground.phase }, { on := 34, ground := Ground.phase }, { on := 35, ground := Ground.phase }], guard := none }) (v := .bool true) rfl (by kernel_rfl) (by kernel_rfl) (by kernel_rfl) (fun _ _ _ h => h) (Or.inl ⟨by rfl, by intro w hSw; go_simp⟩) hHeld ?_
    try simp only [Act.put, List.setIfInBounds_toArray, List.set_cons_zero, List.set_cons_succ]
    refine wpAnyH_done (by kernel_rfl) ?_ _
    have HBF := hidk hHeld.2.2
    clear hHeld
    go_wp2_with fail
    go_ret
    exact ⟨rfl, HBF.out⟩
end Go.Proofs.YtdnhnjimhbbababDoor

/- What the loop of TopSigned holds: the front, the leaves and the heads that have come. -/
namespace Go.Proofs.YtdnhnjimhbbababDoor
open Go.RowKit Sums P7
set_option linter.unusedVariables false
set_option linter.unusedSimpArgs false
set_option maxRecDepth 100000
theorem LReads.lt {W : World} {y : Option Addr} {m cy : Nat} {p : List (List UInt8)} (h : LReads W y m cy p) : ∀ g o, y = some ⟨g, o, none⟩ → 0 < m → g < W.heap.size := fun g o e h0 => by
  obtain ⟨h1, h2, h3, h4, h5⟩ := h
  rcases h5 with h5 | ⟨g', o', ha, hl⟩
  · omega
  · rw [e] at ha
    cases ha
    have hf := flat_length h2
    exact World.block_lt_of_cell? _ _ (hl 0 (by omega))
theorem own_wrote {B n sz g : Nat} {tE t : TypeId} {v : Value} {xs : List Value} {W W' : World} {D : Array Value} (h : W.ownsRow B tE sz v n xs) (hw : Wrote g D t W W') (hg : some g ≠ v.ownBlock) : W'.ownsRow B tE sz v n xs := by
  have hb := hw.below 0 W (Below.refl _ _) (Nat.zero_le _)
  exact h.kept (row := some g) ⟨hb.os, hb.tape, hb.output, hb.size, fun k _ hk => hw.other k (fun e => hk (by rw [e]))⟩ (.inr (Ne.symm hg))
structure TI (w : World) (M : Array Value) (k pm : Nat) (pk : List (List UInt8)) (y : Option Addr) (cy : Nat) (v10 v11 : Value) (l : List (List UInt8)) (hs : List HdT) (W : World) : Prop where
  below : Below w.heap.size w W
  key : W.heap[w.heap.size]? = some (.cells M 24 (0, 0))
  fr : W.heap[w.heap.size + 1]? = some (.cells #[.int .i64 (k : Int), .slice y pm cy] 28 (0, 0))
  peaks : LReads W y pm cy pk
  own10 : W.ownsRow (w.heap.size + 2) 30 32 v10 l.length (cellsOf l.flatten)
  own11 : W.ownsRow (w.heap.size + 2) 38 36 v11 hs.length (hdsC hs)
  ap9 : ∀ g o, y = some ⟨g, o, none⟩ → 0 < pm → g ≠ w.heap.size + 1
  ap10 : ∀ g o, y = some ⟨g, o, none⟩ → 0 < pm → some g ≠ v10.ownBlock
  ap11 : ∀ g o, y = some ⟨g, o, none⟩ → 0 < pm → some g ≠ v11.ownBlock
theorem TI.size {w W : World} {M : Array Value} {k pm cy : Nat} {pk l : List (List UInt8)} {y : Option Addr} {v10 v11 : Value} {hs : List HdT} (h : TI w M k pm pk y cy v10 v11 l hs W) : w.heap.size + 2 ≤ W.heap.size := by
  have := heap_lt h.fr
  omega
theorem TI.keep {w W W' : World} {M : Array Value} {k pm cy : Nat} {pk l : List (List UInt8)} {y : Option Addr} {v10 v11 : Value} {hs : List HdT} (h : TI w M k pm pk y cy v10 v11 l hs W) (hb : Below W.heap.size W W') : TI w M k pm pk y cy v10 v11 l hs W' :=
  ⟨h.below.trans (hb.mono h.below.size), (hb.block _ (heap_lt h.key)).trans h.key, (hb.block _ (heap_lt h.fr)).trans h.fr, h.peaks.keep hb, own_below h.own10 hb, own_below h.own11 hb, h.ap9, h.ap10, h.ap11⟩
theorem TI.app10 {w W : World} {M : Array Value} {k pm cy : Nat} {pk l : List (List UInt8)} {y : Option Addr} {v10 v11 : Value} {hs : List HdT} (h : TI w M k pm pk y cy v10 v11 l hs W) (hlen : l.length + 1 ≤ 1000000) (d : List UInt8) (hd : d.length = 32) (D : Array Value) (HD : Hid (D = (cellsOf d).toArray)) :
    ∃ v' w', (Builtin.append_ #[26, 26] 26 #[v10, .slice (some ⟨W.heap.size, 0, none⟩) 1 1]).run Tryd.prog (W.alloc (.cells D 30)) = .ok v' w' ∧ TI w M k pm pk y cy v' v11 (l ++ [d]) hs w' ∧ (∀ b, b < W.heap.size → some b ≠ v10.ownBlock → w'.heap[b]? = W.heap[b]?) := by
  have hb0 : Below W.heap.size W (W.alloc (.cells D 30)) := (Below.refl _ _).alloc (Nat.le_refl _) _
  have h' := h.keep hb0
  have hsz : (W.alloc (.cells D 30)).heap.size = W.heap.size + 1 := by simp
  obtain ⟨v', w', hr, ho, hg, hm⟩ := append_dig (W.alloc (.cells D 30)) (w.heap.size + 2) v10 l d hd h'.own10 ⟨W.heap.size, 0, none⟩ (by
    intro j u hj
    rw [add_plain, Nat.zero_add, cell_of_row _ _ j _ 30 (0, 0) (heap_alloc_new W _), HD.out]
    simpa using hj) h'.size hlen
  refine ⟨v', w', hr, ⟨?_, ?_, ?_, ?_, ho, ?_, h.ap9, ?_, h.ap11⟩, ?_⟩
  · exact h'.below.grown hg h'.below.size (fun q e => by have := (h'.own10.lt q e).1; omega)
  · exact (hg.block _ (heap_lt h'.key) (own_typed h'.own10 h'.key (by decide))).trans h'.key
  · exact (hg.block _ (heap_lt h'.fr) (own_typed h'.own10 h'.fr (by decide))).trans h'.fr
  · exact h'.peaks.grown hg h'.ap10
  · exact h'.own11.kept hg (own_two h'.own11 h'.own10 (by decide))
  · intro g o e h0
    rcases hm with q | ⟨q, e', hq⟩
    · rw [q]; exact h.ap10 g o e h0
    · rw [e']
      have := h.peaks.lt g o e h0
      intro e2
      cases e2
      omega
  · intro b hb hne
    exact (hg.block b (by omega) hne).trans (hb0.block b hb)
theorem TI.app11 {w W : World} {M : Array Value} {k pm cy : Nat} {pk l : List (List UInt8)} {y : Option Addr} {v10 v11 : Value} {hs : List HdT} (h : TI w M k pm pk y cy v10 v11 l hs W) (hlen : hs.length + 1 ≤ 1000000) (z : HdT) (hd : z.d.length = 32) (C : Array Value) (HC : Hid (C = (hcells z).toArray)) :
    ∃ v' w', (Builtin.append_ #[29, 29] 29 #[v11, .slice (some ⟨W.heap.size, 0, none⟩) 1 1]).run Tryd.prog (W.alloc (.cells C 38)) = .ok v' w' ∧ TI w M k pm pk y cy v10 v' l (hs ++ [z]) w' := by
  have hb0 : Below W.heap.size W (W.alloc (.cells C 38)) := (Below.refl _ _).alloc (Nat.le_refl _) _
  have h' := h.keep hb0
  have hsz : (W.alloc (.cells C 38)).heap.size = W.heap.size + 1 := by simp
  obtain ⟨v', w', hr, ho, hg, hm⟩ := append_head (W.alloc (.cells C 38)) (w.heap.size + 2) v11 hs z hd h'.own11 ⟨W.heap.size, 0, none⟩ (by
    intro j u hj
    rw [add_plain, Nat.zero_add, cell_of_row _ _ j _ 38 (0, 0) (heap_alloc_new W _), HC.out]
    simpa using hj) h'.size hlen
  refine ⟨v', w', hr, ⟨?_, ?_, ?_, ?_, ?_, ho, h.ap9, h.ap10, ?_⟩⟩
  · exact h'.below.grown hg h'.below.size (fun q e => by have := (h'.own11.lt q e).1; omega)
  · exact (hg.block _ (heap_lt h'.key) (own_typed h'.own11 h'.key (by decide))).trans h'.key
  · exact (hg.block _ (heap_lt h'.fr) (own_typed h'.own11 h'.fr (by decide))).trans h'.fr
  · exact h'.peaks.grown hg h'.ap11
  · exact h'.own10.kept hg (own_two h'.own10 h'.own11 (by decide))
  · intro g o e h0
    rcases hm with q | ⟨q, e', hq⟩
    · rw [q]; exact h.ap11 g o e h0
    · rw [e']
      have := h.peaks.lt g o e h0
      intro e2
      cases e2
      omega
theorem TI.setF {w W W' : World} {M : Array Value} {k pm cy : Nat} {pk l : List (List UInt8)} {y : Option Addr} {v10 v11 : Value} {hs : List HdT} (h : TI w M k pm pk y cy v10 v11 l hs W) {k2 pm2 cy2 : Nat} {pk2 : List (List UInt8)} {y2 : Option Addr}
    (hw : Wrote (w.heap.size + 1) #[.int .i64 (k2 : Int), .slice y2 pm2 cy2] 28 W W') (h2 : LReads W y2 pm2 cy2 pk2) (B' : Nat) (hB : B' ≤ W.heap.size) (hB0 : w.heap.size + 2 ≤ B') (h10 : ∀ q, v10.ownBlock = some q → q < B') (h11 : ∀ q, v11.ownBlock = some q → q < B') (hy : ∀ g o, y2 = some ⟨g, o, none⟩ → 0 < pm2 → B' ≤ g) :
    TI w M k2 pm2 pk2 y2 cy2 v10 v11 l hs W' := by
  have h9 : ∀ g o, y2 = some ⟨g, o, none⟩ → 0 < pm2 → g ≠ w.heap.size + 1 := fun g o e h0 => by have := hy g o e h0; omega
  refine ⟨hw.below _ _ h.below (by omega), (hw.other _ (by omega)).trans h.key, hw.row, ?_, ?_, ?_, h9, ?_, ?_⟩
  · exact h2.wroteG hw.other h9
  · exact own_wrote h.own10 hw (fun e => by have := (h.own10.lt _ e.symm).1; omega)
  · exact own_wrote h.own11 hw (fun e => by have := (h.own11.lt _ e.symm).1; omega)
  · intro g o e h0 e2
    have := hy g o e h0
    have := h10 g e2.symm
    omega
  · intro g o e h0 e2
    have := hy g o e h0
    have := h11 g e2.symm
    omega
end Go.Proofs.YtdnhnjimhbbababDoor

/- What TopSigned says of any input, over what the calls of the layers answer. -/
namespace Go.Proofs.YtdnhnjimhbbababDoor
open Go.RowKit Sums P7
set_option linter.unusedVariables false
set_option linter.unusedSimpArgs false
set_option maxRecDepth 100000
theorem zeroF9 : (Tryd.prog.info? 28).map (fun i => (i.zero, i.size)) = some (some (.agg #[.int .i64 0, .slice none 0 0]), 2) := by kernel_rfl
theorem sizeF9 : (Tryd.prog.info? 28).map (·.size) = some 2 := by kernel_rfl
theorem builtF9 : Tryd.prog.built 28 [] = some #[.int .i64 0, .slice none 0 0] := by kernel_rfl
theorem oneF9 (n : Int) (y : Option Addr) (m c : Nat) : (#[Value.int .i64 n, .slice y m c].all (·.oneCell')) = true := by simp [Value.oneCell']
theorem idxS9 (W : World) (b off len cap k : Nat) (h : k < len) : (Instr.indexAt 22 (.slice (some ⟨b, off, none⟩) len cap) (.int .i64 (k : Int))).run Tryd.prog W = .ok (.pointer (some ⟨b, off + k, none⟩)) W := by
  have hs : ∀ w, (sizeOf 9).run Tryd.prog w = .ok 1 w := by
    intro w
    have hq : (Tryd.prog.info? 9).map (·.size) = some 1 := by kernel_rfl
    cases h : Tryd.prog.info? 9 with
    | none => simp [h] at hq
    | some i => simp [h] at hq; simp [sizeOf, typeInfo, h, hq]
  simp [Instr.indexAt, asIntOf, run_underlying Tryd.underlying22, hs, h]
  rw [add_plain]
theorem wpList_build_five {P : Program} {ops : Array Oper} {rest : List Oper} {o : Oper} {a : Act} {w : World} {Q : Exit → Act → World → Prop} (hg : o.guard = none) (t : TypeId) (x y z u v : Operand) (ho : o.op = .build t #[(0, x), (1, y), (2, z), (3, u), (4, v)])
    (cs : Array Value) (vx vy vz vu vv : Value) (hx : a.eval x = vx) (hy : a.eval y = vy) (hz : a.eval z = vz) (hu : a.eval u = vu) (hv : a.eval v = vv) (hb : P.built t [(0, vx), (1, vy), (2, vz), (3, vu), (4, vv)] = some cs) (h : wpList P ops Q rest (a.put o.dst (.agg cs)) w) : wpList P ops Q (o :: rest) a w :=
  wpList_build_row hg t #[(0, x), (1, y), (2, z), (3, u), (4, v)] ho cs (by simpa [hx, hy, hz, hu, hv] using hb) h
set_option maxHeartbeats 8000000 in
theorem topSigned_bad (hc : HeadC) (ck : CheckC) (a0 : Option Addr) (len0 cap0 : Nat) (a2 a3 : Int) (w : World) (M : Array Value) (hl : len0 ≤ 9223372036854775807) (hT : TabC w)
    (hbad : 24 < len0 ∨ (¬ 24 < len0 ∧ a2 < 1) ∨ (¬ 24 < len0 ∧ ¬ a2 < 1 ∧ 900000000 < a2) ∨ (¬ 24 < len0 ∧ ¬ a2 < 1 ∧ ¬ 900000000 < a2 ∧ a3 < 1) ∨ (¬ 24 < len0 ∧ ¬ a2 < 1 ∧ ¬ 900000000 < a2 ∧ ¬ a3 < 1 ∧ 3 < a3)) :
    Calls Tryd.prog 3 #[.slice a0 len0 cap0, .agg M, .int .i64 a2, .int .i64 a3] w fun e w' => e = .returned (.bool true) ∧ Below w.heap.size w w' := by
  have PV : Hid (∀ W, Below w.heap.size w W → Calls Tryd.prog 4 #[] W fun e w' => e = .returned (.bool true) ∧ Below W.heap.size W w') := fun W hb => proves_true hc ck W (hT.keep hb)
  have HB : Hid (Below w.heap.size w (w.alloc (.cells M 24))) := (Below.refl _ _).alloc (Nat.le_refl _) _
  clear hT
  rcases hbad with hb | hb | hb | hb | hb
  · have h0 := hb
    have d0 : decide (24 < (len0 : Int)) = true := by rw [decide_eq_true_eq]; omega
    have d0' : decide (24 < len0) = true := by rw [decide_eq_true_eq]; omega
    go_enter Tryd.func3, Tryd.ntmps3
    go_wp2_with fail
    refine (PV.out _ HB.out).mono ?_
    rintro e w1 ⟨rfl, hb1⟩
    have HB1 := hidk (HB.out.trans (hb1.mono HB.out.size))
    clear hb1 PV HB
    go_wp2_with fail
    go_ret
    exact ⟨rfl, HB1.out⟩
  · obtain ⟨h0, h1⟩ := hb
    have d0 : decide (24 < (len0 : Int)) = false := by rw [decide_eq_false_iff_not]; omega
    have d0' : decide (24 < len0) = false := by rw [decide_eq_false_iff_not]; omega
    have d1 : decide (a2 < 1) = true := by rw [decide_eq_true_eq]; omega
    go_enter Tryd.func3, Tryd.ntmps3
    go_wp2_with fail
    refine (PV.out _ HB.out).mono ?_
    rintro e w1 ⟨rfl, hb1⟩
    have HB1 := hidk (HB.out.trans (hb1.mono HB.out.size))
    clear hb1 PV HB
    go_wp2_with fail
    go_ret
    exact ⟨rfl, HB1.out⟩
  · obtain ⟨h0, h1, h2⟩ := hb
    have d0 : decide (24 < (len0 : Int)) = false := by rw [decide_eq_false_iff_not]; omega
    have d0' : decide (24 < len0) = false := by rw [decide_eq_false_iff_not]; omega
    have d1 : decide (a2 < 1) = false := by rw [decide_eq_false_iff_not]; omega
    have d2 : decide (900000000 < a2) = true := by rw [decide_eq_true_eq]; omega
    go_enter Tryd.func3, Tryd.ntmps3
    go_wp2_with fail
    refine (PV.out _ HB.out).mono ?_
    rintro e w1 ⟨rfl, hb1⟩
    have HB1 := hidk (HB.out.trans (hb1.mono HB.out.size))
    clear hb1 PV HB
    go_wp2_with fail
    go_ret
    exact ⟨rfl, HB1.out⟩
  · obtain ⟨h0, h1, h2, h3⟩ := hb
    have d0 : decide (24 < (len0 : Int)) = false := by rw [decide_eq_false_iff_not]; omega
    have d0' : decide (24 < len0) = false := by rw [decide_eq_false_iff_not]; omega
    have d1 : decide (a2 < 1) = false := by rw [decide_eq_false_iff_not]; omega
    have d2 : decide (900000000 < a2) = false := by rw [decide_eq_false_iff_not]; omega
    have d3 : decide (a3 < 1) = true := by rw [decide_eq_true_eq]; omega
    go_enter Tryd.func3, Tryd.ntmps3
    go_wp2_with fail
    refine (PV.out _ HB.out).mono ?_
    rintro e w1 ⟨rfl, hb1⟩
    have HB1 := hidk (HB.out.trans (hb1.mono HB.out.size))
    clear hb1 PV HB
    go_wp2_with fail
    go_ret
    exact ⟨rfl, HB1.out⟩
  · obtain ⟨h0, h1, h2, h3, h4⟩ := hb
    have d0 : decide (24 < (len0 : Int)) = false := by rw [decide_eq_false_iff_not]; omega
    have d0' : decide (24 < len0) = false := by rw [decide_eq_false_iff_not]; omega
    have d1 : decide (a2 < 1) = false := by rw [decide_eq_false_iff_not]; omega
    have d2 : decide (900000000 < a2) = false := by rw [decide_eq_false_iff_not]; omega
    have d3 : decide (a3 < 1) = false := by rw [decide_eq_false_iff_not]; omega
    have d4 : decide (3 < a3) = true := by rw [decide_eq_true_eq]; omega
    go_enter Tryd.func3, Tryd.ntmps3
    go_wp2_with fail
    refine (PV.out _ HB.out).mono ?_
    rintro e w1 ⟨rfl, hb1⟩
    have HB1 := hidk (HB.out.trans (hb1.mono HB.out.size))
    clear hb1 PV HB
    go_wp2_with fail
    go_ret
    exact ⟨rfl, HB1.out⟩
def hd9 (e : Int) (z : List (List UInt8)) (j : Nat) : HdT := ⟨1, e, (j : Int) + 1, root (z.take (j + 1)), j⟩
theorem hd9_in (e : Int) (z : List (List UInt8)) (j : Nat) (he : 1 ≤ e ∧ e ≤ 900000000) (hz : Digs32 z) (hj : j ≤ 24) : InH (hd9 e z j) ∧ rightH (hd9 e z j) = true := by
  refine ⟨⟨root_length sumD_length _ (hz.take _), ?_, ?_, ?_, ?_⟩, (rightH_iff _).2 ?_⟩
  · show In64 1; unfold In64; decide
  · show In64 e; unfold In64; omega
  · show In64 ((j : Int) + 1); unfold In64; omega
  · show In64 (j : Int); unfold In64; omega
  · show 1 ≤ (1 : Int) ∧ (1 : Int) ≤ 5 ∧ 1 ≤ e ∧ e ≤ 900000000 ∧ 0 ≤ (j : Int) + 1 ∧ (j : Int) + 1 ≤ 100000 ∧ 0 ≤ (j : Int) ∧ (j : Int) ≤ 900000000
    omega
def hds9 (e : Int) (z : List (List UInt8)) (k : Nat) : List HdT := (List.range k).map (hd9 e z)
theorem hds9_succ (e : Int) (z : List (List UInt8)) (k : Nat) : hds9 e z (k + 1) = hds9 e z k ++ [hd9 e z k] := by unfold hds9; rw [List.range_succ, List.map_append]; rfl
theorem hds9_length (e : Int) (z : List (List UInt8)) (k : Nat) : (hds9 e z k).length = k := by unfold hds9; simp
theorem hds9_at (e : Int) (z : List (List UInt8)) (k i : Nat) (h : i < k) : (hds9 e z k)[i]? = some (hd9 e z i) := by unfold hds9; rw [List.getElem?_map, List.getElem?_range h]; rfl
theorem hds9_d (e : Int) (z : List (List UInt8)) (k : Nat) (hz : Digs32 z) : ∀ h ∈ hds9 e z k, h.d.length = 32 := fun h hh => by
  unfold hds9 at hh
  obtain ⟨j, _, rfl⟩ := List.mem_map.1 hh
  exact root_length sumD_length _ (hz.take _)
set_option maxHeartbeats 64000000 in
theorem topSigned_good (hc : HeadC) (fr : FrontC) (ck : CheckC) (a0 : Option Addr) (len0 cap0 : Nat) (ss : List ByteArray) (z1 : List UInt8) (a2 a3 : Int) (w : World) (M : Array Value) (HM : Hid (M = (cellsOf z1).toArray)) (w0 : Texts w a0 len0 ss) (w1 : z1.length = 32) (hK : TabF w)
    (hl : len0 ≤ 24) (h2 : 1 ≤ a2 ∧ a2 ≤ 900000000) (h3 : 1 ≤ a3 ∧ a3 ≤ 3) :
    Calls Tryd.prog 3 #[.slice a0 len0 cap0, .agg M, .int .i64 a2, .int .i64 a3] w fun e w' => e = .returned (.bool true) ∧ Below w.heap.size w w' := by
  have d0 : decide (24 < (len0 : Int)) = false := by rw [decide_eq_false_iff_not]; omega
  have d0' : decide (24 < len0) = false := by rw [decide_eq_false_iff_not]; omega
  have d1 : decide (a2 < 1) = false := by rw [decide_eq_false_iff_not]; omega
  have d2 : decide (900000000 < a2) = false := by rw [decide_eq_false_iff_not]; omega
  have d3 : decide (a3 < 1) = false := by rw [decide_eq_false_iff_not]; omega
  have d4 : decide (3 < a3) = false := by rw [decide_eq_false_iff_not]; omega
  have HWT := hidk w0
  have PV : Hid (∀ W, Below w.heap.size w W → Calls Tryd.prog 4 #[] W fun e w' => e = .returned (.bool true) ∧ Below W.heap.size W w') := fun W hb => proves_true hc ck W (hK.keep hb).1
  have HSM : Hid ((Tryd.prog.info? 24).map (·.size) = some M.size) := by show _ = _; rw [sizeY, HM.out]; simp [cellsOf_length, w1]
  obtain ⟨z0, hz0⟩ : ∃ z : List (List UInt8), z = ss.map (fun s => sumD (0 :: s.data.toList)) := ⟨_, rfl⟩
  have hzl : z0.length = len0 := by rw [hz0, List.length_map]; exact w0.1
  have hD : Digs32 z0 := by
    intro x hx
    rw [hz0] at hx
    obtain ⟨s, _, rfl⟩ := List.mem_map.1 hx
    exact sumD_length _
  have HDL := hidk hD
  obtain ⟨pk, HPK⟩ : ∃ pk : Nat → List (List UInt8), Hid (∀ k, pk k = peaks (z0.take k)) := ⟨_, (fun k => rfl : ∀ k, peaks (z0.take k) = _)⟩
  obtain ⟨pm, HPM⟩ : ∃ pm : Nat → Nat, Hid (∀ k, pm k = (pk k).length) := ⟨_, (fun k => rfl : ∀ k, (pk k).length = _)⟩
  have hmany : ∀ k, k ≤ len0 → pm k = many k := fun k hk => by
    rw [HPM.out, HPK.out]
    exact peaks_length k _ (by rw [List.length_take, hzl]; omega)
  -- what the calls answer at the leaf k
  have LF : Hid (∀ (W : World) (k : Nat) (s : ByteArray) (D : Array Value), ss[k]? = some s → s.size ≤ 1000 → (∀ d, z0[k]? = some d → Hid (D = (cellsOf d).toArray)) → Below w.heap.size w W → Calls Tryd.prog 5 #[.string s] W fun e w' => e = .returned (.agg D) ∧ Below W.heap.size W w') := fun W k s D hs hsz hd hb =>
    leaf_any s W (by omega) (hK.keep hb).1 D (hd _ (by rw [hz0, List.getElem?_map, hs]; rfl))
  have AC : Hid (∀ (W : World) (k : Nat) (y : Option Addr) (cy : Nat) (d : List UInt8) (D : Array Value), z0[k]? = some d → Hid (D = (cellsOf d).toArray) → Below w.heap.size w W → LReads W y (pm k) cy (pk k) → Calls Tryd.prog 6 #[.agg #[.int .i64 k, .slice y (pm k) cy], .agg D] W fun e w' => ∃ y2 cy2, e = .returned (.tuple #[.agg #[.int .i64 ((k : Int) + 1), .slice y2 (pm (k + 1)) cy2], .int .i64 0]) ∧ LReads w' y2 (pm (k + 1)) cy2 (pk (k + 1)) ∧ RoomO W.heap.size y2 (pm (k + 1)) w' ∧ Below W.heap.size W w') := fun W k y cy d D hd HD hb hy => by
    obtain ⟨hk, hdk⟩ := List.getElem?_eq_some_iff.1 hd
    have hk' : k < len0 := by rw [← hzl]; exact hk
    have ha : addP k (pk k) d = pk (k + 1) := by
      have := addP_peaks (z0.take k) d
      rw [List.length_take, Nat.min_eq_left (by omega)] at this
      rw [HPK.out, HPK.out, this, List.take_add_one, hd]
      rfl
    have h32 : d.length = 32 := by rw [← hdk]; exact hD _ (List.getElem_mem _)
    have hA := fr.add_ok k y (pm k) cy (pk k) d W ⟨by omega, by omega, by rw [Int.toNat_natCast]; exact hmany k (by omega)⟩ (by omega) hy h32 (hK.keep hb) D HD
    rw [ha, ← HPM.out] at hA
    exact hA
  have RT : Hid (∀ (W : World) (k : Nat) (y : Option Addr) (cy : Nat) (D : Array Value), k < len0 → Hid (D = (cellsOf (root (z0.take (k + 1)))).toArray) → Below w.heap.size w W → LReads W y (pm (k + 1)) cy (pk (k + 1)) → Calls Tryd.prog 7 #[.agg #[.int .i64 ((k : Int) + 1), .slice y (pm (k + 1)) cy]] W fun e w' => e = .returned (.tuple #[.agg D, .int .i64 0]) ∧ Below W.heap.size W w') := fun W k y cy D hk HD hb hy =>
    fr.frontRoot_ok ((k : Int) + 1) y (pm (k + 1)) cy (pk (k + 1)) W ⟨by omega, by omega, by rw [show ((k : Int) + 1).toNat = k + 1 by omega]; exact hmany (k + 1) (by omega)⟩ hy (hK.keep hb) D (by
      show _ = _
      rw [HD.out, HPK.out, rootP_peaks _ _ rfl])
  have SG : Hid (∀ (W : World) (k : Nat) (C R : Array Value), k < len0 → Hid (C = (hcells (hd9 a2 z0 k)).toArray) → Hid (R = (scells ⟨hd9 a2 z0 k, a3, tagD z1 (hd9 a2 z0 k) a3⟩).toArray) → Below w.heap.size w W → Calls Tryd.prog 8 #[.agg M, .agg C, .int .i64 a3] W fun e w' => e = .returned (.tuple #[.agg R, .int .i64 0]) ∧ Below W.heap.size W w') := fun W k C R hk HC HR hb => by
    obtain ⟨hi, hr⟩ := hd9_in a2 z0 k h2 hD (by omega)
    have hso : signsO (hd9 a2 z0 k) a3 = true := by
      unfold signsO
      simp only [Bool.and_eq_true, decide_eq_true_eq]
      exact ⟨hr, h3.1, h3.2⟩
    have := hc.sign z1 (hd9 a2 z0 k) a3 W M C R HM HC w1 hi (by unfold In64; omega) (hK.keep hb).1 (by show _ = _; rw [HR.out]; unfold signO; rw [if_pos hso])
    rwa [show signE (hd9 a2 z0 k) a3 = 0 by unfold signE; rw [if_pos hso]] at this
  have hmay : ∀ k, k < len0 → mayS ⟨hd9 a2 z0 k, a3, tagD z1 (hd9 a2 z0 k) a3⟩ = true := fun k hk => (mayS_iff _).2 ⟨(hd9_in a2 z0 k h2 hD (by omega)).2, h3.1, h3.2⟩
  have hinS : ∀ k, k < len0 → InS ⟨hd9 a2 z0 k, a3, tagD z1 (hd9 a2 z0 k) a3⟩ := fun k hk => ⟨(hd9_in a2 z0 k h2 hD (by omega)).1, by show In64 a3; unfold In64; omega, tagD_length sumD_length _ _ _⟩
  have PS : Hid (∀ (W : World) (k : Nat) (R : Array Value), k < len0 → Hid (R = (scells ⟨hd9 a2 z0 k, a3, tagD z1 (hd9 a2 z0 k) a3⟩).toArray) → Calls Tryd.prog 9 #[.agg R] W fun e w' => (∃ a n cap, e = .returned (.tuple #[.slice a n cap, .int .i64 0]) ∧ n = (signB ⟨hd9 a2 z0 k, a3, tagD z1 (hd9 a2 z0 k) a3⟩).length ∧ Reads w' a n cap (signB ⟨hd9 a2 z0 k, a3, tagD z1 (hd9 a2 z0 k) a3⟩)) ∧ Below W.heap.size W w') := fun W k R hk HR => (hc.putS _ (hinS k hk) W R HR).mono (by
    rintro e w' ⟨⟨a, cap, rfl, hr⟩, hb⟩
    have e1 : putSB ⟨hd9 a2 z0 k, a3, tagD z1 (hd9 a2 z0 k) a3⟩ = signB ⟨hd9 a2 z0 k, a3, tagD z1 (hd9 a2 z0 k) a3⟩ := by unfold putSB; rw [if_pos (hmay k hk)]
    have e2 : putSE ⟨hd9 a2 z0 k, a3, tagD z1 (hd9 a2 z0 k) a3⟩ = 0 := by unfold putSE; rw [if_pos (hmay k hk)]
    rw [e1] at hr ⊢
    rw [e2]
    exact ⟨⟨a, _, cap, rfl, rfl, hr⟩, hb⟩)
  have GS : Hid (∀ (W : World) (k : Nat) (R : Array Value) (a : Option Addr) (n cap : Nat), k < len0 → Hid (R = (scells ⟨hd9 a2 z0 k, a3, tagD z1 (hd9 a2 z0 k) a3⟩).toArray) → n = (signB ⟨hd9 a2 z0 k, a3, tagD z1 (hd9 a2 z0 k) a3⟩).length → Reads W a n cap (signB ⟨hd9 a2 z0 k, a3, tagD z1 (hd9 a2 z0 k) a3⟩) → Calls Tryd.prog 10 #[.slice a n cap] W fun e w' => e = .returned (.tuple #[.agg R, .int .i64 0]) ∧ Below W.heap.size W w') := fun W k R a n cap hk HR hn hr => by
    have e2 := getS_sign _ (hmay k hk) (hinS k hk).h.d (hinS k hk).g
    have hlen := signB_length _ (hinS k hk).h.d (hinS k hk).g
    have := hc.getS a n cap _ W hr (by omega) R (by show _ = _; unfold getSO; rw [e2]; exact HR.out)
    rwa [show getSE (signB ⟨hd9 a2 z0 k, a3, tagD z1 (hd9 a2 z0 k) a3⟩) = 0 by unfold getSE; rw [e2]; rfl] at this
  have VF : Hid (∀ (W : World) (k : Nat) (R : Array Value), k < len0 → Hid (R = (scells ⟨hd9 a2 z0 k, a3, tagD z1 (hd9 a2 z0 k) a3⟩).toArray) → Below w.heap.size w W → Calls Tryd.prog 11 #[.agg M, .agg R] W fun e w' => e = .returned (.int .i64 0) ∧ Below W.heap.size W w') := fun W k R hk HR hb => by
    have := hc.verify z1 _ W M R HM HR w1 (hinS k hk) (hK.keep hb).1
    rwa [show verE z1 ⟨hd9 a2 z0 k, a3, tagD z1 (hd9 a2 z0 k) a3⟩ = 0 by unfold verE; rw [if_pos (hmay k hk), if_pos rfl]] at this
  have NQ : Hid (∀ (k : Nat) (R : Array Value), k < len0 → Hid (R = (scells ⟨hd9 a2 z0 k, a3, tagD z1 (hd9 a2 z0 k) a3⟩).toArray) → ∀ W, (binOp .neq 40 (.agg R) (.agg R)).run Tryd.prog W = .ok (.bool false) W) := fun k R hk HR W => neqSigned _ _ (hinS k hk).h.d (hinS k hk).h.d (hinS k hk).g (hinS k hk).g R R HR HR false (by simp) W
  -- what the calls answer behind the loop
  have IN : Hid (∀ (W : World) (a : Option Addr) (cap i : Nat), i < len0 → LReads W a len0 cap z0 → Below w.heap.size w W → Calls Tryd.prog 12 #[.slice a len0 cap, .int .i64 i] W fun e w' => ∃ x n cx, e = .returned (.tuple #[.slice x n cx, .int .i64 0]) ∧ LReads w' x n cx (incl z0 i) ∧ Below W.heap.size W w') := fun W a cap i hi hR hb =>
    (incl_call a len0 cap z0 i W hR hi (by omega) (hK.keep hb).1).mono (by rintro e w' ⟨x, cx, rfl, hx, hbb⟩; exact ⟨x, _, cx, rfl, hx, hbb⟩)
  have CO : Hid (∀ (W : World) (a : Option Addr) (cap i : Nat), i < len0 → LReads W a len0 cap z0 → Below w.heap.size w W → Calls Tryd.prog 13 #[.slice a len0 cap, .int .i64 ((i : Int) + 1)] W fun e w' => ∃ x n cx, e = .returned (.tuple #[.slice x n cx, .int .i64 0]) ∧ LReads w' x n cx (goesW z0 (i + 1)) ∧ Below W.heap.size W w') := fun W a cap i hi hR hb => by
    have := goes_call a len0 cap z0 (i + 1) W hR (by omega) (by omega) (hK.keep hb).1
    rw [show ((i + 1 : Nat) : Int) = (i : Int) + 1 by omega] at this
    exact this.mono (by rintro e w' ⟨x, cx, rfl, hx, hbb⟩; exact ⟨x, _, cx, rfl, hx, hbb⟩)
  have NC : Hid (∀ (W : World) (x : Option Addr) (n cx i : Nat) (R X : Array Value) (hi : i < z0.length), Hid (R = (cellsOf (root z0)).toArray) → Hid (X = (cellsOf z0[i]).toArray) → LReads W x n cx (incl z0 i) → Below w.heap.size w W → Calls Tryd.prog 14 #[.agg R, .int .i64 len0, .int .i64 i, .agg X, .slice x n cx] W fun e w' => e = .returned (.int .i64 0) ∧ Below W.heap.size W w') := fun W x n cx i R X hi HR HX hx hb => by
    have := ck.included (root z0) len0 i z0[i] (incl z0 i) x n cx W R X HR HX (root_length sumD_length z0 hD) (hD _ (List.getElem_mem hi)) (by omega) (by omega) hx (hK.keep hb).1
    have e := inc_finds z0 i hi (by omega)
    rw [hzl] at e
    rwa [e] at this
  have CN : Hid (∀ (W : World) (x : Option Addr) (n cx i : Nat) (O R : Array Value), i < len0 → Hid (O = (cellsOf (root (z0.take (i + 1)))).toArray) → Hid (R = (cellsOf (root z0)).toArray) → LReads W x n cx (goesW z0 (i + 1)) → Below w.heap.size w W → Calls Tryd.prog 15 #[.int .i64 ((i : Int) + 1), .agg O, .int .i64 len0, .agg R, .slice x n cx] W fun e w' => e = .returned (.int .i64 0) ∧ Below W.heap.size W w') := fun W x n cx i O R hi HO HR hx hb => by
    have := ck.consistent ((i + 1 : Nat) : Int) (root (z0.take (i + 1))) len0 (root z0) (goesW z0 (i + 1)) x n cx W O R HO HR (root_length sumD_length _ (hD.take _)) (root_length sumD_length z0 hD) (by omega) (by omega) hx (hK.keep hb).1
    have e := con_finds z0 (i + 1) (by omega) (by omega)
    rw [hzl] at e
    rw [e, show ((i + 1 : Nat) : Int) = (i : Int) + 1 by omega] at this
    exact this
  have h00 : pm 0 = 0 ∧ pk 0 = [] := by
    constructor
    · rw [hmany 0 (by omega), many_zero]
    · rw [HPK.out]; rfl
  have HI0 : Hid (∀ W : World, Below w.heap.size w W → W.heap[w.heap.size]? = some (.cells M 24 (0, 0)) → W.heap[w.heap.size + 1]? = some (.cells #[.int .i64 0, .slice none 0 0] 28 (0, 0)) → TI w M 0 (pm 0) (pk 0) none 0 (.slice none 0 0) (.slice none 0 0) (z0.take 0) (hds9 a2 z0 0) W) := fun W hb hk hf =>
    ⟨hb, hk, by rw [h00.1]; exact hf, by rw [h00.1, h00.2]; exact ⟨rfl, (fun x hx => absurd hx (by simp) : ∀ x ∈ ([] : List (List UInt8)), x.length = 32), Nat.le_refl _, Nat.zero_le _, Or.inl rfl⟩, World.ownsRow_nil _ _ _ _, World.ownsRow_nil _ _ _ _, fun g o e => (by cases e), fun g o e => (by cases e), fun g o e => (by cases e)⟩
  have HSL : Hid (∀ k, ss[k]?.isSome = true ↔ k < len0) := fun k => by rw [← w0.1]; simp
  obtain ⟨ZD, HZD, HAD, HSZD, H1ZD, H32Z⟩ := noughts27
  obtain ⟨ZS, HZS, HAS, HBS, H69S⟩ := noughtsS
  have HZF := hidk zeroF9
  have HSF := hidk sizeF9
  have HBF := hidk builtF9
  have HW1 : Hid (Below w.heap.size w (w.alloc (.cells M 24)) ∧ (w.alloc (.cells M 24)).heap[w.heap.size]? = some (.cells M 24 (0, 0)) ∧ (w.alloc (.cells M 24)).heap.size = w.heap.size + 1) := ⟨(Below.refl _ _).alloc (Nat.le_refl _) _, heap_alloc_new w _, by simp⟩
  clear hK w0 h00 hmany HPK HPM hmay hinS hz0 HM w1 hD
  go_enter Tryd.func3, Tryd.ntmps3
  go_wp2_with (first
    | (show wpList _ _ _ ({ dst := some 50, op := _, type := _, pos := _, after := _, guard := _ } :: _) _ _; refine wpList_build_none rfl 28 rfl #[.int .i64 0, .slice none 0 0] HBF.out ?_; try simp only [Act.put, List.setIfInBounds_toArray, List.set_cons_zero, List.set_cons_succ])
    | (show wpList _ _ _ ({ dst := some 9, op := _, type := _, pos := _, after := _, guard := _ } :: _) _ _; refine wpList_new_row rfl rfl 28 rfl (.tmp 9) (.tmp 50) rfl #[.int .i64 0, .slice none 0 0] #[.int .i64 0, .slice none 0 0] HZF.out (fun _ => rfl) (fun _ => rfl) HSF.out rfl (oneF9 _ _ _ _) ?_; intro g9 w2 F9; try simp only [Act.put, List.setIfInBounds_toArray, List.set_cons_zero, List.set_cons_succ])
    | fail)
  obtain rfl : g9 = w.heap.size + 1 := by rw [F9.out.1]; exact HW1.out.2.2
  have HI1 := hidk (HI0.out w2 (HW1.out.1.trans (F9.out.2.2.mono HW1.out.1.size)) ((F9.out.2.2.block _ (heap_lt HW1.out.2.1)).trans HW1.out.2.1) F9.out.2.1)
  clear F9 HI0 HW1
  go_loopw [10, 11, 12] (fun v10 v11 v12 wr => ∃ k : Nat, k ≤ len0 ∧ v12 = .int .i64 k ∧ Hid (∃ y cy, TI w M k (pm k) (pk k) y cy v10 v11 (z0.take k) (hds9 a2 z0 k) wr)) (fun _ _ v _ => len0 - (intOf v).toNat)
  case atStart => exact ⟨0, by omega, rfl, ⟨none, 0, HI1.out⟩⟩
  case round =>
    clear HI1
    obtain ⟨k, hk, rfl, HI⟩ := hrel
    obtain ⟨y, cy, hI⟩ := HI.out
    have HT := hidk hI
    clear HI hI
    by_cases hlt : k < len0
    · have dk : decide ((k : Int) < (len0 : Int)) = true := by rw [decide_eq_true_eq]; omega
      have dk' : decide (k < len0) = true := by rw [decide_eq_true_eq]; omega
      obtain ⟨b, off, rfl, hbt, hct⟩ : ∃ b off, a0 = some ⟨b, off, none⟩ ∧ b < w.heap.size ∧ ∀ i, (hi : i < ss.length) → w.cell? ⟨b, off + i, none⟩ = some (.string ss[i]) := by
        rcases HWT.out.2 with h0 | h
        · omega
        · exact h
      have hks : k < ss.length := by rw [HWT.out.1]; exact hlt
      obtain ⟨s, hs⟩ : ∃ s, ss[k]? = some s := ⟨ss[k], List.getElem?_eq_getElem hks⟩
      have HTC : Hid (∀ W, Below w.heap.size w W → W.cell? ⟨b, off + k, none⟩ = some (.string s)) := fun W hb => by
        rw [hb.cell hbt, hct k hks]
        rw [List.getElem?_eq_getElem hks] at hs
        rw [Option.some.inj hs]
      have ix := fun W => idxS9 W b off len0 cap0 k hlt
      have hc0 := HTC.out wr HT.out.below
      have hmx : s.size ≤ 9223372036854775807 ∨ 9223372036854775807 < s.size := by omega
      clear hct hbt
      by_cases hbig : 1000 < s.size
      · have db : decide (1000 < (s.size : Int)) = true := by rw [decide_eq_true_eq]; omega
        have db' : decide (1000 < s.size) = true := by rw [decide_eq_true_eq]; omega
        clear hmx
        go_wp2
        go_ret
        exact ⟨rfl, HT.out.below⟩
      have db : decide (1000 < (s.size : Int)) = false := by rw [decide_eq_false_iff_not]; omega
      have db' : decide (1000 < s.size) = false := by rw [decide_eq_false_iff_not]; omega
      have hsz : s.size ≤ 1000 := by omega
      clear hmx hbig
      have hkz : k < z0.length := by rw [hzl]; exact hlt
      obtain ⟨d, hd⟩ : ∃ d, z0[k]? = some d := ⟨z0[k], List.getElem?_eq_getElem hkz⟩
      have hd32 : d.length = 32 := by
        rw [List.getElem?_eq_getElem hkz] at hd
        rw [← Option.some.inj hd]
        exact HDL.out _ (List.getElem_mem _)
      have hz1' : z0.take (k + 1) = z0.take k ++ [d] := by rw [List.take_add_one, hd]; rfl
      have hlk : (z0.take k).length = k := by rw [List.length_take, hzl]; omega
      have hhk := hds9_length a2 z0 k
      obtain ⟨D, HD, HSD, H1D, H32D⟩ := dig_row' d hd32
      have HZDD : Hid (ZD.size = D.size) := by show _ = _; rw [H32Z.out, H32D.out]
      obtain ⟨DR, HDR, HSDR, H1DR, H32DR⟩ := dig_row' (root (z0.take (k + 1))) (root_length sumD_length _ (HDL.out.take _))
      have HZDR : Hid (ZD.size = DR.size) := by show _ = _; rw [H32Z.out, H32DR.out]
      have hin := hd9_in a2 z0 k h2 HDL.out (by omega)
      obtain ⟨C, HC⟩ : ∃ C : Array Value, Hid (C = (hcells (hd9 a2 z0 k)).toArray) := ⟨_, hidk rfl⟩
      obtain ⟨R, HR, HSR, H1R, H69R⟩ := sign_row ⟨hd9 a2 z0 k, a3, tagD z1 (hd9 a2 z0 k) a3⟩ hin.1.d (tagD_length sumD_length _ _ _)
      have HZSR : Hid (ZS.size = R.size) := by show _ = _; rw [H69S.out, H69R.out]
      have HBC : Hid (Tryd.prog.built 38 [(0, .int .i64 1), (1, .int .i64 a2), (2, .int .i64 ((k : Int) + 1)), (3, .agg DR), (4, .int .i64 (k : Int))] = some C) := builtH (hd9 a2 z0 k) hin.1.d DR C HDR HC
      have HSCH : Hid ((Tryd.prog.info? 38).map (·.size) = some C.size) := by show _ = _; rw [P7.sizeH, HC.out]; simp [hcells_length _ hin.1.d]
      have HRC : Hid (∀ (W : World) (g : Nat), W.heap[g]? = some (.cells R 40 (0, 0)) → W.rangeAt g 0 C.toList) := fun W g hr => by
        have := (head_range ⟨hd9 a2 z0 k, a3, tagD z1 (hd9 a2 z0 k) a3⟩ hin.1.d HR hr).2.2
        rw [HC.out]; simpa using this
      have NQk := NQ.out k R hlt HR
      have LFk : Hid (∀ W, Below w.heap.size w W → Calls Tryd.prog 5 #[.string s] W fun e w' => e = .returned (.agg D) ∧ Below W.heap.size W w') := fun W hb => LF.out W k s D hs hsz (fun d' h' => by rw [hd] at h'; cases h'; exact HD) hb
      have BH : Hid (∀ W : World, (Instr.buildSlice 29 1 #[(0, .agg C)]).run Tryd.prog W = .ok (.slice (some ⟨W.heap.size, 0, none⟩) 1 1) (W.alloc (.cells C 38))) := fun W => build_head W (hd9 a2 z0 k) hin.1.d C HC
      have BD : Hid (∀ W : World, (Instr.buildSlice 26 1 #[(0, .agg D)]).run Tryd.prog W = .ok (.slice (some ⟨W.heap.size, 0, none⟩) 1 1) (W.alloc (.cells D 30))) := fun W => build_one W d hd32 D HD
      clear NQ LF
      go_wp2_with fail
      refine (LFk.out _ HT.out.below).mono ?_
      rintro e w3 ⟨rfl, hb3⟩
      have HT3 := hidk (HT.out.keep hb3)
      clear hb3 HT LFk hc0
      -- the leaf's variable, and the list of leaves
      go_wp2_with (first
        | (show wpList _ _ _ ({ dst := some 13, op := _, type := _, pos := _, after := _, guard := _ } :: _) _ _; refine wpList_new_row rfl rfl 30 rfl (.tmp 13) (.tmp 67) rfl ZD D HAD.out (fun _ => rfl) (fun _ => rfl) HSD.out HZDD.out H1D.out ?_; intro g13 w4 F4; have HT4 := hidk (HT3.out.keep F4.out.2.2); have HR13 := hidk F4.out.2.1; have h13 : ∀ q, u10.ownBlock = some q → q ≠ g13 := (fun q e => by have h1 := (HT3.out.own10.lt q e).2; have h2 := F4.out.1; omega); clear F4 HT3; try simp only [Act.put, List.setIfInBounds_toArray, List.set_cons_zero, List.set_cons_succ])
        | (show wpList _ _ _ ({ dst := some 69, op := _, type := _, pos := _, after := _, guard := _ } :: _) _ _; refine wpList_load_row rfl 30 (.tmp 13) rfl g13 rfl 30 D (0, 0) _ HR13.out Tryd.underlying30 rfl HSD.out ?_; try simp only [Act.put, List.setIfInBounds_toArray, List.set_cons_zero, List.set_cons_succ])
        | (refine wpList_build_run rfl 26 1 #[(0, .tmp 69)] rfl #[(0, .agg D)] rfl _ _ (BD.out _) ?_; obtain ⟨v10', w5, hrun5, hT5, hk5⟩ := HT4.out.app10 (by rw [hlk]; omega) d hd32 D HD; rw [← hz1'] at hT5; have HT5 := hidk hT5; have HR135 := hidk ((hk5 g13 (heap_lt HR13.out) (fun e => h13 g13 e.symm rfl)).trans HR13.out); have HRUN5 := hidk hrun5; clear hT5 hk5 hrun5 HT4 HR13 h13 BD; try simp only [Act.put, List.setIfInBounds_toArray, List.set_cons_zero, List.set_cons_succ])
        | (refine wpList_append_run rfl (.tmp 68) (.tmp 70) 26 26 rfl _ _ v10' w5 rfl rfl HRUN5.out ?_; try simp only [Act.put, List.setIfInBounds_toArray, List.set_cons_zero, List.set_cons_succ])
        | (show wpList _ _ _ ({ dst := some 73, op := _, type := _, pos := _, after := _, guard := _ } :: _) _ _; refine wpList_load_row rfl 28 (.tmp 9) rfl (w.heap.size + 1) rfl 28 #[.int .i64 (k : Int), .slice y (pm k) cy] (0, 0) _ HT5.out.fr Tryd.underlying28 rfl HSF.out ?_; try simp only [Act.put, List.setIfInBounds_toArray, List.set_cons_zero, List.set_cons_succ])
        | (show wpList _ _ _ ({ dst := some 74, op := _, type := _, pos := _, after := _, guard := _ } :: _) _ _; refine wpList_load_row rfl 30 (.tmp 13) rfl g13 rfl 30 D (0, 0) _ HR135.out Tryd.underlying30 rfl HSD.out ?_; try simp only [Act.put, List.setIfInBounds_toArray, List.set_cons_zero, List.set_cons_succ])
        | fail)
      clear HRUN5 HR135
      refine (AC.out _ k y cy d D hd HD HT5.out.below HT5.out.peaks).mono ?_
      rintro e w6 ⟨y2, cy2, rfl, hy2, hroom, hb6⟩
      have HT6 := hidk (HT5.out.keep hb6)
      have HY6 := hidk hy2
      have hB0 : w.heap.size + 2 ≤ w5.heap.size := HT5.out.size
      have hB6 : w5.heap.size ≤ w6.heap.size := hb6.size
      have HO : Hid ((∀ q, v10'.ownBlock = some q → q < w5.heap.size) ∧ (∀ q, u11.ownBlock = some q → q < w5.heap.size) ∧ (∀ g o, y2 = some ⟨g, o, none⟩ → 0 < pm (k + 1) → w5.heap.size ≤ g)) := ⟨fun q e => (HT5.out.own10.lt q e).2, fun q e => (HT5.out.own11.lt q e).2, fun g o e h0 => by
        rcases hroom with h | ⟨gp, o', e2, hB, _⟩
        · omega
        · rw [e] at e2
          cases e2
          exact hB⟩
      clear hy2 hroom hb6 HT5 HWT
      go_wp2_with (first
        | (show wpList _ _ _ ({ dst := some 14, op := _, type := _, pos := _, after := _, guard := _ } :: _) _ _; refine wpList_new_row rfl rfl 28 rfl (.tmp 14) (.tmp 76) rfl #[.int .i64 0, .slice none 0 0] #[.int .i64 ((k : Int) + 1), .slice y2 (pm (k + 1)) cy2] HZF.out (fun _ => rfl) (fun _ => rfl) HSF.out rfl (oneF9 _ _ _ _) ?_; intro g14 w7 F7; have HT7 := hidk (HT6.out.keep F7.out.2.2); have HR14 := hidk F7.out.2.1; have HY7 := hidk (HY6.out.keep F7.out.2.2); have hB7 : w5.heap.size ≤ w7.heap.size := Nat.le_trans hB6 F7.out.2.2.size; have h14 : w6.heap.size ≤ g14 := Nat.le_of_eq F7.out.1.symm; clear F7 HT6 HY6; try simp only [Act.put, List.setIfInBounds_toArray, List.set_cons_zero, List.set_cons_succ])
        | (show wpList _ _ _ ({ dst := some 79, op := _, type := _, pos := _, after := _, guard := _ } :: _) _ _; refine wpList_load_row rfl 28 (.tmp 14) rfl g14 rfl 28 #[.int .i64 ((k : Int) + 1), .slice y2 (pm (k + 1)) cy2] (0, 0) _ HR14.out Tryd.underlying28 rfl HSF.out ?_; try simp only [Act.put, List.setIfInBounds_toArray, List.set_cons_zero, List.set_cons_succ])
        | fail)
      refine (RT.out _ k y2 cy2 DR hlt HDR HT7.out.below HY7.out).mono ?_
      rintro e w8 ⟨rfl, hb8⟩
      have HT8 := hidk (HT7.out.keep hb8)
      have HY8 := hidk (HY7.out.keep hb8)
      have HR148 := hidk ((hb8.block _ (heap_lt HR14.out)).trans HR14.out)
      have hB8 : w5.heap.size ≤ w8.heap.size := Nat.le_trans hB7 hb8.size
      clear hb8 HT7 HY7 HR14
      go_wp2_with (first
        | (show wpList _ _ _ ({ dst := some 16, op := _, type := _, pos := _, after := _, guard := _ } :: _) _ _; refine wpList_new_row rfl rfl 30 rfl (.tmp 16) (.tmp 81) rfl ZD DR HAD.out (fun _ => rfl) (fun _ => rfl) HSDR.out HZDR.out H1DR.out ?_; intro g16 w9 F9; have HT9 := hidk (HT8.out.keep F9.out.2.2); have HR16 := hidk F9.out.2.1; have HY9 := hidk (HY8.out.keep F9.out.2.2); have HR149 := hidk ((F9.out.2.2.block _ (heap_lt HR148.out)).trans HR148.out); have hB9 : w5.heap.size ≤ w9.heap.size := Nat.le_trans hB8 F9.out.2.2.size; have h16 : w8.heap.size ≤ g16 := Nat.le_of_eq F9.out.1.symm; clear F9 HT8 HY8 HR148; try simp only [Act.put, List.setIfInBounds_toArray, List.set_cons_zero, List.set_cons_succ])
        | (show wpList _ _ _ ({ dst := some 89, op := _, type := _, pos := _, after := _, guard := _ } :: _) _ _; refine wpList_load_row rfl 28 (.tmp 14) rfl g14 rfl 28 #[.int .i64 ((k : Int) + 1), .slice y2 (pm (k + 1)) cy2] (0, 0) _ HR149.out Tryd.underlying28 rfl HSF.out ?_; try simp only [Act.put, List.setIfInBounds_toArray, List.set_cons_zero, List.set_cons_succ])
        | (refine P7.wpList_set_var rfl 28 (.tmp 9) (.tmp 89) rfl (w.heap.size + 1) #[.int .i64 ((k : Int) + 1), .slice y2 (pm (k + 1)) cy2] rfl rfl 28 #[.int .i64 (k : Int), .slice y (pm k) cy] HT9.out.fr HSF.out rfl (oneF9 _ _ _ _) ?_; intro wa HWa; have HTa : Hid (TI w M (k + 1) (pm (k + 1)) (pk (k + 1)) y2 cy2 v10' u11 (z0.take (k + 1)) (hds9 a2 z0 k) wa) := HT9.out.setF ⟨HWa.out.row, HWa.out.other, HWa.out.below⟩ HY9.out w5.heap.size hB9 hB0 HO.out.1 HO.out.2.1 HO.out.2.2; have HR14a := hidk ((HWa.out.other g14 (by omega)).trans HR149.out); have HR16a := hidk ((HWa.out.other g16 (by omega)).trans HR16.out); have c14 : wa.cell? ⟨g14, 0, none⟩ = some (.int .i64 ((k : Int) + 1)) := (by rw [cell_of_row wa g14 0 _ 28 (0, 0) HR14a.out]; rfl); clear HWa HT9 HY9 HR149 HR16; try simp only [Act.put, List.setIfInBounds_toArray, List.set_cons_zero, List.set_cons_succ])
        | (show wpList _ _ _ ({ dst := some 91, op := _, type := _, pos := _, after := _, guard := _ } :: _) _ _; refine wpList_load_row rfl 24 (.tmp 5) rfl w.heap.size rfl 24 M (0, 0) _ HTa.out.key Tryd.underlying24 rfl HSM.out ?_; try simp only [Act.put, List.setIfInBounds_toArray, List.set_cons_zero, List.set_cons_succ])
        | (show wpList _ _ _ ({ dst := some 95, op := _, type := _, pos := _, after := _, guard := _ } :: _) _ _; refine wpList_load_row rfl 30 (.tmp 16) rfl g16 rfl 30 DR (0, 0) _ HR16a.out Tryd.underlying30 rfl HSDR.out ?_; try simp only [Act.put, List.setIfInBounds_toArray, List.set_cons_zero, List.set_cons_succ])
        | (show wpList _ _ _ ({ dst := some 97, op := _, type := _, pos := _, after := _, guard := _ } :: _) _ _; refine wpList_build_five rfl 38 _ _ _ _ _ rfl C _ _ _ _ _ rfl rfl rfl rfl rfl HBC.out ?_; try simp only [Act.put, List.setIfInBounds_toArray, List.set_cons_zero, List.set_cons_succ])
        | fail)
      refine (SG.out _ k C R hlt HC HR HTa.out.below).mono ?_
      rintro e wb ⟨rfl, hbb⟩
      have HTb := hidk (HTa.out.keep hbb)
      clear hbb HTa HR14a HR16a c14 HBC HO
      go_wp2_with (first
        | (show wpList _ _ _ ({ dst := some 18, op := _, type := _, pos := _, after := _, guard := _ } :: _) _ _; refine wpList_new_row rfl rfl 40 rfl (.tmp 18) (.tmp 100) rfl ZS R HAS.out (fun _ => rfl) (fun _ => rfl) HSR.out HZSR.out H1R.out ?_; intro g18 wc Fc; have HTc := hidk (HTb.out.keep Fc.out.2.2); have HR18 := hidk Fc.out.2.1; clear Fc HTb; try simp only [Act.put, List.setIfInBounds_toArray, List.set_cons_zero, List.set_cons_succ])
        | (show wpList _ _ _ ({ dst := some 103, op := _, type := _, pos := _, after := _, guard := _ } :: _) _ _; refine wpList_load_row rfl 40 (.tmp 18) rfl g18 rfl 40 R (0, 0) _ HR18.out Tryd.underlying40 rfl HSR.out ?_; try simp only [Act.put, List.setIfInBounds_toArray, List.set_cons_zero, List.set_cons_succ])
        | fail)
      refine (PS.out _ k R hlt HR).mono ?_
      rintro e wd ⟨⟨ab, nb, cb, rfl, hnb, hRd⟩, hbd⟩
      have HTd := hidk (HTc.out.keep hbd)
      have HR18d := hidk ((hbd.block _ (heap_lt HR18.out)).trans HR18.out)
      have HQd := hidk hRd
      have Hnb := hidk hnb
      clear hbd hRd hnb HTc HR18
      go_wp2_with fail
      refine (GS.out _ k R ab nb cb hlt HR Hnb.out HQd.out).mono ?_
      rintro e we ⟨rfl, hbe⟩
      have HTe := hidk (HTd.out.keep hbe)
      have HR18e := hidk ((hbe.block _ (heap_lt HR18d.out)).trans HR18d.out)
      clear hbe HTd HR18d HQd Hnb
      go_wp2_with (first
        | (show wpList _ _ _ ({ dst := some 22, op := _, type := _, pos := _, after := _, guard := _ } :: _) _ _; refine wpList_new_row rfl rfl 40 rfl (.tmp 22) (.tmp 110) rfl ZS R HAS.out (fun _ => rfl) (fun _ => rfl) HSR.out HZSR.out H1R.out ?_; intro g22 wf Ff; have HTf := hidk (HTe.out.keep Ff.out.2.2); have HR22 := hidk Ff.out.2.1; have HR18f := hidk ((Ff.out.2.2.block _ (heap_lt HR18e.out)).trans HR18e.out); clear Ff HTe HR18e; try simp only [Act.put, List.setIfInBounds_toArray, List.set_cons_zero, List.set_cons_succ])
        | (show wpList _ _ _ ({ dst := some 123, op := _, type := _, pos := _, after := _, guard := _ } :: _) _ _; refine wpList_load_row_w (by rfl) 40 (.tmp 22) rfl g22 rfl 40 R (0, 0) _ HR22.out Tryd.underlying40 rfl HSR.out ?_; try simp only [Act.put, List.setIfInBounds_toArray, List.set_cons_zero, List.set_cons_succ])
        | (show wpList _ _ _ ({ dst := some 124, op := _, type := _, pos := _, after := _, guard := _ } :: _) _ _; refine wpList_load_row_w (by rfl) 40 (.tmp 18) rfl g18 rfl 40 R (0, 0) _ HR18f.out Tryd.underlying40 rfl HSR.out ?_; try simp only [Act.put, List.setIfInBounds_toArray, List.set_cons_zero, List.set_cons_succ])
        | (show wpList _ _ _ ({ dst := some 128, op := _, type := _, pos := _, after := _, guard := _ } :: _) _ _; refine wpList_load_row_w (by rfl) 24 (.tmp 5) rfl w.heap.size rfl 24 M (0, 0) _ HTf.out.key Tryd.underlying24 rfl HSM.out ?_; try simp only [Act.put, List.setIfInBounds_toArray, List.set_cons_zero, List.set_cons_succ])
        | (show wpList _ _ _ ({ dst := some 129, op := _, type := _, pos := _, after := _, guard := _ } :: _) _ _; refine wpList_load_row_w (by rfl) 40 (.tmp 22) rfl g22 rfl 40 R (0, 0) _ HR22.out Tryd.underlying40 rfl HSR.out ?_; try simp only [Act.put, List.setIfInBounds_toArray, List.set_cons_zero, List.set_cons_succ])
        | fail)
      refine (VF.out _ k R hlt HR HTf.out.below).mono ?_
      rintro e wg ⟨rfl, hbg⟩
      have HTg := hidk (HTf.out.keep hbg)
      have HR22g := hidk ((hbg.block _ (heap_lt HR22.out)).trans HR22.out)
      have hw12 := wrap_int ((k : Int) + 1) (by omega) (by omega)
      clear hbg HTf HR22 HR18f NQk
      go_wp2_with (first
        | (show wpList _ _ _ ({ dst := some 135, op := _, type := _, pos := _, after := _, guard := _ } :: _) _ _; refine P7.wpList_mid rfl 38 (.tmp 134) rfl g22 0 rfl C _ (HRC.out _ _ HR22g.out) Tryd.underlying38 rfl HSCH.out ?_; try simp only [Act.put, List.setIfInBounds_toArray, List.set_cons_zero, List.set_cons_succ])
        | (refine wpList_build_run rfl 29 1 #[(0, .tmp 135)] rfl #[(0, .agg C)] rfl _ _ (BH.out _) ?_; obtain ⟨v11', wh, hrunh, hTh⟩ := HTg.out.app11 (by rw [hhk]; omega) (hd9 a2 z0 k) hin.1.d C HC; rw [← hds9_succ] at hTh; have HTh := hidk hTh; have HRUNh := hidk hrunh; clear hrunh hTh HTg HR22g BH HRC; try simp only [Act.put, List.setIfInBounds_toArray, List.set_cons_zero, List.set_cons_succ])
        | (refine wpList_append_run rfl (.tmp 133) (.tmp 136) 29 29 rfl _ _ v11' wh rfl rfl HRUNh.out ?_; try simp only [Act.put, List.setIfInBounds_toArray, List.set_cons_zero, List.set_cons_succ])
        | fail)
      go_roundw
      case rel => exact ⟨k + 1, by omega, by go_num, ⟨y2, cy2, HTh.out⟩⟩
      case measure => simp [intOf]; omega
    · obtain rfl : len0 = k := by omega
      have hdk : decide ((len0 : Int) < (len0 : Int)) = false := by rw [decide_eq_false_iff_not]; omega
      have hnl : (hds9 a2 z0 len0).length = len0 := hds9_length a2 z0 len0
      rw [List.take_of_length_le (by omega)] at HT
      obtain ⟨a10, c10, e10, hR10, _⟩ := LReads.own HT.out.own10 HDL.out
      rw [hzl] at e10 hR10
      subst e10
      have HS0 : Hid (Below w.heap.size w wr ∧ LReads wr a10 len0 c10 z0 ∧ wr.ownsRow (w.heap.size + 2) 38 36 u11 (hds9 a2 z0 len0).length (hdsC (hds9 a2 z0 len0))) := ⟨HT.out.below, hR10, HT.out.own11⟩
      clear hR10 HT LF AC RT SG PS GS VF NQ HWT
      go_wp2_with fail
      go_loopw [25] (fun v wi => ∃ i : Nat, i ≤ len0 ∧ v = .int .i64 i ∧ Hid (Below w.heap.size w wi ∧ LReads wi a10 len0 c10 z0 ∧ wi.ownsRow (w.heap.size + 2) 38 36 u11 (hds9 a2 z0 len0).length (hdsC (hds9 a2 z0 len0)))) (fun v _ => len0 - (intOf v).toNat)
      case atStart => exact ⟨0, by omega, rfl, HS0⟩
      case round =>
        clear HS0
        obtain ⟨i, hi, rfl, HS⟩ := hrel
        by_cases hlt : i < len0
        · have dk : decide ((i : Int) < (len0 : Int)) = true := by rw [decide_eq_true_eq]; omega
          have dk' : decide (i < len0) = true := by rw [decide_eq_true_eq]; omega
          have hwi := wrap_int ((i : Int) + 1) (by omega) (by omega)
          have hwn := wrap_int ((len0 : Int) - 1) (by omega) (by omega)
          have hpos : 0 < len0 := by omega
          obtain ⟨g11, c11, e11⟩ := own_form HS.out.2.2 (by omega)
          rw [hnl] at e11
          subst e11
          obtain ⟨g10, o10, e10, _⟩ := HS.out.2.1.at hpos
          subst e10
          have hiz : i < z0.length := by omega
          have h32i : (z0[i]'hiz).length = 32 := HDL.out _ (List.getElem_mem hiz)
          obtain ⟨X, HX, HSX, _, H32X⟩ := dig_row' (z0[i]'hiz) h32i
          obtain ⟨R, HR, HSR, _, _⟩ := dig_row' (root z0) (root_length sumD_length _ HDL.out)
          obtain ⟨O, HO, HSO, _, _⟩ := dig_row' (root (z0.take (i + 1))) (root_length sumD_length _ (HDL.out.take _))
          have HGI : Hid (∀ (W : World) (j : Nat), j < len0 → W.ownsRow (w.heap.size + 2) 38 36 (.slice (some ⟨g11, 0, none⟩) len0 c11) (hds9 a2 z0 len0).length (hdsC (hds9 a2 z0 len0)) → W.cell? ⟨g11, 36 * j + 2, none⟩ = some (.int .i64 ((j : Int) + 1)) ∧ W.rangeAt g11 (36 * j + 3) (cellsOf (root (z0.take (j + 1))))) := fun W j hj ho => by
            have hj' : j < (hds9 a2 z0 len0).length := by omega
            have hh := heads_row (hds9_d a2 z0 len0 HDL.out) ho j hj'
            have e := hds9_at a2 z0 len0 j hj
            rw [List.getElem?_eq_getElem hj', Option.some.injEq] at e
            rw [e] at hh
            exact hh
          have HRi : Hid (∀ W : World, W.ownsRow (w.heap.size + 2) 38 36 (.slice (some ⟨g11, 0, none⟩) len0 c11) (hds9 a2 z0 len0).length (hdsC (hds9 a2 z0 len0)) → W.cell? ⟨g11, 36 * i + 2, none⟩ = some (.int .i64 ((i : Int) + 1)) ∧ W.rangeAt g11 (36 * i + 3) O.toList) := fun W ho => by
            have := HGI.out W i hlt ho
            rw [HO.out]; simpa using this
          have HRn : Hid (∀ W : World, W.ownsRow (w.heap.size + 2) 38 36 (.slice (some ⟨g11, 0, none⟩) len0 c11) (hds9 a2 z0 len0).length (hdsC (hds9 a2 z0 len0)) → W.rangeAt g11 (36 * (len0 - 1) + 3) R.toList) := fun W ho => by
            have := (HGI.out W (len0 - 1) (by omega) ho).2
            rw [show len0 - 1 + 1 = len0 by omega, List.take_of_length_le (by omega)] at this
            rw [HR.out]; simpa using this
          have HRX : Hid (∀ W : World, LReads W (some ⟨g10, o10, none⟩) len0 c10 z0 → W.rangeAt g10 (o10 + 32 * i) X.toList) := fun W h => by
            have := h.range i hiz
            rw [HX.out]; simpa using this
          have ixi := fun W => index_heads W g11 len0 c11 i hlt
          have ixn : ∀ W, (Instr.indexAt 29 (.slice (some ⟨g11, 0, none⟩) len0 c11) (.int .i64 ((len0 : Int) - 1))).run Tryd.prog W = .ok (.pointer (some ⟨g11, 36 * (len0 - 1), none⟩)) W := fun W => by
            have := index_heads W g11 len0 c11 (len0 - 1) (by omega)
            rw [show ((len0 - 1 : Nat) : Int) = (len0 : Int) - 1 by omega] at this
            exact this
          have ixl := fun W => index_list W g10 o10 len0 c10 i .i64 hlt
          have HSa := hidk HS.out
          clear HS HGI
          go_wp2_with fail
          refine (IN.out _ _ _ i hlt HSa.out.2.1 HSa.out.1).mono ?_
          rintro e wj ⟨xp, np, cp, rfl, hxp, hbj⟩
          have HSb : Hid (Below w.heap.size w wj ∧ LReads wj (some ⟨g10, o10, none⟩) len0 c10 z0 ∧ wj.ownsRow (w.heap.size + 2) 38 36 (.slice (some ⟨g11, 0, none⟩) len0 c11) (hds9 a2 z0 len0).length (hdsC (hds9 a2 z0 len0)) ∧ LReads wj xp np cp (incl z0 i)) := ⟨HSa.out.1.trans (hbj.mono HSa.out.1.size), HSa.out.2.1.keep hbj, own_below HSa.out.2.2 hbj, hxp⟩
          clear hxp hbj HSa
          go_wp2_with fail
          refine (CO.out _ _ _ i hlt HSb.out.2.1 HSb.out.1).mono ?_
          rintro e wk ⟨xq, nq, cq, rfl, hxq, hbk⟩
          have HSc : Hid (Below w.heap.size w wk ∧ LReads wk (some ⟨g10, o10, none⟩) len0 c10 z0 ∧ wk.ownsRow (w.heap.size + 2) 38 36 (.slice (some ⟨g11, 0, none⟩) len0 c11) (hds9 a2 z0 len0).length (hdsC (hds9 a2 z0 len0)) ∧ LReads wk xp np cp (incl z0 i) ∧ LReads wk xq nq cq (goesW z0 (i + 1))) := ⟨HSb.out.1.trans (hbk.mono HSb.out.1.size), HSb.out.2.1.keep hbk, own_below HSb.out.2.2.1 hbk, HSb.out.2.2.2.keep hbk, hxq⟩
          clear hxq hbk HSb
          go_wp2_with fail
          refine wp_region_held_drew (S := (fun W => Below w.heap.size w W ∧ LReads W (some ⟨g10, o10, none⟩) len0 c10 z0 ∧ W.ownsRow (w.heap.size + 2) 38 36 (.slice (some ⟨g11, 0, none⟩) len0 c11) (hds9 a2 z0 len0).length (hdsC (hds9 a2 z0 len0)) ∧ LReads W xp np cp (incl z0 i) ∧ LReads W xq nq cq (goesW z0 (i + 1)))) (by kernel_rfl) ⟨HSc.out.1.drew, HSc.out.2.1.keep (Below.refl _ _).drew, own_below HSc.out.2.2.1 (Below.refl _ _).drew, HSc.out.2.2.2.1.keep (Below.refl _ _).drew, HSc.out.2.2.2.2.keep (Below.refl _ _).drew⟩ (fun hHeld => ?_)
          refine wpAnyH_take (i := 0) (oi := { dst := some 158, op := Op.move (Operand.tmp 27), type := 32, pos := "top07.go:51", after := #[], guard := none }) (v := .int .i64 0) rfl (by kernel_rfl) (by kernel_rfl) (by kernel_rfl) (fun _ _ _ h => h) (Or.inl ⟨by rfl, by intro w hSw; go_simp⟩) hHeld ?_
          try simp only [Act.put, List.setIfInBounds_toArray, List.set_cons_zero, List.set_cons_succ]
          refine wpAnyH_take (i := 1) (oi := { dst := some 159, op := Op.binOp BinOp.neq 32 (Operand.tmp 158) (Operand.const (Value.int IntKind.i64 0)) 32, type := 4, pos := "top07.go:51", after := #[{ on := 0, ground := Ground.data }], guard := none }) (v := .bool false) rfl (by kernel_rfl) (by kernel_rfl) (by kernel_rfl) (fun _ _ _ h => h) (Or.inl ⟨by rfl, by intro w hSw; go_simp⟩) hHeld ?_
          try simp only [Act.put, List.setIfInBounds_toArray, List.set_cons_zero, List.set_cons_succ]
          refine wpAnyH_take (i := 2) (oi := { dst := some 160, op := Op.move (Operand.tmp 159), type := 4, pos := "top07.go:51", after := #[{ on := 1, ground := Ground.data }], guard := none }) (v := .bool false) rfl (by kernel_rfl) (by kernel_rfl) (by kernel_rfl) (fun _ _ _ h => h) (Or.inl ⟨by rfl, by intro w hSw; go_simp⟩) hHeld ?_
          try simp only [Act.put, List.setIfInBounds_toArray, List.set_cons_zero, List.set_cons_succ]
          refine wpAnyH_take (i := 3) (oi := { dst := some 161, op := Op.move (Operand.tmp 29), type := 32, pos := "top07.go:51", after := #[{ on := 2, ground := Ground.guard }], guard := some (2, false) }) (v := .int .i64 0) rfl (by kernel_rfl) (by kernel_rfl) (by kernel_rfl) (fun _ _ _ h => h) (Or.inl ⟨by rfl, by intro w hSw; go_simp⟩) hHeld ?_
          try simp only [Act.put, List.setIfInBounds_toArray, List.set_cons_zero, List.set_cons_succ]
          refine wpAnyH_take (i := 4) (oi := { dst := some 162, op := Op.binOp BinOp.neq 32 (Operand.tmp 161) (Operand.const (Value.int IntKind.i64 0)) 32, type := 4, pos := "top07.go:51", after := #[{ on := 3, ground := Ground.data }, { on := 2, ground := Ground.guard }], guard := some (2, false) }) (v := .bool false) rfl (by kernel_rfl) (by kernel_rfl) (by kernel_rfl) (fun _ _ _ h => h) (Or.inl ⟨by rfl, by intro w hSw; go_simp⟩) hHeld ?_
          try simp only [Act.put, List.setIfInBounds_toArray, List.set_cons_zero, List.set_cons_succ]
          refine wpAnyH_take (i := 5) (oi := { dst := some 163, op := Op.pick (Operand.tmp 160) (Operand.const (Value.bool true)) (Operand.tmp 162), type := 4, pos := "top07.go:51", after := #[{ on := 2, ground := Ground.data }, { on := 4, ground := Ground.data }], guard := none }) (v := .bool false) rfl (by kernel_rfl) (by kernel_rfl) (by kernel_rfl) (fun _ _ _ h => h) (Or.inl ⟨by rfl, by intro w hSw; go_simp⟩) hHeld ?_
          try simp only [Act.put, List.setIfInBounds_toArray, List.set_cons_zero, List.set_cons_succ]
          refine wpAnyH_take (i := 6) (oi := { dst := some 164, op := Op.move (Operand.tmp 163), type := 4, pos := "top07.go:51", after := #[{ on := 5, ground := Ground.data }, { on := 2, ground := Ground.chain }], guard := none }) (v := .bool false) rfl (by kernel_rfl) (by kernel_rfl) (by kernel_rfl) (fun _ _ _ h => h) (Or.inl ⟨by rfl, by intro w hSw; go_simp⟩) hHeld ?_
          try simp only [Act.put, List.setIfInBounds_toArray, List.set_cons_zero, List.set_cons_succ]
          refine wpAnyH_take (i := 7) (oi := { dst := some 165, op := Op.move (Operand.tmp 11), type := 29, pos := "top07.go:51", after := #[{ on := 6, ground := Ground.guard }], guard := some (6, false) }) (v := .slice (some ⟨g11, 0, none⟩) len0 c11) rfl (by kernel_rfl) (by kernel_rfl) (by kernel_rfl) (fun _ _ _ h => h) (Or.inl ⟨by rfl, by intro w hSw; go_simp⟩) hHeld ?_
          try simp only [Act.put, List.setIfInBounds_toArray, List.set_cons_zero, List.set_cons_succ]
          refine wpAnyH_take (i := 8) (oi := { dst := some 166, op := Op.move (Operand.tmp 24), type := 3, pos := "top07.go:51", after := #[{ on := 6, ground := Ground.guard }], guard := some (6, false) }) (v := .int .i64 len0) rfl (by kernel_rfl) (by kernel_rfl) (by kernel_rfl) (fun _ _ _ h => h) (Or.inl ⟨by rfl, by intro w hSw; go_simp⟩) hHeld ?_
          try simp only [Act.put, List.setIfInBounds_toArray, List.set_cons_zero, List.set_cons_succ]
          refine wpAnyH_take (i := 9) (oi := { dst := some 167, op := Op.binOp BinOp.sub 3 (Operand.tmp 166) (Operand.const (Value.int IntKind.i64 1)) 3, type := 3, pos := "top07.go:51", after := #[{ on := 8, ground := Ground.data }, { on := 6, ground := Ground.guard }], guard := some (6, false) }) (v := .int .i64 ((len0 : Int) - 1)) rfl (by kernel_rfl) (by kernel_rfl) (by kernel_rfl) (fun _ _ _ h => h) (Or.inl ⟨by rfl, by intro w hSw; go_simp⟩) hHeld ?_
          try simp only [Act.put, List.setIfInBounds_toArray, List.set_cons_zero, List.set_cons_succ]
          refine wpAnyH_take (i := 10) (oi := { dst := some 168, op := Op.indexAddr 29 (Operand.tmp 165) (Operand.tmp 167), type := 0, pos := "top07.go:51", after := #[{ on := 7, ground := Ground.data }, { on := 9, ground := Ground.data }, { on := 6, ground := Ground.guard }], guard := some (6, false) }) (v := .pointer (some ⟨g11, 36 * (len0 - 1), none⟩)) rfl (by kernel_rfl) (by kernel_rfl) (by kernel_rfl) (fun _ _ _ h => h) (Or.inl ⟨by rfl, by intro W hSw; have := ixn W; go_simp⟩) hHeld ?_
          try simp only [Act.put, List.setIfInBounds_toArray, List.set_cons_zero, List.set_cons_succ]
          refine wpAnyH_take (i := 11) (oi := { dst := some 169, op := Op.fieldAddr 38 (Operand.tmp 168) 3, type := 0, pos := "top07.go:51", after := #[{ on := 10, ground := Ground.data }, { on := 6, ground := Ground.guard }], guard := some (6, false) }) (v := .pointer (some ⟨g11, 36 * (len0 - 1) + 3, none⟩)) rfl (by kernel_rfl) (by kernel_rfl) (by kernel_rfl) (fun _ _ _ h => h) (Or.inl ⟨by rfl, by intro w hSw; go_simp⟩) hHeld ?_
          try simp only [Act.put, List.setIfInBounds_toArray, List.set_cons_zero, List.set_cons_succ]
          refine wpAnyH_take (i := 12) (oi := { dst := some 170, op := Op.load 30 (Operand.tmp 169), type := 30, pos := "top07.go:51", after := #[{ on := 11, ground := Ground.data }, { on := 6, ground := Ground.guard }], guard := some (6, false) }) (v := .agg R) rfl (by kernel_rfl) (by kernel_rfl) (by kernel_rfl) (fun _ _ _ h => h) (yieldsIf_mid (by rfl) 30 (.tmp 169) rfl g11 (36 * (len0 - 1) + 3) rfl R _ (fun W h => HRn.out W h.2.2.1) Tryd.underlying30 rfl HSR.out) hHeld ?_
          try simp only [Act.put, List.setIfInBounds_toArray, List.set_cons_zero, List.set_cons_succ]
          refine wpAnyH_take (i := 13) (oi := { dst := some 171, op := Op.move (Operand.tmp 24), type := 3, pos := "top07.go:51", after := #[{ on := 6, ground := Ground.guard }], guard := some (6, false) }) (v := .int .i64 len0) rfl (by kernel_rfl) (by kernel_rfl) (by kernel_rfl) (fun _ _ _ h => h) (Or.inl ⟨by rfl, by intro w hSw; go_simp⟩) hHeld ?_
          try simp only [Act.put, List.setIfInBounds_toArray, List.set_cons_zero, List.set_cons_succ]
          refine wpAnyH_take (i := 14) (oi := { dst := some 172, op := Op.move (Operand.tmp 25), type := 3, pos := "top07.go:51", after := #[{ on := 6, ground := Ground.guard }], guard := some (6, false) }) (v := .int .i64 i) rfl (by kernel_rfl) (by kernel_rfl) (by kernel_rfl) (fun _ _ _ h => h) (Or.inl ⟨by rfl, by intro w hSw; go_simp⟩) hHeld ?_
          try simp only [Act.put, List.setIfInBounds_toArray, List.set_cons_zero, List.set_cons_succ]
          refine wpAnyH_take (i := 15) (oi := { dst := some 173, op := Op.move (Operand.tmp 10), type := 26, pos := "top07.go:51", after := #[{ on := 6, ground := Ground.guard }], guard := some (6, false) }) (v := .slice (some ⟨g10, o10, none⟩) len0 c10) rfl (by kernel_rfl) (by kernel_rfl) (by kernel_rfl) (fun _ _ _ h => h) (Or.inl ⟨by rfl, by intro w hSw; go_simp⟩) hHeld ?_
          try simp only [Act.put, List.setIfInBounds_toArray, List.set_cons_zero, List.set_cons_succ]
          refine wpAnyH_take (i := 16) (oi := { dst := some 174, op := Op.move (Operand.tmp 25), type := 3, pos := "top07.go:51", after := #[{ on := 6, ground := Ground.guard }], guard := some (6, false) }) (v := .int .i64 i) rfl (by kernel_rfl) (by kernel_rfl) (by kernel_rfl) (fun _ _ _ h => h) (Or.inl ⟨by rfl, by intro w hSw; go_simp⟩) hHeld ?_
          try simp only [Act.put, List.setIfInBounds_toArray, List.set_cons_zero, List.set_cons_succ]
          refine wpAnyH_take (i := 17) (oi := { dst := some 175, op := Op.indexAddr 26 (Operand.tmp 173) (Operand.tmp 174), type := 0, pos := "top07.go:51", after := #[{ on := 15, ground := Ground.data }, { on := 16, ground := Ground.data }, { on := 6, ground := Ground.guard }], guard := some (6, false) }) (v := .pointer (some ⟨g10, o10 + 32 * i, none⟩)) rfl (by kernel_rfl) (by kernel_rfl) (by kernel_rfl) (fun _ _ _ h => h) (Or.inl ⟨by rfl, by intro W hSw; have := ixl W; go_simp⟩) hHeld ?_
          try simp only [Act.put, List.setIfInBounds_toArray, List.set_cons_zero, List.set_cons_succ]
          refine wpAnyH_take (i := 18) (oi := { dst := some 176, op := Op.load 30 (Operand.tmp 175), type := 30, pos := "top07.go:51", after := #[{ on := 17, ground := Ground.data }, { on := 6, ground := Ground.guard }], guard := some (6, false) }) (v := .agg X) rfl (by kernel_rfl) (by kernel_rfl) (by kernel_rfl) (fun _ _ _ h => h) (yieldsIf_mid (by rfl) 30 (.tmp 175) rfl g10 (o10 + 32 * i) rfl X _ (fun W h => HRX.out W h.2.1) Tryd.underlying30 rfl HSX.out) hHeld ?_
          try simp only [Act.put, List.setIfInBounds_toArray, List.set_cons_zero, List.set_cons_succ]
          refine wpAnyH_take (i := 19) (oi := { dst := some 177, op := Op.move (Operand.tmp 26), type := 26, pos := "top07.go:51", after := #[{ on := 6, ground := Ground.guard }], guard := some (6, false) }) (v := .slice xp np cp) rfl (by kernel_rfl) (by kernel_rfl) (by kernel_rfl) (fun _ _ _ h => h) (Or.inl ⟨by rfl, by intro w hSw; go_simp⟩) hHeld ?_
          try simp only [Act.put, List.setIfInBounds_toArray, List.set_cons_zero, List.set_cons_succ]
          refine wpAnyH_ready (rs := [20]) (by kernel_rfl) (by simp) ?_
          refine AllReadyH.cons (o := { dst := some 178, op := Op.call { callee := Callee.value (Operand.func 14), args := #[Operand.tmp 170, Operand.tmp 171, Operand.tmp 172, Operand.tmp 176, Operand.tmp 177], argTypes := #[30, 3, 3, 30, 26] }, type := 32, pos := "top07.go:51", after := #[{ on := 12, ground := Ground.data }, { on := 13, ground := Ground.data }, { on := 14, ground := Ground.data }, { on := 18, ground := Ground.data }, { on := 19, ground := Ground.data }, { on := 6, ground := Ground.chain }, { on := 6, ground := Ground.guard }], guard := some (6, false) }) rfl (fun K hK => ?_) AllReadyH.nil
          go_simp
          refine (NC.out _ _ _ _ i R X hiz HR HX hHeld.2.2.2.1 hHeld.1).mono ?_
          rintro e wm ⟨rfl, hbm⟩
          go_wp2_with fail
          refine hK.out _ _ ⟨hHeld.1.trans (hbm.mono hHeld.1.size), hHeld.2.1.keep hbm, own_below hHeld.2.2.1 hbm, hHeld.2.2.2.1.keep hbm, hHeld.2.2.2.2.keep hbm⟩ (fun hHeld => ?_)
          clear hK K
          try simp only [Act.put, List.setIfInBounds_toArray, List.set_cons_zero, List.set_cons_succ]
          refine wpAnyH_take (i := 21) (oi := { dst := some 179, op := Op.binOp BinOp.neq 32 (Operand.tmp 178) (Operand.const (Value.int IntKind.i64 0)) 32, type := 4, pos := "top07.go:51", after := #[{ on := 20, ground := Ground.data }, { on := 6, ground := Ground.guard }], guard := some (6, false) }) (v := .bool false) rfl (by kernel_rfl) (by kernel_rfl) (by kernel_rfl) (fun _ _ _ h => h) (Or.inl ⟨by rfl, by intro w hSw; go_simp⟩) hHeld ?_
          try simp only [Act.put, List.setIfInBounds_toArray, List.set_cons_zero, List.set_cons_succ]
          refine wpAnyH_take (i := 22) (oi := { dst := some 180, op := Op.pick (Operand.tmp 164) (Operand.const (Value.bool true)) (Operand.tmp 179), type := 4, pos := "top07.go:51", after := #[{ on := 6, ground := Ground.data }, { on := 21, ground := Ground.data }], guard := none }) (v := .bool false) rfl (by kernel_rfl) (by kernel_rfl) (by kernel_rfl) (fun _ _ _ h => h) (Or.inl ⟨by rfl, by intro w hSw; go_simp⟩) hHeld ?_
          try simp only [Act.put, List.setIfInBounds_toArray, List.set_cons_zero, List.set_cons_succ]
          refine wpAnyH_take (i := 23) (oi := { dst := some 181, op := Op.move (Operand.tmp 180), type := 4, pos := "top07.go:51", after := #[{ on := 22, ground := Ground.data }, { on := 20, ground := Ground.chain }], guard := none }) (v := .bool false) rfl (by kernel_rfl) (by kernel_rfl) (by kernel_rfl) (fun _ _ _ h => h) (Or.inl ⟨by rfl, by intro w hSw; go_simp⟩) hHeld ?_
          try simp only [Act.put, List.setIfInBounds_toArray, List.set_cons_zero, List.set_cons_succ]
          refine wpAnyH_take (i := 24) (oi := { dst := some 182, op := Op.move (Operand.tmp 11), type := 29, pos := "top07.go:51", after := #[{ on := 23, ground := Ground.guard }], guard := some (23, false) }) (v := .slice (some ⟨g11, 0, none⟩) len0 c11) rfl (by kernel_rfl) (by kernel_rfl) (by kernel_rfl) (fun _ _ _ h => h) (Or.inl ⟨by rfl, by intro w hSw; go_simp⟩) hHeld ?_
          try simp only [Act.put, List.setIfInBounds_toArray, List.set_cons_zero, List.set_cons_succ]
          refine wpAnyH_take (i := 25) (oi := { dst := some 183, op := Op.move (Operand.tmp 25), type := 3, pos := "top07.go:51", after := #[{ on := 23, ground := Ground.guard }], guard := some (23, false) }) (v := .int .i64 i) rfl (by kernel_rfl) (by kernel_rfl) (by kernel_rfl) (fun _ _ _ h => h) (Or.inl ⟨by rfl, by intro w hSw; go_simp⟩) hHeld ?_
          try simp only [Act.put, List.setIfInBounds_toArray, List.set_cons_zero, List.set_cons_succ]
          refine wpAnyH_take (i := 26) (oi := { dst := some 184, op := Op.indexAddr 29 (Operand.tmp 182) (Operand.tmp 183), type := 0, pos := "top07.go:51", after := #[{ on := 24, ground := Ground.data }, { on := 25, ground := Ground.data }, { on := 23, ground := Ground.guard }], guard := some (23, false) }) (v := .pointer (some ⟨g11, 36 * i, none⟩)) rfl (by kernel_rfl) (by kernel_rfl) (by kernel_rfl) (fun _ _ _ h => h) (Or.inl ⟨by rfl, by intro W hSw; have := ixi W; go_simp⟩) hHeld ?_
          try simp only [Act.put, List.setIfInBounds_toArray, List.set_cons_zero, List.set_cons_succ]
          refine wpAnyH_take (i := 27) (oi := { dst := some 185, op := Op.fieldAddr 38 (Operand.tmp 184) 2, type := 0, pos := "top07.go:51", after := #[{ on := 26, ground := Ground.data }, { on := 23, ground := Ground.guard }], guard := some (23, false) }) (v := .pointer (some ⟨g11, 36 * i + 2, none⟩)) rfl (by kernel_rfl) (by kernel_rfl) (by kernel_rfl) (fun _ _ _ h => h) (Or.inl ⟨by rfl, by intro w hSw; go_simp⟩) hHeld ?_
          try simp only [Act.put, List.setIfInBounds_toArray, List.set_cons_zero, List.set_cons_succ]
          refine wpAnyH_take (i := 28) (oi := { dst := some 186, op := Op.load 3 (Operand.tmp 185), type := 3, pos := "top07.go:51", after := #[{ on := 27, ground := Ground.data }, { on := 23, ground := Ground.guard }], guard := some (23, false) }) (v := .int .i64 ((i : Int) + 1)) rfl (by kernel_rfl) (by kernel_rfl) (by kernel_rfl) (fun _ _ _ h => h) (Or.inl ⟨by rfl, by intro W hSw; have := (HRi.out W hSw.2.2.1).1; go_simp⟩) hHeld ?_
          try simp only [Act.put, List.setIfInBounds_toArray, List.set_cons_zero, List.set_cons_succ]
          refine wpAnyH_take (i := 29) (oi := { dst := some 187, op := Op.move (Operand.tmp 11), type := 29, pos := "top07.go:51", after := #[{ on := 23, ground := Ground.guard }], guard := some (23, false) }) (v := .slice (some ⟨g11, 0, none⟩) len0 c11) rfl (by kernel_rfl) (by kernel_rfl) (by kernel_rfl) (fun _ _ _ h => h) (Or.inl ⟨by rfl, by intro w hSw; go_simp⟩) hHeld ?_
          try simp only [Act.put, List.setIfInBounds_toArray, List.set_cons_zero, List.set_cons_succ]
          refine wpAnyH_take (i := 30) (oi := { dst := some 188, op := Op.move (Operand.tmp 25), type := 3, pos := "top07.go:51", after := #[{ on := 23, ground := Ground.guard }], guard := some (23, false) }) (v := .int .i64 i) rfl (by kernel_rfl) (by kernel_rfl) (by kernel_rfl) (fun _ _ _ h => h) (Or.inl ⟨by rfl, by intro w hSw; go_simp⟩) hHeld ?_
          try simp only [Act.put, List.setIfInBounds_toArray, List.set_cons_zero, List.set_cons_succ]
          refine wpAnyH_take (i := 31) (oi := { dst := some 189, op := Op.indexAddr 29 (Operand.tmp 187) (Operand.tmp 188), type := 0, pos := "top07.go:51", after := #[{ on := 29, ground := Ground.data }, { on := 30, ground := Ground.data }, { on := 23, ground := Ground.guard }], guard := some (23, false) }) (v := .pointer (some ⟨g11, 36 * i, none⟩)) rfl (by kernel_rfl) (by kernel_rfl) (by kernel_rfl) (fun _ _ _ h => h) (Or.inl ⟨by rfl, by intro W hSw; have := ixi W; go_simp⟩) hHeld ?_
          try simp only [Act.put, List.setIfInBounds_toArray, List.set_cons_zero, List.set_cons_succ]
          refine wpAnyH_take (i := 32) (oi := { dst := some 190, op := Op.fieldAddr 38 (Operand.tmp 189) 3, type := 0, pos := "top07.go:51", after := #[{ on := 31, ground := Ground.data }, { on := 23, ground := Ground.guard }], guard := some (23, false) }) (v := .pointer (some ⟨g11, 36 * i + 3, none⟩)) rfl (by kernel_rfl) (by kernel_rfl) (by kernel_rfl) (fun _ _ _ h => h) (Or.inl ⟨by rfl, by intro w hSw; go_simp⟩) hHeld ?_
          try simp only [Act.put, List.setIfInBounds_toArray, List.set_cons_zero, List.set_cons_succ]
          refine wpAnyH_take (i := 33) (oi := { dst := some 191, op := Op.load 30 (Operand.tmp 190), type := 30, pos := "top07.go:51", after := #[{ on := 32, ground := Ground.data }, { on := 23, ground := Ground.guard }], guard := some (23, false) }) (v := .agg O) rfl (by kernel_rfl) (by kernel_rfl) (by kernel_rfl) (fun _ _ _ h => h) (yieldsIf_mid (by rfl) 30 (.tmp 190) rfl g11 (36 * i + 3) rfl O _ (fun W h => (HRi.out W h.2.2.1).2) Tryd.underlying30 rfl HSO.out) hHeld ?_
          try simp only [Act.put, List.setIfInBounds_toArray, List.set_cons_zero, List.set_cons_succ]
          refine wpAnyH_take (i := 34) (oi := { dst := some 192, op := Op.move (Operand.tmp 24), type := 3, pos := "top07.go:51", after := #[{ on := 23, ground := Ground.guard }], guard := some (23, false) }) (v := .int .i64 len0) rfl (by kernel_rfl) (by kernel_rfl) (by kernel_rfl) (fun _ _ _ h => h) (Or.inl ⟨by rfl, by intro w hSw; go_simp⟩) hHeld ?_
          try simp only [Act.put, List.setIfInBounds_toArray, List.set_cons_zero, List.set_cons_succ]
          refine wpAnyH_take (i := 35) (oi := { dst := some 193, op := Op.move (Operand.tmp 11), type := 29, pos := "top07.go:51", after := #[{ on := 23, ground := Ground.guard }], guard := some (23, false) }) (v := .slice (some ⟨g11, 0, none⟩) len0 c11) rfl (by kernel_rfl) (by kernel_rfl) (by kernel_rfl) (fun _ _ _ h => h) (Or.inl ⟨by rfl, by intro w hSw; go_simp⟩) hHeld ?_
          try simp only [Act.put, List.setIfInBounds_toArray, List.set_cons_zero, List.set_cons_succ]
          refine wpAnyH_take (i := 36) (oi := { dst := some 194, op := Op.move (Operand.tmp 24), type := 3, pos := "top07.go:51", after := #[{ on := 23, ground := Ground.guard }], guard := some (23, false) }) (v := .int .i64 len0) rfl (by kernel_rfl) (by kernel_rfl) (by kernel_rfl) (fun _ _ _ h => h) (Or.inl ⟨by rfl, by intro w hSw; go_simp⟩) hHeld ?_
          try simp only [Act.put, List.setIfInBounds_toArray, List.set_cons_zero, List.set_cons_succ]
          refine wpAnyH_take (i := 37) (oi := { dst := some 195, op := Op.binOp BinOp.sub 3 (Operand.tmp 194) (Operand.const (Value.int IntKind.i64 1)) 3, type := 3, pos := "top07.go:51", after := #[{ on := 36, ground := Ground.data }, { on := 23, ground := Ground.guard }], guard := some (23, false) }) (v := .int .i64 ((len0 : Int) - 1)) rfl (by kernel_rfl) (by kernel_rfl) (by kernel_rfl) (fun _ _ _ h => h) (Or.inl ⟨by rfl, by intro w hSw; go_simp⟩) hHeld ?_
          try simp only [Act.put, List.setIfInBounds_toArray, List.set_cons_zero, List.set_cons_succ]
          refine wpAnyH_take (i := 38) (oi := { dst := some 196, op := Op.indexAddr 29 (Operand.tmp 193) (Operand.tmp 195), type := 0, pos := "top07.go:51", after := #[{ on := 35, ground := Ground.data }, { on := 37, ground := Ground.data }, { on := 23, ground := Ground.guard }], guard := some (23, false) }) (v := .pointer (some ⟨g11, 36 * (len0 - 1), none⟩)) rfl (by kernel_rfl) (by kernel_rfl) (by kernel_rfl) (fun _ _ _ h => h) (Or.inl ⟨by rfl, by intro W hSw; have := ixn W; go_simp⟩) hHeld ?_
          try simp only [Act.put, List.setIfInBounds_toArray, List.set_cons_zero, List.set_cons_succ]
          refine wpAnyH_take (i := 39) (oi := { dst := some 197, op := Op.fieldAddr 38 (Operand.tmp 196) 3, type := 0, pos := "top07.go:51", after := #[{ on := 38, ground := Ground.data }, { on := 23, ground := Ground.guard }], guard := some (23, false) }) (v := .pointer (some ⟨g11, 36 * (len0 - 1) + 3, none⟩)) rfl (by kernel_rfl) (by kernel_rfl) (by kernel_rfl) (fun _ _ _ h => h) (Or.inl ⟨by rfl, by intro w hSw; go_simp⟩) hHeld ?_
          try simp only [Act.put, List.setIfInBounds_toArray, List.set_cons_zero, List.set_cons_succ]
          refine wpAnyH_take (i := 40) (oi := { dst := some 198, op := Op.load 30 (Operand.tmp 197), type := 30, pos := "top07.go:51", after := #[{ on := 39, ground := Ground.data }, { on := 23, ground := Ground.guard }], guard := some (23, false) }) (v := .agg R) rfl (by kernel_rfl) (by kernel_rfl) (by kernel_rfl) (fun _ _ _ h => h) (yieldsIf_mid (by rfl) 30 (.tmp 197) rfl g11 (36 * (len0 - 1) + 3) rfl R _ (fun W h => HRn.out W h.2.2.1) Tryd.underlying30 rfl HSR.out) hHeld ?_
          try simp only [Act.put, List.setIfInBounds_toArray, List.set_cons_zero, List.set_cons_succ]
          refine wpAnyH_take (i := 41) (oi := { dst := some 199, op := Op.move (Operand.tmp 28), type := 26, pos := "top07.go:51", after := #[{ on := 23, ground := Ground.guard }], guard := some (23, false) }) (v := .slice xq nq cq) rfl (by kernel_rfl) (by kernel_rfl) (by kernel_rfl) (fun _ _ _ h => h) (Or.inl ⟨by rfl, by intro w hSw; go_simp⟩) hHeld ?_
          try simp only [Act.put, List.setIfInBounds_toArray, List.set_cons_zero, List.set_cons_succ]
          refine wpAnyH_ready (rs := [42]) (by kernel_rfl) (by simp) ?_
          refine AllReadyH.cons (o := { dst := some 200, op := Op.call { callee := Callee.value (Operand.func 15), args := #[Operand.tmp 186, Operand.tmp 191, Operand.tmp 192, Operand.tmp 198, Operand.tmp 199], argTypes := #[3, 30, 3, 30, 26] }, type := 32, pos := "top07.go:51", after := #[{ on := 28, ground := Ground.data }, { on := 33, ground := Ground.data }, { on := 34, ground := Ground.data }, { on := 40, ground := Ground.data }, { on := 41, ground := Ground.data }, { on := 23, ground := Ground.chain }, { on := 23, ground := Ground.guard }], guard := some (23, false) }) rfl (fun K hK => ?_) AllReadyH.nil
          go_simp
          refine (CN.out _ _ _ _ i O R hlt HO HR hHeld.2.2.2.2 hHeld.1).mono ?_
          rintro e wn ⟨rfl, hbn⟩
          go_wp2_with fail
          refine hK.out _ _ ⟨hHeld.1.trans (hbn.mono hHeld.1.size), hHeld.2.1.keep hbn, own_below hHeld.2.2.1 hbn, hHeld.2.2.2.1.keep hbn, hHeld.2.2.2.2.keep hbn⟩ (fun hHeld => ?_)
          clear hK K
          try simp only [Act.put, List.setIfInBounds_toArray, List.set_cons_zero, List.set_cons_succ]
          refine wpAnyH_take (i := 43) (oi := { dst := some 201, op := Op.binOp BinOp.neq 32 (Operand.tmp 200) (Operand.const (Value.int IntKind.i64 0)) 32, type := 4, pos := "top07.go:51", after := #[{ on := 42, ground := Ground.data }, { on := 23, ground := Ground.guard }], guard := some (23, false) }) (v := .bool false) rfl (by kernel_rfl) (by kernel_rfl) (by kernel_rfl) (fun _ _ _ h => h) (Or.inl ⟨by rfl, by intro w hSw; go_simp⟩) hHeld ?_
          try simp only [Act.put, List.setIfInBounds_toArray, List.set_cons_zero, List.set_cons_succ]
          refine wpAnyH_take (i := 44) (oi := { dst := some 202, op := Op.pick (Operand.tmp 181) (Operand.const (Value.bool true)) (Operand.tmp 201), type := 4, pos := "top07.go:51", after := #[{ on := 23, ground := Ground.data }, { on := 43, ground := Ground.data }], guard := none }) (v := .bool false) rfl (by kernel_rfl) (by kernel_rfl) (by kernel_rfl) (fun _ _ _ h => h) (Or.inl ⟨by rfl, by intro w hSw; go_simp⟩) hHeld ?_
          try simp only [Act.put, List.setIfInBounds_toArray, List.set_cons_zero, List.set_cons_succ]
          refine wpAnyH_done (by kernel_rfl) ?_ _
          have HSd : Hid (Below w.heap.size w wn ∧ LReads wn (some ⟨g10, o10, none⟩) len0 c10 z0 ∧ wn.ownsRow (w.heap.size + 2) 38 36 (.slice (some ⟨g11, 0, none⟩) len0 c11) (hds9 a2 z0 len0).length (hdsC (hds9 a2 z0 len0))) := ⟨hHeld.1, hHeld.2.1, hHeld.2.2.1⟩
          clear hHeld HSc HRi HRn HRX ixi ixn ixl
          go_wp2_with fail
          go_roundw
          case rel => exact ⟨i + 1, by omega, by go_num, HSd⟩
          case measure => simp [intOf]; omega
        · obtain rfl : len0 = i := by omega
          have HB := hidk HS.out.1
          clear HS IN CO NC CN
          go_wp2_with fail
          refine (PV.out _ HB.out).mono ?_
          rintro e wz ⟨rfl, hbz⟩
          have HBz := hidk (HB.out.trans (hbz.mono HB.out.size))
          clear hbz HB PV
          go_wp2_with fail
          go_ret
          exact ⟨rfl, HBz.out⟩
theorem topSigned_of (hc : HeadC) (fr : FrontC) (ck : CheckC) (a0 : Option Addr) (len0 cap0 : Nat) (ss : List ByteArray) (z1 : List UInt8) (a2 a3 : Int) (w : World) (w0 : Texts w a0 len0 ss) (hl : len0 ≤ maxLen) (w1 : z1.length = 32) (hK : TabF w) :
    Calls Tryd.prog 3 #[.slice a0 len0 cap0, digV z1, .int .i64 a2, .int .i64 a3] w fun e w' => e = .returned (.bool true) ∧ Below w.heap.size w w' := by
  have hl' : len0 ≤ 9223372036854775807 := by unfold maxLen at hl; omega
  unfold digV
  by_cases h0 : 24 < len0
  · exact topSigned_bad hc ck a0 len0 cap0 a2 a3 w _ hl' hK.1 (.inl h0)
  by_cases h1 : a2 < 1
  · exact topSigned_bad hc ck a0 len0 cap0 a2 a3 w _ hl' hK.1 (.inr (.inl ⟨h0, h1⟩))
  by_cases h2 : 900000000 < a2
  · exact topSigned_bad hc ck a0 len0 cap0 a2 a3 w _ hl' hK.1 (.inr (.inr (.inl ⟨h0, h1, h2⟩)))
  by_cases h3 : a3 < 1
  · exact topSigned_bad hc ck a0 len0 cap0 a2 a3 w _ hl' hK.1 (.inr (.inr (.inr (.inl ⟨h0, h1, h2, h3⟩))))
  by_cases h4 : 3 < a3
  · exact topSigned_bad hc ck a0 len0 cap0 a2 a3 w _ hl' hK.1 (.inr (.inr (.inr (.inr ⟨h0, h1, h2, h3, h4⟩))))
  exact topSigned_good hc fr ck a0 len0 cap0 ss z1 a2 a3 w _ (hidk rfl) w0 w1 hK (by omega) (by omega) (by omega)
end Go.Proofs.YtdnhnjimhbbababDoor
