/- Texts of our own that the row of PathMakes leans on, part 12. -/
import Derived.Test.YtkmedlfbkddmoaaGreatDoorPathMakesJ0
import Derived.Test.YtkmedlfbkddmoaaGreatDoorPathMakesJ1
import Derived.Test.YtkmedlfbkddmoaaGreatDoorPathMakesJ10
import Derived.Test.YtkmedlfbkddmoaaGreatDoorPathMakesJ11
import Derived.Great.BuildSlice
import Derived.OneCell
import Derived.Defers
import Derived.Recover
/- Literals of lists of digests. -/
namespace Go.Proofs.YtkmedlfbkddmoaaGreatDoor
open Go.RowKit Sums
set_option maxRecDepth 100000
set_option linter.unusedVariables false
set_option linter.unusedSimpArgs false
theorem fold_setD (D : List Value) : ∀ (k off : Nat) (cs : Array Value) (pre old rest : List Value), cs.toList = pre ++ old ++ rest → pre.length = off + k → old.length = D.length →
    ((D.zipIdx k).foldl (fun cs (c, j) => cs.setIfInBounds (off + j) c) cs).toList = pre ++ D ++ rest := by
  induction D with
  | nil =>
    intro k off cs pre old rest h hp ho
    have : old = [] := List.eq_nil_of_length_eq_zero ho
    subst this
    simpa using h
  | cons d D ih =>
    intro k off cs pre old rest h hp ho
    match old, ho with
    | x :: old, ho =>
      rw [List.zipIdx_cons, List.foldl_cons]
      have := ih (k + 1) off (cs.setIfInBounds (off + k) d) (pre ++ [d]) old rest (by
        rw [Array.toList_setIfInBounds, h, ← hp]
        simp) (by simp; omega) (by simpa using ho)
      rw [this]
      simp
theorem fill_rows (ds : List (List Value)) : ∀ (k : Nat) (cs : Array Value) (pre old : List Value), cs.toList = pre ++ old → pre.length = k * 32 → (∀ d ∈ ds, d.length = 32) → old.length = ds.length * 32 →
    Instr.fill (fun i => some (i * 32, 32)) cs ((ds.zipIdx k).map fun x => (x.2, Value.agg x.1.toArray)) = some (pre ++ ds.flatten).toArray := by
  induction ds with
  | nil =>
    intro k cs pre old h hp hd ho
    have : old = [] := List.eq_nil_of_length_eq_zero (by simpa using ho)
    subst this
    simp only [List.zipIdx_nil, List.map_nil, Instr.fill, List.flatten_nil, ← h]
  | cons d ds ih =>
    intro k cs pre old h hp hd ho
    have h32 := hd d (List.mem_cons_self ..)
    simp only [List.length_cons] at ho
    have hcs : cs.size = k * 32 + old.length := by rw [← Array.length_toList, h, List.length_append, hp]
    rw [List.zipIdx_cons, List.map_cons]
    unfold Instr.fill
    have hsz : (Value.agg d.toArray).cells.size = 32 := by show d.toArray.size = 32; simp [h32]
    simp only [hsz]
    rw [if_neg (by simp; omega)]
    refine (ih (k + 1) _ (pre ++ d) (old.drop 32) ?_ (by simp; omega) (fun x hx => hd x (List.mem_cons_of_mem _ hx)) (by simp; omega)).trans (by simp)
    have := fold_setD d 0 (k * 32) cs pre (old.take 32) (old.drop 32) (by rw [h, List.append_assoc, List.take_append_drop]) (by omega) (by simp; omega)
    rw [← this, ← Array.foldl_toList]
    congr 2
    simp [Value.cells]
theorem run_build_digs (w : World) (n : Nat) (ds : List (List UInt8)) (hd : Digs32 ds) (hn : ds.length = n) (h1 : 0 < n) (h2 : n ≤ 100) (parts : Array (Nat × Value)) (hp : parts.toList = ((ds.map cellsOf).zipIdx 0).map fun x => (x.2, Value.agg x.1.toArray)) :
    (Instr.buildSlice 38 n parts).run Tryz.prog w = .ok (.slice (some ⟨w.heap.size, 0, none⟩) n n) (w.alloc (.cells (cellsOf ds.flatten).toArray 24)) := by
  cases hie : Tryz.prog.info? 24 with
  | none => have := zero27; simp [hie] at this
  | some ie =>
    have hz := zero27
    rw [hie] at hz
    simp only [Option.map_some, Option.some.injEq, Prod.mk.injEq] at hz
    obtain ⟨hz, hs⟩ := hz
    refine run_buildSlice w 38 24 n parts _ ie _ Tryz.underlying38 hie hz (by rw [hs]; omega) (by rw [hs]; omega) ?_
    rw [hs, hp]
    have e : (ds.map cellsOf).flatten = cellsOf ds.flatten := by
      unfold cellsOf
      rw [List.map_flatten]
    generalize hcs : Array.map _ (Array.range (n * 32)) = cs
    have hcz : cs.size = n * 32 := by rw [← hcs]; simp
    rw [fill_rows (ds.map cellsOf) 0 cs [] cs.toList rfl rfl (fun d h => by
      obtain ⟨x, hx, rfl⟩ := List.mem_map.1 h
      rw [cellsOf_length]; exact hd x hx) (by simp [hcz, hn]), e]
    rfl
theorem build_one (w : World) (d : List UInt8) (hd : d.length = 32) (D : Array Value) (HD : Hid (D = (cellsOf d).toArray)) :
    (Instr.buildSlice 38 1 #[(0, .agg D)]).run Tryz.prog w = .ok (.slice (some ⟨w.heap.size, 0, none⟩) 1 1) (w.alloc (.cells D 24)) := by
  rw [HD.out, run_build_digs w 1 [d] (.one hd) rfl (by omega) (by omega) _ (by simp)]
  simp
theorem wp_build_run {P : Program} {o : Oper} {a : Act} {w : World} {K : Act → World → Prop} {Q : Exit → Act → World → Prop} (t : TypeId) (n : Nat) (parts : Array (Nat × Operand)) (ho : o.op = .buildSlice t n parts) (vals : Array (Nat × Value)) (hv : (parts.toList.map fun p => (p.1, a.eval p.2)) = vals.toList)
    (s : Value) (w' : World) (hrun : (Instr.buildSlice t n vals).run P w = .ok s w') (h : K (a.put o.dst s) w') : o.wp P a w K Q := by
  have hv' : (parts.map fun (i, x) => (i, a.eval x)) = vals := by
    apply Array.ext'
    rw [Array.toList_map, ← hv]
  subst hv'
  unfold Oper.wp execOp
  simp only [ho, Sem.run_bind, hrun, Result.andThen_ok]
  exact h
theorem step_build_run {P : Program} {ops : Array Oper} {o : Oper} {a : Act} {w : World} {K : Act → World → Prop} {Q : Exit → Act → World → Prop} {E : Prop} (hw : Region.wanted o (yielded ops a.tmps) = true) (t : TypeId) (n : Nat) (parts : Array (Nat × Operand)) (ho : o.op = .buildSlice t n parts) (vals : Array (Nat × Value)) (hv : (parts.toList.map fun p => (p.1, a.eval p.2)) = vals.toList)
    (s : Value) (w' : World) (hrun : (Instr.buildSlice t n vals).run P w = .ok s w') (h : K (a.put o.dst s) w') : if Region.wanted o (yielded ops a.tmps) = true then Oper.wp P o a w K Q else E := by
  rw [if_pos hw]
  exact wp_build_run t n parts ho vals hv s w' hrun h
theorem wpList_build_run {P : Program} {ops : Array Oper} {rest : List Oper} {o : Oper} {a : Act} {w : World} {Q : Exit → Act → World → Prop} (hg : o.guard = none) (t : TypeId) (n : Nat) (parts : Array (Nat × Operand)) (ho : o.op = .buildSlice t n parts) (vals : Array (Nat × Value)) (hv : (parts.toList.map fun p => (p.1, a.eval p.2)) = vals.toList)
    (s : Value) (w' : World) (hrun : (Instr.buildSlice t n vals).run P w = .ok s w') (h : wpList P ops Q rest (a.put o.dst s) w') : wpList P ops Q (o :: rest) a w :=
  wpList_plain hg fun _ hK => wp_build_run t n parts ho vals hv s w' hrun (hK _ _ h)
theorem LReads.new (W : World) (ds : List (List UInt8)) (n : Nat) (hn : ds.length = n) (hd : Digs32 ds) (h1 : n ≤ 100) (L : Array Value) (HL : Hid (L = (cellsOf ds.flatten).toArray)) : LReads (W.alloc (.cells L 24)) (some ⟨W.heap.size, 0, none⟩) n n ds := by
  refine ⟨hn, hd, Nat.le_refl _, by unfold maxLen; omega, .inr ⟨_, _, rfl, fun i hi => ?_⟩⟩
  rw [Nat.zero_add, cell_of_row _ _ i _ 24 (0, 0) (heap_alloc_new W _), HL.out]
  simp [cellsOf_at _ i hi]
theorem append_nothing (w : World) (B : Nat) (v : Value) (n : Nat) (xs : List Value) (cap : Nat) (h : w.ownsRow B 24 32 v n xs) : (Builtin.append_ #[38, 38] 38 #[v, .slice none 0 cap]).run Tryz.prog w = .ok v w := by
  obtain ⟨i0, hi, hz0, hz1, hz2⟩ := info_parts infoD
  rcases h.2 with ⟨rfl, _⟩ | ⟨g, c, cur, rfl, _, _, hnc, _⟩
  · simp [Builtin.append_, run_underlying Tryz.underlying38, sizeOf, typeInfo, hi, Builtin.lenOf, Builtin.firstCells]
  · simp [Builtin.append_, run_underlying Tryz.underlying38, sizeOf, typeInfo, hi, Builtin.lenOf, Builtin.firstCells, hnc, storeCells]
theorem append_any (W : World) (B : Nat) (v : Value) (l1 l2 : List (List UInt8)) (hown : W.ownsRow B 24 32 v l1.length (cellsOf l1.flatten)) (a : Option Addr) (len cap : Nat) (hR : LReads W a len cap l2) (hB : B ≤ W.heap.size) (hlen : l1.length + len ≤ 1000000) :
    ∃ v' w', (Builtin.append_ #[38, 38] 38 #[v, .slice a len cap]).run Tryz.prog W = .ok v' w' ∧ w'.ownsRow B 24 32 v' (l1 ++ l2).length (cellsOf (l1 ++ l2).flatten) ∧ Below B W w' := by
  have hl2 := hR.1
  cases a with
  | none =>
    have h0 : len = 0 := by
      rcases hR.2.2.2.2 with h | ⟨g, o, e, _⟩
      · exact h
      · cases e
    subst h0
    have : l2 = [] := List.eq_nil_of_length_eq_zero hl2
    subst this
    rw [List.append_nil]
    exact ⟨v, W, append_nothing W B v _ _ cap hown, hown, Below.refl _ _⟩
  | some ad =>
    obtain ⟨v', w', hr, ho, hg⟩ := run_append_digs W B v l1 l2 hown ad len cap hl2 hR.2.1 (by
      intro j u hj
      have hjl : j < l2.flatten.length := by
        have := (List.getElem?_eq_some_iff.1 hj).1
        rwa [cellsOf_length] at this
      rw [flat_length hR.2.1] at hjl
      rcases hR.2.2.2.2 with h | ⟨g, o, e, hly⟩
      · omega
      · cases e
        rw [add_plain, hly j (by rw [flat_length hR.2.1]; exact hjl)]
        rw [cellsOf_at _ j (by rw [flat_length hR.2.1]; exact hjl)] at hj
        exact hj) hB hlen
    refine ⟨v', w', hr, ?_, (Below.refl _ _).grown hg hB (fun k hk => (hown.lt k hk).1)⟩
    rw [List.length_append, hl2]
    exact ho
set_option maxHeartbeats 1000000 in
theorem behind_any (a : Option Addr) (len cap : Nat) (l : List (List UInt8)) (d : List UInt8) (w : World) (hR : LReads w a len cap l) (hl : len ≤ 100000) (hd : d.length = 32) (D : Array Value) (HD : Hid (D = (cellsOf d).toArray)) :
    Calls Tryz.prog 63 #[.slice a len cap, .agg D] w fun e w' => ∃ x cx, e = .returned (.slice x (len + 1) cx) ∧ LReads w' x (len + 1) cx (l ++ [d]) ∧ Below w.heap.size w w' := by
  have hb0 : Below w.heap.size w (w.alloc (.cells D 24)) := (Below.refl _ _).alloc (Nat.le_refl _) _
  obtain ⟨v1, w1, hr1, ho1, hb1⟩ := append_any (w.alloc (.cells D 24)) (w.heap.size + 1) (.slice none 0 0) [] l (World.ownsRow_nil _ _ _ _) a len cap (hR.keep hb0) (by simp) (by simp; omega)
  rw [List.nil_append] at ho1
  have hg1 : w1.heap[w.heap.size]? = some (.cells D 24 (0, 0)) := (hb1.block _ (by omega)).trans (heap_alloc_new w _)
  have hs1 : w.heap.size + 1 ≤ w1.heap.size := by have := hb1.size; simpa using this
  have hb2 : Below w1.heap.size w1 (w1.alloc (.cells D 24)) := (Below.refl _ _).alloc (Nat.le_refl _) _
  have hnew : LReads (w1.alloc (.cells D 24)) (some ⟨w1.heap.size, 0, none⟩) 1 1 [d] := by
    refine ⟨rfl, .one hd, Nat.le_refl _, by unfold maxLen; omega, .inr ⟨_, _, rfl, fun i hi => ?_⟩⟩
    rw [Nat.zero_add, cell_of_row _ _ i _ 24 (0, 0) (heap_alloc_new w1 _), HD.out]
    simp only [List.flatten_cons, List.flatten_nil, List.append_nil] at hi ⊢
    simp [cellsOf_at _ i hi]
  obtain ⟨v2, w2, hr2, ho2, hb3⟩ := append_any (w1.alloc (.cells D 24)) (w.heap.size + 1) v1 l [d] (own_below ho1 hb2) (some ⟨w1.heap.size, 0, none⟩) 1 1 hnew (by simp; omega) (by have := hR.1; omega)
  obtain ⟨x, cx, rfl, hx, _⟩ := LReads.own ho2 (hR.2.1.append (.one hd))
  have hl2 : (l ++ [d]).length = len + 1 := by rw [List.length_append, hR.1]; rfl
  rw [hl2] at hx hr2
  have HF : Hid (LReads w2 x (len + 1) cx (l ++ [d]) ∧ Below w.heap.size w w2) := by
    refine ⟨hx, ((hb0.trans (hb1.mono (by omega))).trans (hb2.mono (by omega))).trans (hb3.mono (by omega))⟩
  have HB := hidk (build_one w1 d hd D HD)
  have HR1 := hidk hr1
  have HR2 := hidk hr2
  have HG1 := hidk hg1
  have HSD : Hid ((Tryz.prog.info? 24).map (·.size) = some D.size) := by show _ = _; rw [size23, HD.out]; simp [cellsOf_length, hd]
  clear hR hb0 hr1 ho1 hb1 hg1 hs1 hb2 hnew hr2 ho2 hb3 hx hl2
  go_enter Tryz.func63, Tryz.ntmps63
  go_wp2_with (first
    | (refine wpList_append_runD rfl (.tmp 6) (.tmp 7) 38 38 rfl _ _ _ w1 rfl rfl HR1.out ?_; try simp only [Act.put, pS1, pS2, pS3])
    | (refine wpList_load_row rfl 24 (.tmp 3) rfl w.heap.size rfl 24 D (0, 0) _ HG1.out Tryz.underlying24 rfl HSD.out ?_; try simp only [Act.put, pS1, pS2, pS3])
    | (refine wpList_build_run rfl 38 1 _ rfl #[(0, .agg D)] rfl _ _ HB.out ?_; try simp only [Act.put, pS1, pS2, pS3])
    | (refine wpList_append_runD rfl (.tmp 9) (.tmp 11) 38 38 rfl _ _ _ w2 rfl rfl HR2.out ?_; try simp only [Act.put, pS1, pS2, pS3])
    | fail)
  go_ret
  exact ⟨x, cx, rfl, HF.out⟩
set_option maxHeartbeats 2000000 in
theorem refIncl_any (n : Nat) (a : Option Addr) (len cap i : Nat) (l : List (List UInt8)) (w : World) (hn : len = n) (hR : LReads w a len cap l) (hi : i < len) (hl : len ≤ 100000) (hK : Table 0 w) :
    Calls Tryz.prog 39 #[.slice a len cap, .int .i64 i] w fun e w' => ∃ x cx, e = .returned (.slice x (incl l i).length cx) ∧ LReads w' x (incl l i).length cx (incl l i) ∧ Below w.heap.size w w' := by
  induction n using Nat.strongRecOn generalizing a len cap i l w with
  | _ n ih =>
    subst hn
    have hlen := hR.1
    have hmx : len ≤ 9223372036854775807 := by omega
    obtain ⟨g, o, rfl, hg⟩ := hR.at (by omega)
    by_cases h1 : len = 1
    · rw [incl_one l i (by omega)]
      subst h1
      have HL : Hid (LReads w none 0 0 []) := ⟨rfl, (fun d hd => by cases hd), Nat.le_refl _, Nat.zero_le _, .inl rfl⟩
      clear hK hR ih hlen
      go_enter Tryz.func39, Tryz.ntmps39
      go_wp2
      go_ret
      exact ⟨none, 0, rfl, HL.out, Below.refl _ _⟩
    · have h2 : 2 ≤ len := by omega
      obtain ⟨k, hk⟩ : ∃ k, k = split len := ⟨_, rfl⟩
      have hkl := split_lt len h2
      have hkp := split_pos len h2
      rw [← hk] at hkl hkp
      have hcl := hR.2.2.1
      have S : Hid (∀ W, Calls Tryz.prog 61 #[.int .i64 len] W fun e w' => e = .returned (.int .i64 k) ∧ W = w') := fun W => by
        have := refSplit_any (len : Int) W (by omega)
        rw [Int.toNat_natCast, ← hk] at this
        exact this
      have sl := fun W => slice_left W g o len cap k (by omega)
      have sr := fun W => slice_right W g o len cap k (by omega) hcl (by omega)
      by_cases hik : i < k
      · have hdl : decide ((i : Int) < (k : Int)) = true := by rw [decide_eq_true_eq]; omega
        have HE : Hid (incl l i = incl (l.take k) i ++ [root (l.drop k)]) := by
          show _ = _
          rw [incl_left l i (by omega) (by rw [hlen, ← hk]; exact hik), hlen, ← hk]
        have IH : Hid (∀ W, Below w.heap.size w W → Calls Tryz.prog 39 #[.slice (some ⟨g, o, none⟩) k cap, .int .i64 i] W fun e w' => ∃ x cx, e = .returned (.slice x (incl (l.take k) i).length cx) ∧ LReads w' x (incl (l.take k) i).length cx (incl (l.take k) i) ∧ Below W.heap.size W w') := fun W hb => by
          exact ih k hkl _ k cap i (l.take k) W rfl ((hR.keep hb).take k (by omega)) (by omega) (by omega) (hK.keep hb)
        obtain ⟨D, HD⟩ : ∃ D, Hid (D = (cellsOf (root (l.drop k))).toArray) := ⟨_, (rfl : (cellsOf (root (l.drop k))).toArray = _)⟩
        have hdd : (root (l.drop k)).length = 32 := root_length sumD_length _ (hR.2.1.drop k)
        have RR : Hid (∀ W, Below w.heap.size w W → Calls Tryz.prog 35 #[.slice (some ⟨g, o + 32 * k, none⟩) (len - k) (cap - k)] W fun e w' => e = .returned (.agg D) ∧ Below W.heap.size W w') := fun W hb =>
          refRoot_any _ _ _ _ (l.drop k) W rfl ((hR.keep hb).drop k (by omega)) (hK.keep hb) D HD
        have hsh := incl_len (l.take k) i (by simp only [List.length_take, List.length_drop]; omega)
        simp only [List.length_take, List.length_drop] at hsh
        generalize incl (l.take k) i = acc at HE IH hsh
        have hal : acc.length ≤ 100000 := by omega
        have BH : Hid (∀ W x cx, LReads W x acc.length cx acc → Calls Tryz.prog 63 #[.slice x acc.length cx, .agg D] W fun e w' => ∃ y cy, e = .returned (.slice y (acc.length + 1) cy) ∧ LReads w' y (acc.length + 1) cy (acc ++ [root (l.drop k)]) ∧ Below W.heap.size W w') := fun W x cx hx => behind_any x acc.length cx acc _ W hx hal hdd D HD
        rw [HE.out]
        generalize root (l.drop k) = rt at BH
        obtain ⟨m, HM⟩ : ∃ m, Hid (m = acc.length) := ⟨_, (rfl : acc.length = _)⟩
        rw [← HM.out] at IH BH
        have HM2 : Hid ((acc ++ [rt]).length = m + 1) := by show _ = _; rw [List.length_append, HM.out]; rfl
        rw [HM2.out]
        clear hK hR ih hlen hk HE HD hsh hal hdd
        go_enter Tryz.func39, Tryz.ntmps39
        go_wp2_with fail
        refine (S.out _).mono ?_
        rintro e w1 ⟨rfl, rfl⟩
        clear S
        go_wp2
        refine wp_region_held_drew (S := (fun _ => True)) (by kernel_rfl) trivial (fun hHeld => ?_)
        refine zW 0 (.slice (some ⟨g, o, none⟩) len cap) rfl (Or.inl ⟨by rfl, by intro w hSw; go_simp⟩) hHeld ?_
        try simp only [Act.put, pS1, pS2, pS3]
        refine zW 1 (.int .i64 k) rfl (Or.inl ⟨by rfl, by intro w hSw; go_simp⟩) hHeld ?_
        try simp only [Act.put, pS1, pS2, pS3]
        refine zW 2 (.slice (some ⟨g, o, none⟩) k cap) rfl (Or.inl ⟨by rfl, by intro W hSw; have := sl W; go_simp⟩) hHeld ?_
        try simp only [Act.put, pS1, pS2, pS3]
        refine zW 3 (.int .i64 i) rfl (Or.inl ⟨by rfl, by intro w hSw; go_simp⟩) hHeld ?_
        try simp only [Act.put, pS1, pS2, pS3]
        refine zW 5 (.slice (some ⟨g, o, none⟩) len cap) rfl (Or.inl ⟨by rfl, by intro w hSw; go_simp⟩) hHeld ?_
        try simp only [Act.put, pS1, pS2, pS3]
        refine zW 6 (.int .i64 k) rfl (Or.inl ⟨by rfl, by intro w hSw; go_simp⟩) hHeld ?_
        try simp only [Act.put, pS1, pS2, pS3]
        refine zW 7 (.slice (some ⟨g, o + 32 * k, none⟩) (len - k) (cap - k)) rfl (Or.inl ⟨by rfl, by intro W hSw; have := sr W; go_simp⟩) hHeld ?_
        try simp only [Act.put, pS1, pS2, pS3]
        refine wpAnyH_ready (rs := [4]) (by kernel_rfl) (by simp) ?_
        refine AllReadyH.cons (o := { dst := some 19, op := .call { callee := .value (.func 39), args := #[.tmp 17, .tmp 18], argTypes := #[38, 3] }, type := 38, pos := "ref.go:48", after := #[zD 2, zD 3], guard := none }) rfl (fun K hK => ?_) AllReadyH.nil
        go_simp
        refine (IH.out _ (Below.refl _ _).drew).mono ?_
        rintro e w4 ⟨x, cx, rfl, hx, hb4⟩
        have H4 : Hid (LReads w4 x m cx acc ∧ Below w.heap.size w w4) := ⟨hx, (Below.refl _ _).drew.trans hb4⟩
        clear hx hb4
        go_wp2_with fail
        refine hK.out _ _ trivial (fun hHeld => ?_)
        clear hK K
        try simp only [Act.put, pS1, pS2, pS3]
        refine wpAnyH_ready (rs := [8]) (by kernel_rfl) (by simp) ?_
        refine AllReadyH.cons (o := { dst := some 23, op := .call { callee := .value (.func 35), args := #[.tmp 22], argTypes := #[38] }, type := 24, pos := "ref.go:48", after := #[zD 7, zC 4], guard := none }) rfl (fun K hK => ?_) AllReadyH.nil
        go_simp
        refine (RR.out _ H4.out.2).mono ?_
        rintro e w8 ⟨rfl, hb8⟩
        have H8 : Hid (LReads w8 x m cx acc ∧ Below w.heap.size w w8) := ⟨H4.out.1.keep hb8, H4.out.2.trans (hb8.mono H4.out.2.size)⟩
        clear hb8
        go_wp2_with fail
        refine hK.out _ _ trivial (fun hHeld => ?_)
        clear hK K
        try simp only [Act.put, pS1, pS2, pS3]
        refine wpAnyH_ready (rs := [9]) (by kernel_rfl) (by simp) ?_
        refine AllReadyH.cons (o := { dst := some 24, op := .call { callee := .value (.func 63), args := #[.tmp 19, .tmp 23], argTypes := #[38, 24] }, type := 38, pos := "ref.go:48", after := #[zD 4, zD 8, zC 8], guard := none }) rfl (fun K hK => ?_) AllReadyH.nil
        go_simp
        refine (BH.out _ _ _ H8.out.1).mono ?_
        rintro e w9 ⟨y, cy, rfl, hy, hb9⟩
        have H9 : Hid (LReads w9 y (m + 1) cy (acc ++ [rt]) ∧ Below w.heap.size w w9) := ⟨hy, H8.out.2.trans (hb9.mono H8.out.2.size)⟩
        clear hy hb9
        go_wp2_with fail
        refine hK.out _ _ trivial (fun hHeld => ?_)
        clear hK K
        try simp only [Act.put, pS1, pS2, pS3]
        refine zW 10 (.slice y (m + 1) cy) rfl (Or.inl ⟨by rfl, by intro w hSw; go_simp⟩) hHeld ?_
        try simp only [Act.put, pS1, pS2, pS3]
        refine wpAnyH_done (by kernel_rfl) ?_ _
        go_wp2
        go_ret
        exact ⟨y, cy, rfl, H9.out⟩
      · have hdl : decide ((i : Int) < (k : Int)) = false := by rw [decide_eq_false_iff_not]; omega
        have hw := wrap_int ((i : Int) - (k : Int)) (by omega) (by omega)
        have HE : Hid (incl l i = incl (l.drop k) (i - k) ++ [root (l.take k)]) := by
          show _ = _
          rw [incl_right l i (by omega) (by rw [hlen, ← hk]; omega), hlen, ← hk]
        have IH : Hid (∀ W, Below w.heap.size w W → Calls Tryz.prog 39 #[.slice (some ⟨g, o + 32 * k, none⟩) (len - k) (cap - k), .int .i64 ((i : Int) - (k : Int))] W fun e w' => ∃ x cx, e = .returned (.slice x (incl (l.drop k) (i - k)).length cx) ∧ LReads w' x (incl (l.drop k) (i - k)).length cx (incl (l.drop k) (i - k)) ∧ Below W.heap.size W w') := fun W hb => by
          rw [show ((i : Int) - (k : Int)) = ((i - k : Nat) : Int) by omega]
          exact ih (len - k) (by omega) _ (len - k) (cap - k) (i - k) (l.drop k) W rfl ((hR.keep hb).drop k (by omega)) (by omega) (by omega) (hK.keep hb)
        obtain ⟨D, HD⟩ : ∃ D, Hid (D = (cellsOf (root (l.take k))).toArray) := ⟨_, (rfl : (cellsOf (root (l.take k))).toArray = _)⟩
        have hdd : (root (l.take k)).length = 32 := root_length sumD_length _ (hR.2.1.take k)
        have RR : Hid (∀ W, Below w.heap.size w W → Calls Tryz.prog 35 #[.slice (some ⟨g, o, none⟩) k cap] W fun e w' => e = .returned (.agg D) ∧ Below W.heap.size W w') := fun W hb =>
          refRoot_any _ _ _ _ (l.take k) W rfl ((hR.keep hb).take k (by omega)) (hK.keep hb) D HD
        have hsh := incl_len (l.drop k) (i - k) (by simp only [List.length_take, List.length_drop]; omega)
        simp only [List.length_take, List.length_drop] at hsh
        generalize incl (l.drop k) (i - k) = acc at HE IH hsh
        have hal : acc.length ≤ 100000 := by omega
        have BH : Hid (∀ W x cx, LReads W x acc.length cx acc → Calls Tryz.prog 63 #[.slice x acc.length cx, .agg D] W fun e w' => ∃ y cy, e = .returned (.slice y (acc.length + 1) cy) ∧ LReads w' y (acc.length + 1) cy (acc ++ [root (l.take k)]) ∧ Below W.heap.size W w') := fun W x cx hx => behind_any x acc.length cx acc _ W hx hal hdd D HD
        rw [HE.out]
        generalize root (l.take k) = rt at BH
        obtain ⟨m, HM⟩ : ∃ m, Hid (m = acc.length) := ⟨_, (rfl : acc.length = _)⟩
        rw [← HM.out] at IH BH
        have HM2 : Hid ((acc ++ [rt]).length = m + 1) := by show _ = _; rw [List.length_append, HM.out]; rfl
        rw [HM2.out]
        clear hK hR ih hlen hk HE HD hsh hal hdd
        go_enter Tryz.func39, Tryz.ntmps39
        go_wp2_with fail
        refine (S.out _).mono ?_
        rintro e w1 ⟨rfl, rfl⟩
        clear S
        go_wp2
        refine wp_region_held_drew (S := (fun _ => True)) (by kernel_rfl) trivial (fun hHeld => ?_)
        refine zW 0 (.slice (some ⟨g, o, none⟩) len cap) rfl (Or.inl ⟨by rfl, by intro w hSw; go_simp⟩) hHeld ?_
        try simp only [Act.put, pS1, pS2, pS3]
        refine zW 1 (.int .i64 k) rfl (Or.inl ⟨by rfl, by intro w hSw; go_simp⟩) hHeld ?_
        try simp only [Act.put, pS1, pS2, pS3]
        refine zW 2 (.slice (some ⟨g, o + 32 * k, none⟩) (len - k) (cap - k)) rfl (Or.inl ⟨by rfl, by intro W hSw; have := sr W; go_simp⟩) hHeld ?_
        try simp only [Act.put, pS1, pS2, pS3]
        refine zW 3 (.int .i64 i) rfl (Or.inl ⟨by rfl, by intro w hSw; go_simp⟩) hHeld ?_
        try simp only [Act.put, pS1, pS2, pS3]
        refine zW 4 (.int .i64 k) rfl (Or.inl ⟨by rfl, by intro w hSw; go_simp⟩) hHeld ?_
        try simp only [Act.put, pS1, pS2, pS3]
        refine zW 5 (.int .i64 ((i : Int) - (k : Int))) rfl (Or.inl ⟨by rfl, by intro w hSw; go_simp⟩) hHeld ?_
        try simp only [Act.put, pS1, pS2, pS3]
        refine zW 7 (.slice (some ⟨g, o, none⟩) len cap) rfl (Or.inl ⟨by rfl, by intro w hSw; go_simp⟩) hHeld ?_
        try simp only [Act.put, pS1, pS2, pS3]
        refine zW 8 (.int .i64 k) rfl (Or.inl ⟨by rfl, by intro w hSw; go_simp⟩) hHeld ?_
        try simp only [Act.put, pS1, pS2, pS3]
        refine zW 9 (.slice (some ⟨g, o, none⟩) k cap) rfl (Or.inl ⟨by rfl, by intro W hSw; have := sl W; go_simp⟩) hHeld ?_
        try simp only [Act.put, pS1, pS2, pS3]
        refine wpAnyH_ready (rs := [6]) (by kernel_rfl) (by simp) ?_
        refine AllReadyH.cons (o := { dst := some 31, op := .call { callee := .value (.func 39), args := #[.tmp 27, .tmp 30], argTypes := #[38, 3] }, type := 38, pos := "ref.go:50", after := #[zD 2, zD 5], guard := none }) rfl (fun K hK => ?_) AllReadyH.nil
        go_simp
        refine (IH.out _ (Below.refl _ _).drew).mono ?_
        rintro e w4 ⟨x, cx, rfl, hx, hb4⟩
        have H4 : Hid (LReads w4 x m cx acc ∧ Below w.heap.size w w4) := ⟨hx, (Below.refl _ _).drew.trans hb4⟩
        clear hx hb4
        go_wp2_with fail
        refine hK.out _ _ trivial (fun hHeld => ?_)
        clear hK K
        try simp only [Act.put, pS1, pS2, pS3]
        refine wpAnyH_ready (rs := [10]) (by kernel_rfl) (by simp) ?_
        refine AllReadyH.cons (o := { dst := some 35, op := .call { callee := .value (.func 35), args := #[.tmp 34], argTypes := #[38] }, type := 24, pos := "ref.go:50", after := #[zD 9, zC 6], guard := none }) rfl (fun K hK => ?_) AllReadyH.nil
        go_simp
        refine (RR.out _ H4.out.2).mono ?_
        rintro e w8 ⟨rfl, hb8⟩
        have H8 : Hid (LReads w8 x m cx acc ∧ Below w.heap.size w w8) := ⟨H4.out.1.keep hb8, H4.out.2.trans (hb8.mono H4.out.2.size)⟩
        clear hb8
        go_wp2_with fail
        refine hK.out _ _ trivial (fun hHeld => ?_)
        clear hK K
        try simp only [Act.put, pS1, pS2, pS3]
        refine wpAnyH_ready (rs := [11]) (by kernel_rfl) (by simp) ?_
        refine AllReadyH.cons (o := { dst := some 36, op := .call { callee := .value (.func 63), args := #[.tmp 31, .tmp 35], argTypes := #[38, 24] }, type := 38, pos := "ref.go:50", after := #[zD 6, zD 10, zC 10], guard := none }) rfl (fun K hK => ?_) AllReadyH.nil
        go_simp
        refine (BH.out _ _ _ H8.out.1).mono ?_
        rintro e w9 ⟨y, cy, rfl, hy, hb9⟩
        have H9 : Hid (LReads w9 y (m + 1) cy (acc ++ [rt]) ∧ Below w.heap.size w w9) := ⟨hy, H8.out.2.trans (hb9.mono H8.out.2.size)⟩
        clear hy hb9
        go_wp2_with fail
        refine hK.out _ _ trivial (fun hHeld => ?_)
        clear hK K
        try simp only [Act.put, pS1, pS2, pS3]
        refine zW 12 (.slice y (m + 1) cy) rfl (Or.inl ⟨by rfl, by intro w hSw; go_simp⟩) hHeld ?_
        try simp only [Act.put, pS1, pS2, pS3]
        refine wpAnyH_done (by kernel_rfl) ?_ _
        go_wp2
        go_ret
        exact ⟨y, cy, rfl, H9.out⟩
attribute [local go_sem] store_func
def FI (gp gf : Nat) : Value := .func (.func 57) #[] #[.pointer (some ⟨gf, 0, none⟩), .pointer (some ⟨gp, 0, none⟩)]
set_option maxHeartbeats 2000000 in
theorem prove_any (n : Nat) (g o len cap i : Nat) (l acc : List (List UInt8)) (B gp gf : Nat) (v : Value) (w : World) (hn : len = n) (hR : LReads w (some ⟨g, o, none⟩) len cap l) (hg : g < B) (hi : i < len)
    (hp : B ≤ gp) (hne : gp ≠ gf) (hac : acc.length + len ≤ 1000000) (hBw : B ≤ w.heap.size) (hH : Holds B gp gf 100 (FI gp gf) v acc w) (hK : Table 1 w) (hKB : 1 < B) :
    Calls Tryz.prog 57 #[.slice (some ⟨g, o, none⟩) len cap, .int .i64 i, .pointer (some ⟨gf, 0, none⟩), .pointer (some ⟨gp, 0, none⟩)] w fun e w' =>
      e = .returned (.tuple #[]) ∧ (∃ v', Holds B gp gf 100 (FI gp gf) v' (acc ++ incl l i) w') ∧ Below B w w' := by
  induction n using Nat.strongRecOn generalizing g o len cap i l acc v w with
  | _ n ih =>
    subst hn
    have htf : 100 ≠ 24 := by decide
    have hlen := hR.1
    have hmx : len ≤ 9223372036854775807 := by have := hR.2.2.2.1; unfold maxLen at this; omega
    by_cases h1 : len = 1
    · subst h1
      rw [incl_one l i (by omega), List.append_nil]
      have HH : Hid (Holds B gp gf 100 (FI gp gf) v acc w) := hH
      clear hK hR ih hH hlen
      go_enter Tryz.func57, Tryz.ntmps57
      go_wp2
      refine bodyPost_ret (results_none rfl _ _ _) rfl ?_
      exact ⟨rfl, ⟨_, HH.out⟩, Below.refl _ _⟩
    · have h2 : 2 ≤ len := by omega
      obtain ⟨k, hk⟩ : ∃ k, k = split len := ⟨_, rfl⟩
      have hkl := split_lt len h2
      have hkp := split_pos len h2
      rw [← hk] at hkl hkp
      have hcl := hR.2.2.1
      have hml := hR.2.2.2.1
      have P : Hid (∀ W, Calls Tryz.prog 58 #[.slice (some ⟨g, o, none⟩) len cap] W fun e w' => e = .returned (.tuple #[.slice (some ⟨g, o, none⟩) k cap, .slice (some ⟨g, o + 32 * k, none⟩) (len - k) (cap - k)]) ∧ Below W.heap.size W w') := fun W => parted_any g o len cap k W hk h2 hcl hml
      have low : ∀ g' o', some (⟨g, o, none⟩ : Addr) = some ⟨g', o', none⟩ → 0 < len → g' < B := fun g' o' e _ => by cases e; exact hg
      by_cases hik : i < k
      · -- the left part
        have HE : Hid (acc ++ incl l i = (acc ++ incl (l.take k) i) ++ [root (l.drop k)]) := by
          show _ = _
          rw [incl_left l i (by omega) (by rw [hlen, ← hk]; exact hik), hlen, ← hk, List.append_assoc]
        have IH : Hid (∀ W v, Below B w W → Holds B gp gf 100 (FI gp gf) v acc W → Calls Tryz.prog 57 #[.slice (some ⟨g, o, none⟩) k cap, .int .i64 i, .pointer (some ⟨gf, 0, none⟩), .pointer (some ⟨gp, 0, none⟩)] W fun e w' =>
            e = .returned (.tuple #[]) ∧ (∃ v', Holds B gp gf 100 (FI gp gf) v' (acc ++ incl (l.take k) i) w') ∧ Below B W w') := fun W v hb hh => by
          exact ih k hkl g o k cap i (l.take k) acc v W rfl ((hR.below hb low).take k (by omega)) hg (by omega) (by omega) (Nat.le_trans hBw hb.size) hh (table_low hK hb hKB)
        obtain ⟨D, HD⟩ : ∃ D, Hid (D = (cellsOf (root (l.drop k))).toArray) := ⟨_, (rfl : (cellsOf (root (l.drop k))).toArray = _)⟩
        have hdd : (root (l.drop k)).length = 32 := root_length sumD_length _ (hR.2.1.drop k)
        have RR : Hid (∀ W, Below B w W → Calls Tryz.prog 49 #[.slice (some ⟨g, o + 32 * k, none⟩) (len - k) (cap - k)] W fun e w' => e = .returned (.agg D) ∧ Below W.heap.size W w') := fun W hb =>
          root_any _ _ _ _ (l.drop k) W rfl ((hR.below hb low).drop k (by omega)) (table_low hK hb hKB) D HD
        have hsh : (acc ++ incl (l.take k) i).length + 1 ≤ 1000000 := by
          have := incl_len (l.take k) i (by simp only [List.length_take, List.length_drop]; omega)
          simp only [List.length_append, List.length_take, List.length_drop] at this ⊢
          omega
        obtain ⟨acc2, HA2⟩ : ∃ x, Hid (x = acc ++ incl (l.take k) i) := ⟨_, (rfl : acc ++ incl (l.take k) i = _)⟩
        rw [← HA2.out] at HE hsh IH
        have HH0 : Hid (Holds B gp gf 100 (FI gp gf) v acc w) := hH
        have hdl : (decide ((i : Int) < (k : Int))) = true := by rw [decide_eq_true_eq]; omega
        clear hK hR ih hH hlen hk HA2 low hac
        go_enter Tryz.func57, Tryz.ntmps57
        go_wp2_with fail
        refine (P.out _).mono ?_
        rintro e w1 ⟨rfl, hb1⟩
        have HH1 : Hid (Holds B gp gf 100 (FI gp gf) v acc w1) := HH0.out.keep hb1
        have hB1 : Below B w w1 := hb1.mono hBw
        have hcf : w1.cell? ⟨gf, 0, none⟩ = some (.func (.func 57) #[] #[.pointer (some ⟨gf, 0, none⟩), .pointer (some ⟨gp, 0, none⟩)]) := cell_of_one HH1.out.prove
        clear hb1 P HH0
        go_wp2_with fail
        refine (IH.out _ _ hB1 HH1.out).mono ?_
        rintro e w2 ⟨rfl, ⟨v2, hh2⟩, hb2⟩
        have HH : Hid (Holds B gp gf 100 (FI gp gf) v2 acc2 w2.drew) := hh2.drew
        have hB : Below B w w2.drew := (hB1.trans hb2).drew
        clear hb2 hh2 hB1 HH1 hcf IH
        go_wp2
        refine wp_region_held_drew (S := (fun _ => True)) (by kernel_rfl) trivial (fun hHeld => ?_)
        refine zX 1 (.slice (some ⟨g, o + 32 * k, none⟩) (len - k) (cap - k)) rfl hHeld ?_
        try simp only [Act.put, pS1, pS2, pS3]
        refine wpAnyH_ready (rs := [0, 2]) (by kernel_rfl) (by simp) ?_
        refine (AllReadyH.cons (o := { dst := some 24, op := .load 38 (.tmp 3), type := 38, pos := "tree.go:51", after := #[], guard := none }) rfl (fun K hK => ?_) (AllReadyH.cons (o := { dst := some 26, op := .call { callee := .value (.func 49), args := #[.tmp 25], argTypes := #[38] }, type := 24, pos := "tree.go:51", after := #[zD 1], guard := none }) rfl (fun K hK => ?_) AllReadyH.nil))
        · have hc := cell_of_one HH.out.proof
          go_simp
          clear hc
          refine hK.out _ _ trivial (fun hHeld => ?_)
          clear hK K
          try simp only [Act.put, pS1, pS2, pS3]
          refine wpAnyH_ready (rs := [2]) (by kernel_rfl) (by simp) ?_
          refine (AllReadyH.cons (o := { dst := some 26, op := .call { callee := .value (.func 49), args := #[.tmp 25], argTypes := #[38] }, type := 24, pos := "tree.go:51", after := #[zD 1], guard := none }) rfl (fun K hK => ?_) AllReadyH.nil)
          go_simp
          refine (RR.out _ hB).mono ?_
          rintro e w2 ⟨rfl, hb2⟩
          replace HH := hidk (HH.out.keep hb2)
          replace hB := hB.trans (hb2.mono (Nat.le_trans hBw hB.size))
          go_wp2_with fail
          refine hK.out _ _ trivial (fun hHeld => ?_)
          clear hK K
          try simp only [Act.put, pS1, pS2, pS3]
          refine wpAnyH_ready (rs := [3]) (by kernel_rfl) (by simp) ?_
          refine (AllReadyH.cons (o := { dst := some 27, op := .buildSlice 38 1 #[(0, .tmp 26)], type := 38, pos := "tree.go:51", after := #[zD 2], guard := none }) rfl (fun K hK => ?_) AllReadyH.nil)
          refine step_build_run (by rfl) 38 1 _ rfl #[(0, .agg D)] rfl _ _ (build_one _ _ hdd D HD) ?_
          obtain ⟨gn, cn, w4, hrun, q1, q2, q3, q4⟩ := HH.out.append htf (Nat.le_trans hBw hB.size) hsh _ hdd D HD
          replace HH := hidk (HH.out.keep ((Below.refl _ _).alloc (Nat.le_refl _) (.cells D 24)))
          refine hK.out _ _ trivial (fun hHeld => ?_)
          clear hK K
          try simp only [Act.put, pS1, pS2, pS3]
          refine wpAnyH_ready (rs := [4]) (by kernel_rfl) (by simp) ?_
          refine (AllReadyH.cons (o := { dst := some 28, op := .call { callee := .builtin Builtin.append, args := #[.tmp 24, .tmp 27], argTypes := #[38, 38] }, type := 38, pos := "tree.go:51", after := #[zD 0, zD 3, zC 2], guard := none }) rfl (fun K hK => ?_) AllReadyH.nil)
          refine step_append_run rfl (.tmp 24) (.tmp 27) 38 38 rfl v2 _ _ w4 rfl rfl hrun ?_
          refine hK.out _ _ trivial (fun hHeld => ?_)
          clear hK K
          try simp only [Act.put, pS1, pS2, pS3]
          refine wpAnyH_ready (rs := [5]) (by kernel_rfl) (by simp) ?_
          refine (AllReadyH.cons (o := { dst := none, op := .store 38 (.tmp 3) (.tmp 28), type := 0, pos := "tree.go:51", after := #[zD 4, zC 4, zP 0, zP 1, zP 2, zP 3, zP 4], guard := none }) rfl (fun K hK => ?_) AllReadyH.nil)
          have hc := cell_of_one q1
          have hfz := free_of_one q1
          go_simp
          clear hc hfz
          refine hK.out _ _ trivial (fun hHeld => ?_)
          clear hK K
          try simp only [Act.put, pS1, pS2, pS3]
          refine wpAnyH_done (by kernel_rfl) ?_ _
          go_wp2
          first | go_end0 | (refine bodyPost_ret (results_none rfl _ _ _) rfl ?_)
          refine ⟨rfl, ⟨.slice (some ⟨gn, 0, none⟩) (acc2.length + 1) cn, ?_⟩, (hB.trans q4).setCell (by simpa using hp) _⟩
          rw [HE.out]
          exact Holds.put hne q1 q2 q3
        · go_simp
          refine (RR.out _ hB).mono ?_
          rintro e w2 ⟨rfl, hb2⟩
          replace HH := hidk (HH.out.keep hb2)
          replace hB := hB.trans (hb2.mono (Nat.le_trans hBw hB.size))
          go_wp2_with fail
          refine hK.out _ _ trivial (fun hHeld => ?_)
          clear hK K
          try simp only [Act.put, pS1, pS2, pS3]
          refine wpAnyH_ready (rs := [0, 3]) (by kernel_rfl) (by simp) ?_
          refine (AllReadyH.cons (o := { dst := some 24, op := .load 38 (.tmp 3), type := 38, pos := "tree.go:51", after := #[], guard := none }) rfl (fun K hK => ?_) (AllReadyH.cons (o := { dst := some 27, op := .buildSlice 38 1 #[(0, .tmp 26)], type := 38, pos := "tree.go:51", after := #[zD 2], guard := none }) rfl (fun K hK => ?_) AllReadyH.nil))
          · have hc := cell_of_one HH.out.proof
            go_simp
            clear hc
            refine hK.out _ _ trivial (fun hHeld => ?_)
            clear hK K
            try simp only [Act.put, pS1, pS2, pS3]
            refine wpAnyH_ready (rs := [3]) (by kernel_rfl) (by simp) ?_
            refine (AllReadyH.cons (o := { dst := some 27, op := .buildSlice 38 1 #[(0, .tmp 26)], type := 38, pos := "tree.go:51", after := #[zD 2], guard := none }) rfl (fun K hK => ?_) AllReadyH.nil)
            refine step_build_run (by rfl) 38 1 _ rfl #[(0, .agg D)] rfl _ _ (build_one _ _ hdd D HD) ?_
            obtain ⟨gn, cn, w4, hrun, q1, q2, q3, q4⟩ := HH.out.append htf (Nat.le_trans hBw hB.size) hsh _ hdd D HD
            replace HH := hidk (HH.out.keep ((Below.refl _ _).alloc (Nat.le_refl _) (.cells D 24)))
            refine hK.out _ _ trivial (fun hHeld => ?_)
            clear hK K
            try simp only [Act.put, pS1, pS2, pS3]
            refine wpAnyH_ready (rs := [4]) (by kernel_rfl) (by simp) ?_
            refine (AllReadyH.cons (o := { dst := some 28, op := .call { callee := .builtin Builtin.append, args := #[.tmp 24, .tmp 27], argTypes := #[38, 38] }, type := 38, pos := "tree.go:51", after := #[zD 0, zD 3, zC 2], guard := none }) rfl (fun K hK => ?_) AllReadyH.nil)
            refine step_append_run rfl (.tmp 24) (.tmp 27) 38 38 rfl v2 _ _ w4 rfl rfl hrun ?_
            refine hK.out _ _ trivial (fun hHeld => ?_)
            clear hK K
            try simp only [Act.put, pS1, pS2, pS3]
            refine wpAnyH_ready (rs := [5]) (by kernel_rfl) (by simp) ?_
            refine (AllReadyH.cons (o := { dst := none, op := .store 38 (.tmp 3) (.tmp 28), type := 0, pos := "tree.go:51", after := #[zD 4, zC 4, zP 0, zP 1, zP 2, zP 3, zP 4], guard := none }) rfl (fun K hK => ?_) AllReadyH.nil)
            have hc := cell_of_one q1
            have hfz := free_of_one q1
            go_simp
            clear hc hfz
            refine hK.out _ _ trivial (fun hHeld => ?_)
            clear hK K
            try simp only [Act.put, pS1, pS2, pS3]
            refine wpAnyH_done (by kernel_rfl) ?_ _
            go_wp2
            first | go_end0 | (refine bodyPost_ret (results_none rfl _ _ _) rfl ?_)
            refine ⟨rfl, ⟨.slice (some ⟨gn, 0, none⟩) (acc2.length + 1) cn, ?_⟩, (hB.trans q4).setCell (by simpa using hp) _⟩
            rw [HE.out]
            exact Holds.put hne q1 q2 q3
          · refine step_build_run (by rfl) 38 1 _ rfl #[(0, .agg D)] rfl _ _ (build_one _ _ hdd D HD) ?_
            obtain ⟨gn, cn, w4, hrun, q1, q2, q3, q4⟩ := HH.out.append htf (Nat.le_trans hBw hB.size) hsh _ hdd D HD
            replace HH := hidk (HH.out.keep ((Below.refl _ _).alloc (Nat.le_refl _) (.cells D 24)))
            refine hK.out _ _ trivial (fun hHeld => ?_)
            clear hK K
            try simp only [Act.put, pS1, pS2, pS3]
            refine wpAnyH_ready (rs := [0]) (by kernel_rfl) (by simp) ?_
            refine (AllReadyH.cons (o := { dst := some 24, op := .load 38 (.tmp 3), type := 38, pos := "tree.go:51", after := #[], guard := none }) rfl (fun K hK => ?_) AllReadyH.nil)
            have hc := cell_of_one HH.out.proof
            go_simp
            clear hc
            refine hK.out _ _ trivial (fun hHeld => ?_)
            clear hK K
            try simp only [Act.put, pS1, pS2, pS3]
            refine wpAnyH_ready (rs := [4]) (by kernel_rfl) (by simp) ?_
            refine (AllReadyH.cons (o := { dst := some 28, op := .call { callee := .builtin Builtin.append, args := #[.tmp 24, .tmp 27], argTypes := #[38, 38] }, type := 38, pos := "tree.go:51", after := #[zD 0, zD 3, zC 2], guard := none }) rfl (fun K hK => ?_) AllReadyH.nil)
            refine step_append_run rfl (.tmp 24) (.tmp 27) 38 38 rfl v2 _ _ w4 rfl rfl hrun ?_
            refine hK.out _ _ trivial (fun hHeld => ?_)
            clear hK K
            try simp only [Act.put, pS1, pS2, pS3]
            refine wpAnyH_ready (rs := [5]) (by kernel_rfl) (by simp) ?_
            refine (AllReadyH.cons (o := { dst := none, op := .store 38 (.tmp 3) (.tmp 28), type := 0, pos := "tree.go:51", after := #[zD 4, zC 4, zP 0, zP 1, zP 2, zP 3, zP 4], guard := none }) rfl (fun K hK => ?_) AllReadyH.nil)
            have hc := cell_of_one q1
            have hfz := free_of_one q1
            go_simp
            clear hc hfz
            refine hK.out _ _ trivial (fun hHeld => ?_)
            clear hK K
            try simp only [Act.put, pS1, pS2, pS3]
            refine wpAnyH_done (by kernel_rfl) ?_ _
            go_wp2
            first | go_end0 | (refine bodyPost_ret (results_none rfl _ _ _) rfl ?_)
            refine ⟨rfl, ⟨.slice (some ⟨gn, 0, none⟩) (acc2.length + 1) cn, ?_⟩, (hB.trans q4).setCell (by simpa using hp) _⟩
            rw [HE.out]
            exact Holds.put hne q1 q2 q3
      · -- the right part
        have HE : Hid (acc ++ incl l i = (acc ++ incl (l.drop k) (i - k)) ++ [root (l.take k)]) := by
          show _ = _
          rw [incl_right l i (by omega) (by rw [hlen, ← hk]; omega), hlen, ← hk, List.append_assoc]
        have IH : Hid (∀ W v, Below B w W → Holds B gp gf 100 (FI gp gf) v acc W → Calls Tryz.prog 57 #[.slice (some ⟨g, o + 32 * k, none⟩) (len - k) (cap - k), .int .i64 ((i : Int) - (k : Int)), .pointer (some ⟨gf, 0, none⟩), .pointer (some ⟨gp, 0, none⟩)] W fun e w' =>
            e = .returned (.tuple #[]) ∧ (∃ v', Holds B gp gf 100 (FI gp gf) v' (acc ++ incl (l.drop k) (i - k)) w') ∧ Below B W w') := fun W v hb hh => by
          rw [show ((i : Int) - (k : Int)) = ((i - k : Nat) : Int) by omega]
          exact ih (len - k) (by omega) g (o + 32 * k) (len - k) (cap - k) (i - k) (l.drop k) acc v W rfl ((hR.below hb low).drop k (by omega)) hg (by omega) (by omega) (Nat.le_trans hBw hb.size) hh (table_low hK hb hKB)
        obtain ⟨D, HD⟩ : ∃ D, Hid (D = (cellsOf (root (l.take k))).toArray) := ⟨_, (rfl : (cellsOf (root (l.take k))).toArray = _)⟩
        have hdd : (root (l.take k)).length = 32 := root_length sumD_length _ (hR.2.1.take k)
        have RR : Hid (∀ W, Below B w W → Calls Tryz.prog 49 #[.slice (some ⟨g, o, none⟩) k cap] W fun e w' => e = .returned (.agg D) ∧ Below W.heap.size W w') := fun W hb =>
          root_any _ _ _ _ (l.take k) W rfl ((hR.below hb low).take k (by omega)) (table_low hK hb hKB) D HD
        have hsh : (acc ++ incl (l.drop k) (i - k)).length + 1 ≤ 1000000 := by
          have := incl_len (l.drop k) (i - k) (by simp only [List.length_take, List.length_drop]; omega)
          simp only [List.length_append, List.length_take, List.length_drop] at this ⊢
          omega
        obtain ⟨acc2, HA2⟩ : ∃ x, Hid (x = acc ++ incl (l.drop k) (i - k)) := ⟨_, (rfl : acc ++ incl (l.drop k) (i - k) = _)⟩
        rw [← HA2.out] at HE hsh IH
        have HH0 : Hid (Holds B gp gf 100 (FI gp gf) v acc w) := hH
        have hw := wrap_int ((i : Int) - (k : Int)) (by omega) (by omega)
        have hdl : (decide ((i : Int) < (k : Int))) = false := by rw [decide_eq_false_iff_not]; omega
        clear hK hR ih hH hlen hk HA2 low hac
        go_enter Tryz.func57, Tryz.ntmps57
        go_wp2_with fail
        refine (P.out _).mono ?_
        rintro e w1 ⟨rfl, hb1⟩
        have HH1 : Hid (Holds B gp gf 100 (FI gp gf) v acc w1) := HH0.out.keep hb1
        have hB1 : Below B w w1 := hb1.mono hBw
        have hcf : w1.cell? ⟨gf, 0, none⟩ = some (.func (.func 57) #[] #[.pointer (some ⟨gf, 0, none⟩), .pointer (some ⟨gp, 0, none⟩)]) := cell_of_one HH1.out.prove
        clear hb1 P HH0
        go_wp2_with fail
        refine (IH.out _ _ hB1 HH1.out).mono ?_
        rintro e w2 ⟨rfl, ⟨v2, hh2⟩, hb2⟩
        have HH : Hid (Holds B gp gf 100 (FI gp gf) v2 acc2 w2.drew) := hh2.drew
        have hB : Below B w w2.drew := (hB1.trans hb2).drew
        clear hb2 hh2 hB1 HH1 hcf IH
        go_wp2
        refine wp_region_held_drew (S := (fun _ => True)) (by kernel_rfl) trivial (fun hHeld => ?_)
        refine zX 1 (.slice (some ⟨g, o, none⟩) k cap) rfl hHeld ?_
        try simp only [Act.put, pS1, pS2, pS3]
        refine wpAnyH_ready (rs := [0, 2]) (by kernel_rfl) (by simp) ?_
        refine (AllReadyH.cons (o := { dst := some 36, op := .load 38 (.tmp 3), type := 38, pos := "tree.go:55", after := #[], guard := none }) rfl (fun K hK => ?_) (AllReadyH.cons (o := { dst := some 38, op := .call { callee := .value (.func 49), args := #[.tmp 37], argTypes := #[38] }, type := 24, pos := "tree.go:55", after := #[zD 1], guard := none }) rfl (fun K hK => ?_) AllReadyH.nil))
        · have hc := cell_of_one HH.out.proof
          go_simp
          clear hc
          refine hK.out _ _ trivial (fun hHeld => ?_)
          clear hK K
          try simp only [Act.put, pS1, pS2, pS3]
          refine wpAnyH_ready (rs := [2]) (by kernel_rfl) (by simp) ?_
          refine (AllReadyH.cons (o := { dst := some 38, op := .call { callee := .value (.func 49), args := #[.tmp 37], argTypes := #[38] }, type := 24, pos := "tree.go:55", after := #[zD 1], guard := none }) rfl (fun K hK => ?_) AllReadyH.nil)
          go_simp
          refine (RR.out _ hB).mono ?_
          rintro e w2 ⟨rfl, hb2⟩
          replace HH := hidk (HH.out.keep hb2)
          replace hB := hB.trans (hb2.mono (Nat.le_trans hBw hB.size))
          go_wp2_with fail
          refine hK.out _ _ trivial (fun hHeld => ?_)
          clear hK K
          try simp only [Act.put, pS1, pS2, pS3]
          refine wpAnyH_ready (rs := [3]) (by kernel_rfl) (by simp) ?_
          refine (AllReadyH.cons (o := { dst := some 39, op := .buildSlice 38 1 #[(0, .tmp 38)], type := 38, pos := "tree.go:55", after := #[zD 2], guard := none }) rfl (fun K hK => ?_) AllReadyH.nil)
          refine step_build_run (by rfl) 38 1 _ rfl #[(0, .agg D)] rfl _ _ (build_one _ _ hdd D HD) ?_
          obtain ⟨gn, cn, w4, hrun, q1, q2, q3, q4⟩ := HH.out.append htf (Nat.le_trans hBw hB.size) hsh _ hdd D HD
          replace HH := hidk (HH.out.keep ((Below.refl _ _).alloc (Nat.le_refl _) (.cells D 24)))
          refine hK.out _ _ trivial (fun hHeld => ?_)
          clear hK K
          try simp only [Act.put, pS1, pS2, pS3]
          refine wpAnyH_ready (rs := [4]) (by kernel_rfl) (by simp) ?_
          refine (AllReadyH.cons (o := { dst := some 40, op := .call { callee := .builtin Builtin.append, args := #[.tmp 36, .tmp 39], argTypes := #[38, 38] }, type := 38, pos := "tree.go:55", after := #[zD 0, zD 3, zC 2], guard := none }) rfl (fun K hK => ?_) AllReadyH.nil)
          refine step_append_run rfl (.tmp 36) (.tmp 39) 38 38 rfl v2 _ _ w4 rfl rfl hrun ?_
          refine hK.out _ _ trivial (fun hHeld => ?_)
          clear hK K
          try simp only [Act.put, pS1, pS2, pS3]
          refine wpAnyH_ready (rs := [5]) (by kernel_rfl) (by simp) ?_
          refine (AllReadyH.cons (o := { dst := none, op := .store 38 (.tmp 3) (.tmp 40), type := 0, pos := "tree.go:55", after := #[zD 4, zC 4, zP 0, zP 1, zP 2, zP 3, zP 4], guard := none }) rfl (fun K hK => ?_) AllReadyH.nil)
          have hc := cell_of_one q1
          have hfz := free_of_one q1
          go_simp
          clear hc hfz
          refine hK.out _ _ trivial (fun hHeld => ?_)
          clear hK K
          try simp only [Act.put, pS1, pS2, pS3]
          refine wpAnyH_done (by kernel_rfl) ?_ _
          go_wp2
          first | go_end0 | (refine bodyPost_ret (results_none rfl _ _ _) rfl ?_)
          refine ⟨rfl, ⟨.slice (some ⟨gn, 0, none⟩) (acc2.length + 1) cn, ?_⟩, (hB.trans q4).setCell (by simpa using hp) _⟩
          rw [HE.out]
          exact Holds.put hne q1 q2 q3
        · go_simp
          refine (RR.out _ hB).mono ?_
          rintro e w2 ⟨rfl, hb2⟩
          replace HH := hidk (HH.out.keep hb2)
          replace hB := hB.trans (hb2.mono (Nat.le_trans hBw hB.size))
          go_wp2_with fail
          refine hK.out _ _ trivial (fun hHeld => ?_)
          clear hK K
          try simp only [Act.put, pS1, pS2, pS3]
          refine wpAnyH_ready (rs := [0, 3]) (by kernel_rfl) (by simp) ?_
          refine (AllReadyH.cons (o := { dst := some 36, op := .load 38 (.tmp 3), type := 38, pos := "tree.go:55", after := #[], guard := none }) rfl (fun K hK => ?_) (AllReadyH.cons (o := { dst := some 39, op := .buildSlice 38 1 #[(0, .tmp 38)], type := 38, pos := "tree.go:55", after := #[zD 2], guard := none }) rfl (fun K hK => ?_) AllReadyH.nil))
          · have hc := cell_of_one HH.out.proof
            go_simp
            clear hc
            refine hK.out _ _ trivial (fun hHeld => ?_)
            clear hK K
            try simp only [Act.put, pS1, pS2, pS3]
            refine wpAnyH_ready (rs := [3]) (by kernel_rfl) (by simp) ?_
            refine (AllReadyH.cons (o := { dst := some 39, op := .buildSlice 38 1 #[(0, .tmp 38)], type := 38, pos := "tree.go:55", after := #[zD 2], guard := none }) rfl (fun K hK => ?_) AllReadyH.nil)
            refine step_build_run (by rfl) 38 1 _ rfl #[(0, .agg D)] rfl _ _ (build_one _ _ hdd D HD) ?_
            obtain ⟨gn, cn, w4, hrun, q1, q2, q3, q4⟩ := HH.out.append htf (Nat.le_trans hBw hB.size) hsh _ hdd D HD
            replace HH := hidk (HH.out.keep ((Below.refl _ _).alloc (Nat.le_refl _) (.cells D 24)))
            refine hK.out _ _ trivial (fun hHeld => ?_)
            clear hK K
            try simp only [Act.put, pS1, pS2, pS3]
            refine wpAnyH_ready (rs := [4]) (by kernel_rfl) (by simp) ?_
            refine (AllReadyH.cons (o := { dst := some 40, op := .call { callee := .builtin Builtin.append, args := #[.tmp 36, .tmp 39], argTypes := #[38, 38] }, type := 38, pos := "tree.go:55", after := #[zD 0, zD 3, zC 2], guard := none }) rfl (fun K hK => ?_) AllReadyH.nil)
            refine step_append_run rfl (.tmp 36) (.tmp 39) 38 38 rfl v2 _ _ w4 rfl rfl hrun ?_
            refine hK.out _ _ trivial (fun hHeld => ?_)
            clear hK K
            try simp only [Act.put, pS1, pS2, pS3]
            refine wpAnyH_ready (rs := [5]) (by kernel_rfl) (by simp) ?_
            refine (AllReadyH.cons (o := { dst := none, op := .store 38 (.tmp 3) (.tmp 40), type := 0, pos := "tree.go:55", after := #[zD 4, zC 4, zP 0, zP 1, zP 2, zP 3, zP 4], guard := none }) rfl (fun K hK => ?_) AllReadyH.nil)
            have hc := cell_of_one q1
            have hfz := free_of_one q1
            go_simp
            clear hc hfz
            refine hK.out _ _ trivial (fun hHeld => ?_)
            clear hK K
            try simp only [Act.put, pS1, pS2, pS3]
            refine wpAnyH_done (by kernel_rfl) ?_ _
            go_wp2
            first | go_end0 | (refine bodyPost_ret (results_none rfl _ _ _) rfl ?_)
            refine ⟨rfl, ⟨.slice (some ⟨gn, 0, none⟩) (acc2.length + 1) cn, ?_⟩, (hB.trans q4).setCell (by simpa using hp) _⟩
            rw [HE.out]
            exact Holds.put hne q1 q2 q3
          · refine step_build_run (by rfl) 38 1 _ rfl #[(0, .agg D)] rfl _ _ (build_one _ _ hdd D HD) ?_
            obtain ⟨gn, cn, w4, hrun, q1, q2, q3, q4⟩ := HH.out.append htf (Nat.le_trans hBw hB.size) hsh _ hdd D HD
            replace HH := hidk (HH.out.keep ((Below.refl _ _).alloc (Nat.le_refl _) (.cells D 24)))
            refine hK.out _ _ trivial (fun hHeld => ?_)
            clear hK K
            try simp only [Act.put, pS1, pS2, pS3]
            refine wpAnyH_ready (rs := [0]) (by kernel_rfl) (by simp) ?_
            refine (AllReadyH.cons (o := { dst := some 36, op := .load 38 (.tmp 3), type := 38, pos := "tree.go:55", after := #[], guard := none }) rfl (fun K hK => ?_) AllReadyH.nil)
            have hc := cell_of_one HH.out.proof
            go_simp
            clear hc
            refine hK.out _ _ trivial (fun hHeld => ?_)
            clear hK K
            try simp only [Act.put, pS1, pS2, pS3]
            refine wpAnyH_ready (rs := [4]) (by kernel_rfl) (by simp) ?_
            refine (AllReadyH.cons (o := { dst := some 40, op := .call { callee := .builtin Builtin.append, args := #[.tmp 36, .tmp 39], argTypes := #[38, 38] }, type := 38, pos := "tree.go:55", after := #[zD 0, zD 3, zC 2], guard := none }) rfl (fun K hK => ?_) AllReadyH.nil)
            refine step_append_run rfl (.tmp 36) (.tmp 39) 38 38 rfl v2 _ _ w4 rfl rfl hrun ?_
            refine hK.out _ _ trivial (fun hHeld => ?_)
            clear hK K
            try simp only [Act.put, pS1, pS2, pS3]
            refine wpAnyH_ready (rs := [5]) (by kernel_rfl) (by simp) ?_
            refine (AllReadyH.cons (o := { dst := none, op := .store 38 (.tmp 3) (.tmp 40), type := 0, pos := "tree.go:55", after := #[zD 4, zC 4, zP 0, zP 1, zP 2, zP 3, zP 4], guard := none }) rfl (fun K hK => ?_) AllReadyH.nil)
            have hc := cell_of_one q1
            have hfz := free_of_one q1
            go_simp
            clear hc hfz
            refine hK.out _ _ trivial (fun hHeld => ?_)
            clear hK K
            try simp only [Act.put, pS1, pS2, pS3]
            refine wpAnyH_done (by kernel_rfl) ?_ _
            go_wp2
            first | go_end0 | (refine bodyPost_ret (results_none rfl _ _ _) rfl ?_)
            refine ⟨rfl, ⟨.slice (some ⟨gn, 0, none⟩) (acc2.length + 1) cn, ?_⟩, (hB.trans q4).setCell (by simpa using hp) _⟩
            rw [HE.out]
            exact Holds.put hne q1 q2 q3
set_option maxHeartbeats 1000000 in
theorem inclusion_out (a : Option Addr) (len cap : Nat) (i : Int) (w : World) (hm : len ≤ maxLen) (hi : i < 0 ∨ (len : Int) ≤ i) :
    Calls Tryz.prog 33 #[.slice a len cap, .int .i64 i] w fun e w' => e = .returned (.tuple #[.slice none 0 0, .int .i64 20]) ∧ Below w.heap.size w w' := by
  by_cases h0 : i < 0
  · have hd : decide (i < 0) = true := by rw [decide_eq_true_eq]; exact h0
    go_enter Tryz.func33, Tryz.ntmps33
    go_wp2
    go_ret2
    exact ⟨rfl, Below.refl _ _⟩
  · have hd : decide (i < 0) = false := by rw [decide_eq_false_iff_not]; exact h0
    have hd2 : decide ((len : Int) ≤ i) = true := by rw [decide_eq_true_eq]; omega
    go_enter Tryz.func33, Tryz.ntmps33
    go_wp2
    go_ret2
    exact ⟨rfl, Below.refl _ _⟩
set_option maxHeartbeats 1000000 in
theorem inclusion_in (a : Option Addr) (len cap : Nat) (l : List (List UInt8)) (i : Nat) (w : World) (hR : LReads w a len cap l) (hi : i < len) (hl : len ≤ 100000) (hK : Table 1 w) :
    Calls Tryz.prog 33 #[.slice a len cap, .int .i64 i] w fun e w' => ∃ v, e = .returned (.tuple #[v, .int .i64 0]) ∧ w'.ownsRow w.heap.size 24 32 v (incl l i).length (cellsOf (incl l i).flatten) ∧ Below w.heap.size w w' := by
  obtain ⟨g, o, rfl, hg⟩ := hR.at (by omega)
  have hd : decide ((i : Int) < 0) = false := by rw [decide_eq_false_iff_not]; omega
  have hd2 : decide ((len : Int) ≤ (i : Int)) = false := by rw [decide_eq_false_iff_not]; omega
  have hK0 := hK.1
  have hd3 : decide (len ≤ i) = false := by rw [decide_eq_false_iff_not]; omega
  have PV : Hid (∀ W, Below w.heap.size w W → Holds w.heap.size w.heap.size (w.heap.size + 1) 100 (FI w.heap.size (w.heap.size + 1)) (.slice none 0 0) [] W →
      Calls Tryz.prog 57 #[.slice (some ⟨g, o, none⟩) len cap, .int .i64 i, .pointer (some ⟨w.heap.size + 1, 0, none⟩), .pointer (some ⟨w.heap.size, 0, none⟩)] W fun e w' =>
      e = .returned (.tuple #[]) ∧ (∃ v', Holds w.heap.size w.heap.size (w.heap.size + 1) 100 (FI w.heap.size (w.heap.size + 1)) v' (incl l i) w') ∧ Below w.heap.size W w') := fun W hb hh =>
    prove_any len g o len cap i l [] w.heap.size w.heap.size (w.heap.size + 1) _ W rfl (hR.keep hb) hg hi (Nat.le_refl _) (by omega) (by simp; omega) hb.size hh (hK.keep hb) hK0
  have HS : Hid (Holds w.heap.size w.heap.size (w.heap.size + 1) 100 (FI w.heap.size (w.heap.size + 1)) (.slice none 0 0) [] ((w.alloc (.cells #[.slice none 0 0] 38)).alloc (.cells #[FI w.heap.size (w.heap.size + 1)] 100))) :=
    ⟨heap_alloc2_old w _ _, heap_alloc2_new w _ _, World.ownsRow_nil _ _ _ _⟩
  have HB : Hid (Below w.heap.size w ((w.alloc (.cells #[.slice none 0 0] 38)).alloc (.cells #[FI w.heap.size (w.heap.size + 1)] 100))) := ((Below.refl _ _).alloc (Nat.le_refl _) _).alloc (by simp) _
  clear hK hR
  go_enter Tryz.func33, Tryz.ntmps33
  go_wp2_with fail
  refine (PV.out _ HB.out HS.out).mono ?_
  rintro e w2 ⟨rfl, ⟨v, hh⟩, hb2⟩
  have hcv := cell_of_one hh.proof
  have HO : Hid (w2.ownsRow w.heap.size 24 32 v (incl l i).length (cellsOf (incl l i).flatten) ∧ Below w.heap.size w w2) := ⟨hh.own, HB.out.trans hb2⟩
  clear hh hb2 PV HS HB
  go_wp2
  go_ret2
  exact ⟨v, rfl, HO.out⟩
end Go.Proofs.YtkmedlfbkddmoaaGreatDoor
/- What tree.Consistency answers: the proof of a beginning. -/
namespace Go.Proofs.YtkmedlfbkddmoaaGreatDoor
open Go.RowKit Sums
set_option maxRecDepth 100000
set_option linter.unusedVariables false
set_option linter.unusedSimpArgs false
attribute [local go_sem] store_func
end Go.Proofs.YtkmedlfbkddmoaaGreatDoor
/- Laws of memory: variables that are arrays, made, read and written where the order is drawn; digests and texts held against one another. -/
namespace Go.Proofs.YtkmedlfbkddmoaaGreatDoor.P5
open Go.RowKit Sums
set_option maxRecDepth 100000
set_option linter.unusedVariables false
set_option linter.unusedSimpArgs false
def Came (w W : World) (X Z : Array Value) : Prop := Below w.heap.size w W ∧ W.heap[w.heap.size]? = some (.cells X 24 (0, 0)) ∧ W.heap[w.heap.size + 1]? = some (.cells Z 24 (0, 0))
theorem came (w : World) (X Z : Array Value) : Came w ((w.alloc (.cells X 24)).alloc (.cells Z 24)) X Z := by
  refine ⟨(((Below.refl _ _).alloc (Nat.le_refl _) _).alloc (by simp) _), heap_keep (heap_alloc_new w _), ?_⟩
  have := heap_alloc_new (w.alloc (.cells X 24)) (.cells Z 24)
  simpa using this
theorem Came.keep {w W W' : World} {X Z : Array Value} (h : Came w W X Z) (hb : Below W.heap.size W W') : Came w W' X Z :=
  ⟨h.1.trans (hb.mono h.1.size), (hb.block _ (heap_lt h.2.1)).trans h.2.1, (hb.block _ (heap_lt h.2.2)).trans h.2.2⟩
theorem yieldsIf_row {P : Program} {ops : Array Oper} {S : World → Prop} {o : Oper} {a : Act} (hw : Region.wanted o (yielded ops a.tmps) = true) (ty : TypeId) (x : Operand) (ho : o.op = .load ty x) (g : Nat) (hx : a.eval x = .pointer (some ⟨g, 0, none⟩)) (t : TypeId) (cs : Array Value) (fr : Nat × Nat) (d : TypeDesc) (hg : ∀ w, S w → w.heap[g]? = some (.cells cs t fr))
    (hu : P.underlying ty = some d) (hd : d.isRow = true) (hi : (P.info? ty).map (·.size) = some cs.size) : YieldsIf P ops S o (.agg cs) a := by
  have := yieldsIf_load_mid (P := P) (ops := ops) (S := S) hw ty x ho g 0 hx cs.toList d (fun w h => range_row (t := t) (fr := fr) (by simpa using hg w h)) hu hd (by simpa using hi)
  simpa using this
structure Wrote (g : Nat) (D : Array Value) (t : TypeId) (w w' : World) : Prop where
  row : w'.heap[g]? = some (.cells D t (0, 0))
  other : ∀ k, k ≠ g → w'.heap[k]? = w.heap[k]?
  below : ∀ (B : Nat) (a : World), Below B a w → B ≤ g → Below B a w'
theorem wrote_row {w : World} {g : Nat} {Z D : Array Value} {t : TypeId} (h : w.heap[g]? = some (.cells Z t (0, 0))) : Wrote g D t w (w.setRow g D) :=
  ⟨setRow_heap _ _ _ _ t _ h, fun k hk => setRow_other _ _ _ _ hk, fun B a hb hg => below_setRow hb hg _⟩
structure Made (g : Nat) (Z : Array Value) (t : TypeId) (w w' : World) : Prop where
  new : g = w.heap.size
  row : w'.heap[g]? = some (.cells Z t (0, 0))
  below : Below w.heap.size w w'
theorem step_set_var {P : Program} {ops : Array Oper} {o : Oper} {a : Act} {w : World} {K : Act → World → Prop} {Q : Exit → Act → World → Prop} {E : Prop} (hw : Region.wanted o (yielded ops a.tmps) = true) (t : TypeId) (x y : Operand) (ho : o.op = .store t x y)
    (g : Nat) (D : Array Value) (hx : a.eval x = .pointer (some ⟨g, 0, none⟩)) (hy : a.eval y = .agg D) (t' : TypeId) (Z : Array Value) (hg : w.heap[g]? = some (.cells Z t' (0, 0))) (hi : (P.info? t).map (·.size) = some D.size) (hold : Z.size = D.size) (h1 : D.all (·.oneCell') = true)
    (h : ∀ w', Hid (Wrote g D t' w w') → K (a.put o.dst undef) w') : if Region.wanted o (yielded ops a.tmps) = true then Oper.wp P o a w K Q else E :=
  step_store_row hw t x y ho g D hx hy t' Z hg hi hold h1 (h _ (wrote_row hg))
theorem alloc_size (w : World) (o : Obj) : (w.alloc o).heap.size = w.heap.size + 1 := by simp
theorem beqL (xs ys : List UInt8) : (xs == ys) = decide (xs = ys) := by by_cases h : xs = ys <;> simp [h]
theorem eqDigV (xs ys : List UInt8) (hx : xs.length = 32) (hy : ys.length = 32) (X Y : Array Value) (HX : Hid (X = (cellsOf xs).toArray)) (HY : Hid (Y = (cellsOf ys).toArray)) (b : Bool) (hb : decide (xs = ys) = b) (w : World) : (binOp .eql 24 (.agg X) (.agg Y)).run Tryz.prog w = .ok (.bool b) w := by
  rw [HX.out, HY.out, eqDig xs ys hx hy, ← hb, beqL]
theorem neqDigV (xs ys : List UInt8) (hx : xs.length = 32) (hy : ys.length = 32) (X Y : Array Value) (HX : Hid (X = (cellsOf xs).toArray)) (HY : Hid (Y = (cellsOf ys).toArray)) (b : Bool) (hb : (!decide (xs = ys)) = b) (w : World) : (binOp .neq 24 (.agg X) (.agg Y)).run Tryz.prog w = .ok (.bool b) w := by
  have h : (Op.equalIn (9998 + 2) 24 (.agg (cellsOf xs).toArray) (.agg (cellsOf ys).toArray)).run Tryz.prog w = .ok (xs == ys) w := run_equalIn_bytes (P := Tryz.prog) w 9998 24 5 32 Tryz.underlying24 Tryz.underlying5 sizeOf5 xs ys hx hy
  rw [run_neq_struct, HX.out, HY.out]
  simp only [Nat.reduceAdd] at h
  rw [h, ← hb, beqL]
  rfl
def CameR (w W : World) (R X Y : Array Value) : Prop := Below w.heap.size w W ∧ W.heap[w.heap.size]? = some (.cells R 24 (0, 0)) ∧ W.heap[w.heap.size + 1]? = some (.cells X 24 (0, 0)) ∧ W.heap[w.heap.size + 2]? = some (.cells Y 24 (0, 0))
theorem CameR.keep {w W W' : World} {R X Y : Array Value} (h : CameR w W R X Y) (hb : Below W.heap.size W W') : CameR w W' R X Y :=
  ⟨h.1.trans (hb.mono h.1.size), (hb.block _ (heap_lt h.2.1)).trans h.2.1, (hb.block _ (heap_lt h.2.2.1)).trans h.2.2.1, (hb.block _ (heap_lt h.2.2.2)).trans h.2.2.2⟩
end Go.Proofs.YtkmedlfbkddmoaaGreatDoor.P5
/- What check's own small functions answer: a proof that must have so many digests, a proof parted from its last one; knots, and their sums and texts. -/
namespace Go.Proofs.YtkmedlfbkddmoaaGreatDoor.P5
open Go.RowKit Sums
set_option maxRecDepth 100000
set_option linter.unusedVariables false
set_option linter.unusedSimpArgs false
theorem wpList_new_var {P : Program} {ops : Array Oper} {rest : List Oper} {o : Oper} {a : Act} {w : World} {Q : Exit → Act → World → Prop} (hg : o.guard = none) (t : TypeId) (ho : o.op = .alloc t)
    (cs : Array Value) (hz : (P.info? t).map (fun i => (i.zero, i.size)) = some (some (.agg cs), cs.size)) (h : ∀ g w', Hid (Made g cs t w w') → wpList P ops Q rest (a.put o.dst (.pointer (some ⟨g, 0, none⟩))) w') : wpList P ops Q (o :: rest) a w :=
  wpList_alloc_row hg t ho cs hz (h w.heap.size _ ⟨rfl, heap_alloc_new w _, (Below.refl _ _).alloc (Nat.le_refl _) _⟩)
theorem wpList_set_var {P : Program} {ops : Array Oper} {rest : List Oper} {o : Oper} {a : Act} {w : World} {Q : Exit → Act → World → Prop} (hgd : o.guard = none) (t : TypeId) (x y : Operand) (ho : o.op = .store t x y)
    (g : Nat) (D : Array Value) (hx : a.eval x = .pointer (some ⟨g, 0, none⟩)) (hy : a.eval y = .agg D) (t' : TypeId) (Z : Array Value) (hg : w.heap[g]? = some (.cells Z t' (0, 0))) (hi : (P.info? t).map (·.size) = some D.size) (hold : Z.size = D.size) (h1 : D.all (·.oneCell') = true)
    (h : ∀ w', Hid (Wrote g D t' w w') → wpList P ops Q rest (a.put o.dst undef) w') : wpList P ops Q (o :: rest) a w :=
  wpList_store_row hgd t x y ho g D hx hy t' Z hg hi hold h1 (h _ (wrote_row hg))
theorem results_tmp_row {P : Program} {fn : Func} {p q : Tmp} {ty : TypeId} (h : fn.results = #[.tmp q, .cell p ty]) (tmps : Array Value) (w : World) (g : Nat) (t : TypeId) (cs : Array Value) (fr : Nat × Nat) (d : TypeDesc)
    (hp : tmps.getD p undef = .pointer (some ⟨g, 0, none⟩)) (hg : w.heap[g]? = some (.cells cs t fr))
    (hu : P.underlying ty = some d) (hd : (match d with | .struct _ | .array _ _ => true | _ => false) = true) (hi : (P.info? ty).map (·.size) = some cs.size) :
    (results fn tmps).run P w = .ok (.tuple #[tmps.getD q undef, .agg cs]) w := by
  have hp' : tmps[p]?.getD undef = .pointer (some ⟨g, 0, none⟩) := by simpa using hp
  simp [results, h, hp', asAddr, run_loadVar_row w g t ty cs fr d hg hu hd hi]
theorem yieldsIf_mid {P : Program} {ops : Array Oper} {S : World → Prop} {op : Oper} {a : Act} (hw : Region.wanted op (yielded ops a.tmps) = true) (ty : TypeId) (x : Operand) (ho : op.op = .load ty x)
    (b o : Nat) (hx : a.eval x = .pointer (some ⟨b, o, none⟩)) (D : Array Value) (d : TypeDesc) (hS : ∀ w, S w → w.rangeAt b o D.toList)
    (hu : P.underlying ty = some d) (hd : d.isRow = true) (hi : (P.info? ty).map (·.size) = some D.size) : YieldsIf P ops S op (.agg D) a := by
  have := yieldsIf_load_mid (P := P) (ops := ops) (S := S) hw ty x ho b o hx D.toList d hS hu hd (by simpa using hi)
  simpa using this
theorem wpList_mid {P : Program} {ops : Array Oper} {rest : List Oper} {op : Oper} {a : Act} {w : World} {Q : Exit → Act → World → Prop} (hgd : op.guard = none) (ty : TypeId) (x : Operand) (ho : op.op = .load ty x)
    (b o : Nat) (hx : a.eval x = .pointer (some ⟨b, o, none⟩)) (D : Array Value) (d : TypeDesc) (hc : w.rangeAt b o D.toList)
    (hu : P.underlying ty = some d) (hd : d.isRow = true) (hi : (P.info? ty).map (·.size) = some D.size)
    (h : wpList P ops Q rest (a.put op.dst (.agg D)) w) : wpList P ops Q (op :: rest) a w :=
  wpList_load_mid hgd ty x ho b o hx D.toList d hc hu hd (by simpa using hi) (by simpa using h)
theorem yieldsIf_build {P : Program} {ops : Array Oper} {S : World → Prop} {o : Oper} {a : Act} (hw : Region.wanted o (yielded ops a.tmps) = true) (t : TypeId) (parts : Array (Nat × Operand)) (ho : o.op = .build t parts) (vals : Array (Nat × Value)) (hv : (parts.toList.map fun p => (p.1, a.eval p.2)) = vals.toList)
    (v : Value) (hrun : ∀ W, (Instr.build t vals).run P W = .ok v W) : YieldsIf P ops S o v a :=
  .inl ⟨hw, fun w _ => by
    have hv' : (parts.map fun (i, x) => (i, a.eval x)) = vals := by
      apply Array.ext'
      rw [Array.toList_map, ← hv]
    subst hv'
    unfold execOp
    simp only [ho, Sem.run_bind, hrun, Result.andThen_ok]
    rfl⟩
theorem infoK : (Tryz.prog.info? 146).map (fun i => (i.zero, i.size, i.bytes)) = some (some (.agg (cellsOf (List.replicate 64 0)).toArray), 64, 64) := by kernel_rfl
theorem sizeK : (Tryz.prog.info? 146).map (·.size) = some 64 := by
  obtain ⟨i, hi, _, hs, _⟩ := info_parts infoK
  rw [hi, Option.map_some, hs]
theorem noughtsK : ∃ Z : Array Value, Hid (Z = (cellsOf (List.replicate 64 0)).toArray) ∧ Hid ((Tryz.prog.info? 146).map (fun i => (i.zero, i.size)) = some (some (.agg Z), Z.size)) ∧ Hid (Z.size = 64) := by
  refine ⟨(cellsOf (List.replicate 64 0)).toArray, (rfl : _ = _), ?_, (rfl : _ = _)⟩
  obtain ⟨i, hi, hz, hs, _⟩ := info_parts infoK
  show _ = _
  rw [hi, Option.map_some, hz, hs]
  rfl
theorem knot_row (l : List UInt8) (hl : l.length = 64) : ∃ D : Array Value, Hid (D = (cellsOf l).toArray) ∧ Hid ((Tryz.prog.info? 146).map (·.size) = some D.size) ∧ Hid (D.all (·.oneCell') = true) ∧ Hid (D.size = 64) := by
  refine ⟨(cellsOf l).toArray, (rfl : _ = _), ?_, cellsOf_all l, ?_⟩
  · show _ = _
    rw [sizeK]; simp [cellsOf_length, hl]
  · show _ = _
    simp [cellsOf_length, hl]
theorem fill_put (place : Nat → Option (Nat × Nat)) (i off n : Nat) (D cs : Array Value) (pre old post : List Value) (more : List (Nat × Value)) (hp : place i = some (off, n)) (hn : D.size = n) (hcs : cs.toList = pre ++ old ++ post) (hpre : pre.length = off) (hold : old.length = n) :
    Instr.fill place cs ((i, .agg D) :: more) = Instr.fill place (pre ++ D.toList ++ post).toArray more := by
  have hsz : (Value.agg D).cells.size = n := hn
  have hcz : cs.size = off + n + post.length := by rw [← Array.length_toList, hcs]; simp only [List.length_append, hpre, hold]
  conv => lhs; unfold Instr.fill
  simp only [hp, hsz]
  rw [if_neg (by simp; omega)]
  congr 1
  apply Array.ext'
  have := fold_setD D.toList 0 off cs pre old post hcs (by omega) (by rw [hold, Array.length_toList, hn])
  rw [← this, ← Array.foldl_toList]
  congr 2
  simp [Value.cells]
theorem builtK (A B K : Array Value) (hA : A.size = 32) (hB : B.size = 32) (hK : K.toList = A.toList ++ B.toList) : Tryz.prog.built 146 [(0, .agg A), (1, .agg B)] = some K := by
  obtain ⟨i, hi, hz, hs, _⟩ := info_parts infoK
  obtain ⟨j, hj, _, hjs, _⟩ := info_parts infoD
  obtain ⟨Z, hZ⟩ : ∃ Z, Z = List.replicate 32 (0 : UInt8) := ⟨_, rfl⟩
  have hZ32 : (cellsOf Z).length = 32 := by rw [cellsOf_length, hZ]; rfl
  have e : (cellsOf (List.replicate 64 0)).toArray = (cellsOf Z ++ cellsOf Z).toArray := by rw [hZ, ← cellsOf_append]; rfl
  rw [e] at hz
  unfold Program.built
  simp only [hi, Tryz.underlying146, hz, List.mapM_cons, List.mapM_nil, hj, hjs, Option.map_some, Option.bind_eq_bind, Option.bind_some, Option.pure_def]
  show Instr.fill _ (cellsOf Z ++ cellsOf Z).toArray _ = some K
  refine (fill_put _ 0 0 32 A _ [] (cellsOf Z) (cellsOf Z) _ rfl hA rfl rfl hZ32).trans ?_
  refine (fill_put _ 1 32 32 B _ A.toList (cellsOf Z) [] _ rfl hB (by simp) (by simpa using hA) hZ32).trans ?_
  simp only [Instr.fill, List.append_nil, Option.some.injEq]
  exact Array.ext' hK.symm
theorem build_knot (w : World) (A B K : Array Value) (hA : A.size = 32) (hB : B.size = 32) (hK : K.toList = A.toList ++ B.toList) : (Instr.build 146 #[(0, .agg A), (1, .agg B)]).run Tryz.prog w = .ok (.agg K) w := run_build w 146 _ K (builtK A B K hA hB hK)
theorem range_knot {W : World} {g : Nat} {l r : List UInt8} {t : TypeId} {fr : Nat × Nat} (hl : l.length = 32) (h : W.heap[g]? = some (.cells (cellsOf (l ++ r)).toArray t fr)) : W.rangeAt g 0 (cellsOf l) ∧ W.rangeAt g 32 (cellsOf r) := by
  refine ⟨fun j v hj => ?_, fun j v hj => ?_⟩
  · have hlt := (List.getElem?_eq_some_iff.1 hj).1
    rw [Nat.zero_add, cell_of_row W g j _ t fr h]
    simp only [List.getElem?_toArray, cellsOf_append]
    rw [List.getElem?_append_left hlt, hj]
  · rw [cell_of_row W g _ _ t fr h]
    simp only [List.getElem?_toArray, cellsOf_append]
    rw [List.getElem?_append_right (by rw [cellsOf_length]; omega), cellsOf_length, hl, Nat.add_sub_cancel_left, hj]
theorem must_ok (n : Nat) (a : Option Addr) (len cap : Nat) (w : World) (h : len = n) (hl : len ≤ maxLen) :
    Calls Tryz.prog 101 #[.int .i64 n, .slice a len cap] w fun e w' => e = .returned (.tuple #[]) ∧ w' = w := by
  subst h
  have hlx : len ≤ 9223372036854775807 := by unfold maxLen at hl; omega
  clear hl
  go_enter Tryz.func101, Tryz.ntmps101
  go_wp2
  go_end0
  exact ⟨rfl, rfl⟩
theorem must_no (n : Nat) (a : Option Addr) (len cap : Nat) (w : World) (h : len ≠ n) (hl : len ≤ maxLen) :
    Calls Tryz.prog 101 #[.int .i64 n, .slice a len cap] w fun e w' => (∃ u p, e = .panicked [{ v := .iface u p, recovered := false }]) ∧ w' = w := by
  have hlx : len ≤ 9223372036854775807 := by unfold maxLen at hl; omega
  have hne : ((len : Int) != (n : Int)) = true := by rw [bne_iff_ne]; omega
  clear hl h
  go_enter Tryz.func101, Tryz.ntmps101
  go_wp2
  exact ⟨rfl, ⟨_, _, rfl⟩, rfl⟩
set_option maxHeartbeats 1000000 in
theorem cut_no (a : Option Addr) (cap : Nat) (w : World) :
    Calls Tryz.prog 102 #[.slice a 0 cap] w fun e w' => (∃ u p, e = .panicked [{ v := .iface u p, recovered := false }]) ∧ Below w.heap.size w w' := by
  obtain ⟨Z, HZ, HA, HS, H1, H32⟩ := noughts27
  go_enter Tryz.func102, Tryz.ntmps102
  go_wp2_with (first
    | (refine wpList_alloc_row rfl 24 rfl Z HA.out ?_)
    | fail)
  exact ⟨rfl, ⟨_, _, rfl⟩, (Below.refl _ _).alloc (Nat.le_refl _) _⟩
set_option maxHeartbeats 1000000 in
theorem cut_ok (g o m cap : Nat) (l : List (List UInt8)) (d : List UInt8) (w : World) (hR : LReads w (some ⟨g, o, none⟩) (m + 1) cap (l ++ [d])) (D : Array Value) (HD : Hid (D = (cellsOf d).toArray)) :
    Calls Tryz.prog 102 #[.slice (some ⟨g, o, none⟩) (m + 1) cap] w fun e w' => e = .returned (.tuple #[.slice (some ⟨g, o, none⟩) m cap, .agg D]) ∧ Below w.heap.size w w' := by
  obtain ⟨Z, HZ, HA, HS, H1, H32⟩ := noughts27
  have hd : d.length = 32 := hR.2.1 d (by simp)
  have HSD : Hid ((Tryz.prog.info? 24).map (·.size) = some D.size) := by show _ = _; rw [size23, HD.out]; simp [cellsOf_length, hd]
  have H1D : Hid (D.all (·.oneCell') = true) := by show _ = _; rw [HD.out]; exact cellsOf_all _
  have HZD : Hid (Z.size = D.size) := by show _ = _; rw [H32.out, HD.out]; simp [cellsOf_length, hd]
  have hlm : l.length = m := by have := hR.1; simpa using this
  have hcap : m + 1 ≤ cap := hR.2.2.1
  have hlx : m + 1 ≤ 9223372036854775807 := by have := hR.2.2.2.1; unfold maxLen at this; omega
  have e0 : (l ++ [d])[m]'(by simp; omega) = d := by simp [← hlm]
  have HRG : Hid (w.rangeAt g (o + 32 * m) D.toList) := by
    have := hR.range m (by simp; omega)
    rw [e0] at this
    rw [HD.out]; exact this
  have hgl : g < w.heap.size := by
    obtain ⟨g', o', e, h⟩ := hR.at (by omega)
    cases e
    exact h
  have HW0 : Hid (Below w.heap.size w (w.alloc (.cells Z 24)).drew ∧ (w.alloc (.cells Z 24)).drew.heap[w.heap.size]? = some (.cells Z 24 (0, 0))) := ⟨((Below.refl _ _).alloc (Nat.le_refl _) _).drew, heap_alloc_new w _⟩
  have slc : ∀ W, (Instr.sliceAt 38 (.slice (some ⟨g, o, none⟩) (m + 1) cap) none (some (.int .i64 (m : Int))) none).run Tryz.prog W = .ok (.slice (some ⟨g, o, none⟩) m cap) W := fun W => slice_left W g o (m + 1) cap m (by omega)
  have idx : ∀ W, (Instr.indexAt 38 (.slice (some ⟨g, o, none⟩) (m + 1) cap) (.int .i64 (m : Int))).run Tryz.prog W = .ok (.pointer (some ⟨g, o + 32 * m, none⟩)) W := fun W => index_list W g o (m + 1) cap m .i64 (by omega)
  have wr := wrap_int ((m : Int)) (by omega) (by omega)
  have c0 : (((m : Int) + 1) == 0) = false := by rw [beq_eq_false_iff_ne]; omega
  have c1 : (m : Int) + 1 - 1 = (m : Int) := by omega
  clear hR HD
  go_enter Tryz.func102, Tryz.ntmps102
  go_wp2_with (first
    | (refine wpList_alloc_row rfl 24 rfl Z HA.out ?_)
    | fail)
  refine wp_region_held_drew (S := (fun W => W.rangeAt g (o + 32 * m) D.toList)) (by kernel_rfl) (range_keep HW0.out.1 HRG.out) (fun hHeld => ?_)
  refine zX 0 (.slice (some ⟨g, o, none⟩) (m + 1) cap) rfl hHeld ?_
  try simp only [Act.put, pS1, pS2, pS3]
  refine zX 1 (.int .i64 (m : Int)) rfl hHeld ?_
  try simp only [Act.put, pS1, pS2, pS3]
  refine zW 2 (.slice (some ⟨g, o, none⟩) m cap) rfl (Or.inl ⟨by rfl, by intro W hSw; have := slc W; go_simp⟩) hHeld ?_
  try simp only [Act.put, pS1, pS2, pS3]
  refine zX 3 (.slice (some ⟨g, o, none⟩) (m + 1) cap) rfl hHeld ?_
  try simp only [Act.put, pS1, pS2, pS3]
  refine zX 4 (.int .i64 (m : Int)) rfl hHeld ?_
  try simp only [Act.put, pS1, pS2, pS3]
  refine zW 5 (.pointer (some ⟨g, o + 32 * m, none⟩)) rfl (Or.inl ⟨by rfl, by intro W hSw; have := idx W; go_simp⟩) hHeld ?_
  try simp only [Act.put, pS1, pS2, pS3]
  refine zW 6 (.agg D) rfl (yieldsIf_mid (by rfl) 24 (.tmp 17) rfl g (o + 32 * m) rfl D _ (fun _ h => h) Tryz.underlying24 rfl HSD.out) hHeld ?_
  try simp only [Act.put, pS1, pS2, pS3]
  refine zX 7 (.slice (some ⟨g, o, none⟩) m cap) rfl hHeld ?_
  try simp only [Act.put, pS1, pS2, pS3]
  refine wpAnyH_ready (rs := [8]) (by kernel_rfl) (by simp) ?_
  refine (AllReadyH.cons (o := { dst := none, op := .store 24 (.tmp 3) (.tmp 18), type := 0, pos := "check.go:149", after := #[zD 6, zC 7, zP 0, zP 1, zP 2, zP 3, zP 4, zP 5, zP 6, zP 7], guard := none }) rfl (fun K hK => ?_) AllReadyH.nil)
  refine step_store_row (by rfl) 24 (.tmp 3) (.tmp 18) rfl w.heap.size D rfl rfl 24 Z HW0.out.2 HSD.out HZD.out H1D.out ?_
  refine hK.out _ _ (range_other hHeld (by omega)) (fun hHeld => ?_)
  clear hK K
  try simp only [Act.put, pS1, pS2, pS3]
  refine wpAnyH_done (by kernel_rfl) ?_ _
  go_wp2
  refine bodyPost_ret (v := .tuple #[.slice (some ⟨g, o, none⟩) m cap, .agg D]) ?_ rfl ⟨rfl, below_setRow HW0.out.1 (Nat.le_refl _) _⟩
  exact results_tmp_row (p := 3) (q := 2) (ty := 24) rfl _ _ w.heap.size 24 D (0, 0) _ rfl (setRow_heap _ _ _ _ 24 _ HW0.out.2) Tryz.underlying24 rfl HSD.out
set_option maxHeartbeats 1000000 in
theorem sum_any (l r : List UInt8) (hl : l.length = 32) (hr : r.length = 32) (w : World) (hK : Table 1 w) (KK : Array Value) (HKK : Hid (KK = (cellsOf (l ++ r)).toArray)) (D : Array Value) (HD : Hid (D = (cellsOf (knotD l r)).toArray)) :
    Calls Tryz.prog 103 #[.agg KK] w fun e w' => e = .returned (.agg D) ∧ Below w.heap.size w w' := by
  obtain ⟨Z, HZ, HA, HS, H1, H32⟩ := noughts27
  obtain ⟨L, HL, HSL, H1L, H32L⟩ := dig_row' l hl
  obtain ⟨R, HR, HSR, H1R, H32R⟩ := dig_row' r hr
  have HSD : Hid ((Tryz.prog.info? 24).map (·.size) = some D.size) := by show _ = _; rw [size23, HD.out]; simp [cellsOf_length, knotD, sumD_length]
  have H1D : Hid (D.all (·.oneCell') = true) := by show _ = _; rw [HD.out]; exact cellsOf_all _
  have HZD : Hid (Z.size = D.size) := by show _ = _; rw [H32.out, HD.out]; simp [cellsOf_length, knotD, sumD_length]
  have HW0 : Hid (((w.alloc (.cells KK 146)).alloc (.cells Z 24)).rangeAt w.heap.size 0 L.toList ∧ ((w.alloc (.cells KK 146)).alloc (.cells Z 24)).rangeAt w.heap.size 32 R.toList ∧ Below w.heap.size w ((w.alloc (.cells KK 146)).alloc (.cells Z 24)) ∧ ((w.alloc (.cells KK 146)).alloc (.cells Z 24)).heap[w.heap.size + 1]? = some (.cells Z 24 (0, 0))) := by
    have h : ((w.alloc (.cells KK 146)).alloc (.cells Z 24)).heap[w.heap.size]? = some (.cells KK 146 (0, 0)) := heap_keep (heap_alloc_new w _)
    rw [HKK.out] at h
    have h2 := range_knot hl h
    rw [HL.out, HR.out]
    exact ⟨by rw [HKK.out]; exact h2.1, by rw [HKK.out]; exact h2.2, ((Below.refl _ _).alloc (Nat.le_refl _) _).alloc (by simp) _, by have := heap_alloc_new (w.alloc (.cells KK 146)) (.cells Z 24); simpa using this⟩
  have KN : Hid (∀ W, Below w.heap.size w W → Calls Tryz.prog 81 #[.agg L, .agg R] W fun e w' => e = .returned (.agg D) ∧ Below W.heap.size W w') := fun W hb => by
    rw [HL.out, HR.out]
    exact knot_any l r hl hr W (hK.keep hb) D HD
  clear hK HKK HD
  go_enter Tryz.func103, Tryz.ntmps103
  go_wp2_with (first
    | (refine wpList_alloc_row rfl 24 rfl Z HA.out ?_)
    | (refine wpList_mid rfl 24 (.tmp 3) rfl w.heap.size 0 rfl L _ HW0.out.1 Tryz.underlying24 rfl HSL.out ?_)
    | (refine wpList_mid rfl 24 (.tmp 5) rfl w.heap.size 32 rfl R _ HW0.out.2.1 Tryz.underlying24 rfl HSR.out ?_)
    | fail)
  refine (KN.out _ HW0.out.2.2.1).mono ?_
  rintro e w1 ⟨rfl, hb1⟩
  have HG : Hid (w1.heap[w.heap.size + 1]? = some (.cells Z 24 (0, 0))) := (hb1.block _ (heap_lt HW0.out.2.2.2)).trans HW0.out.2.2.2
  have hB : Below w.heap.size w w1 := HW0.out.2.2.1.trans (hb1.mono HW0.out.2.2.1.size)
  clear hb1 HW0
  go_wp2_with (first
    | (refine wpList_store_row rfl 24 (.tmp 2) (.tmp 7) rfl (w.heap.size + 1) D rfl rfl 24 Z HG.out HSD.out HZD.out H1D.out ?_)
    | fail)
  refine bodyPost_ret (v := .agg D) ?_ rfl ⟨rfl, below_setRow hB (by simp) _⟩
  exact results_cell_row (p := 2) (ty := 24) rfl _ _ (w.heap.size + 1) 24 D (0, 0) _ rfl (setRow_heap _ _ _ _ 24 _ HG.out) Tryz.underlying24 rfl HSD.out
theorem slice_at (w : World) (g o : Nat) : (Instr.sliceAt 24 (.pointer (some ⟨g, o, none⟩)) none none none).run Tryz.prog w = .ok (.slice (some ⟨g, o, none⟩) 32 32) w := by
  simp [Instr.sliceAt, Instr.slice, Instr.sliceBounds, run_underlying Tryz.underlying24, Instr.sureAddr]
  rw [add_plain]
  simp
theorem conv_at (W : World) (g o : Nat) (l : List UInt8) (hl : l.length = 32) (h : W.rangeAt g o (cellsOf l)) : Sem.run Tryz.prog (convert 69 9 (.slice (some ⟨g, o, none⟩) 32 32)) W = .ok (.string ⟨l.toArray⟩) W := by
  have := run_convert_bytes_back (P := Tryz.prog) W 69 9 5 ⟨g, o, none⟩ 32 l Tryz.underlying69 Tryz.underlying5 Tryz.underlying9 (fun j hj => by
    rw [add_plain]
    exact h j _ (cellsOf_at l j hj))
  rw [hl] at this
  exact this
end Go.Proofs.YtkmedlfbkddmoaaGreatDoor.P5
/- Knots in memory: a list of them that grows in a variable, beside the variables of the calls that make it grow. -/
namespace Go.Proofs.YtkmedlfbkddmoaaGreatDoor.P5
open Go.RowKit Sums
set_option maxRecDepth 100000
set_option linter.unusedVariables false
set_option linter.unusedSimpArgs false
structure Grew (gk : Nat) (v v' : Value) (w w' : World) : Prop where
  os : w'.os = w.os
  tape : w'.tape = w.tape
  output : w'.output = w.output
  size : w.heap.size ≤ w'.heap.size
  block : ∀ k, k < w.heap.size → k ≠ gk → some k ≠ v.ownBlock → w'.heap[k]? = w.heap[k]?
  mine : v'.ownBlock = v.ownBlock ∨ ∃ k, v'.ownBlock = some k ∧ w.heap.size ≤ k
theorem Grew.of {gk : Nat} {v : Value} {w w' : World} (h : Below w.heap.size w w') : Grew gk v v w w' := ⟨h.os, h.tape, h.output, h.size, fun k hk _ _ => h.block k hk, .inl rfl⟩
theorem Grew.trans {gk : Nat} {v v1 v2 : Value} {w w1 w2 : World} (h : Grew gk v v1 w w1) (k : Grew gk v1 v2 w1 w2) : Grew gk v v2 w w2 := by
  refine ⟨k.os.trans h.os, k.tape.trans h.tape, k.output.trans h.output, Nat.le_trans h.size k.size, fun j hj h1 h2 => ?_, ?_⟩
  · refine (k.block j (Nat.lt_of_lt_of_le hj h.size) h1 ?_).trans (h.block j hj h1 h2)
    rcases h.mine with e | ⟨q, e, hq⟩
    · rw [e]; exact h2
    · rw [e]; intro e'; cases e'; omega
  · rcases k.mine with e | ⟨q, e, hq⟩
    · rw [e]; exact h.mine
    · exact .inr ⟨q, e, Nat.le_trans h.size hq⟩
theorem Grew.below {gk B : Nat} {v v' : Value} {w w' : World} (h : Grew gk v v' w w') (hB : B ≤ w.heap.size) (hg : B ≤ gk) (hv : ∀ k, v.ownBlock = some k → B ≤ k) : Below B w w' :=
  ⟨h.os, h.tape, h.output, h.size, fun k hk => h.block k (by omega) (by omega) (fun e => by have := hv k e.symm; omega)⟩
theorem Grew.new {gk y : Nat} {v v' : Value} {w w' : World} (h : Grew gk v v' w w') (hy : y < w.heap.size) (hv : some y ≠ v.ownBlock) : some y ≠ v'.ownBlock := by
  rcases h.mine with e | ⟨q, e, hq⟩
  · rw [e]; exact hv
  · rw [e]; intro e'; cases e'; omega
theorem Grew.wrote {gk g : Nat} {v v' : Value} {w w1 w2 : World} {D : Array Value} {t : TypeId} (h : Grew gk v v' w w1) (hw : Wrote g D t w1 w2) (hg : w.heap.size ≤ g) : Grew gk v v' w w2 := by
  have hb := hw.below w.heap.size w1 (Below.refl _ _) hg
  exact ⟨hb.os.trans h.os, hb.tape.trans h.tape, hb.output.trans h.output, Nat.le_trans h.size hb.size, fun k hk h1 h2 => (hb.block k hk).trans (h.block k hk h1 h2), h.mine⟩
structure KH (B gl gf gk : Nat) (X : Array Value) (F v : Value) (l : List (List UInt8)) (w : World) : Prop where
  leaf : w.heap[gl]? = some (.cells X 24 (0, 0))
  fn : w.heap[gf]? = some (.cells #[F] 141 (0, 0))
  var : w.heap[gk]? = some (.cells #[v] 114 (0, 0))
  own : w.ownsRow B 146 64 v l.length (cellsOf l.flatten)
theorem own_apart {B : Nat} {v : Value} {n : Nat} {xs : List Value} {w : World} {b : Nat} {c : Array Value} {t : TypeId} {m : Nat × Nat} (h : w.ownsRow B 146 64 v n xs) (hb : w.heap[b]? = some (.cells c t m)) (ht : t ≠ 146) : some b ≠ v.ownBlock := by
  intro e
  rcases h.2 with ⟨rfl, _⟩ | ⟨g, cap, cur, rfl, _, hgb, _⟩
  · simp [Value.ownBlock] at e
  · obtain rfl : b = g := by simpa [Value.ownBlock] using e
    rw [hgb] at hb
    cases hb
    exact ht rfl
theorem KH.keep {B gl gf gk : Nat} {X : Array Value} {F v : Value} {l : List (List UInt8)} {w w' : World} (h : KH B gl gf gk X F v l w) (hb : Below w.heap.size w w') : KH B gl gf gk X F v l w' :=
  ⟨(hb.block _ (heap_lt h.leaf)).trans h.leaf, (hb.block _ (heap_lt h.fn)).trans h.fn, (hb.block _ (heap_lt h.var)).trans h.var, own_below h.own hb⟩
theorem KH.drew {B gl gf gk : Nat} {X : Array Value} {F v : Value} {l : List (List UInt8)} {w : World} (h : KH B gl gf gk X F v l w) : KH B gl gf gk X F v l w.drew := ⟨h.leaf, h.fn, h.var, h.own⟩
theorem KH.wrote {B gl gf gk g : Nat} {X : Array Value} {F v : Value} {l : List (List UInt8)} {w w' : World} {D : Array Value} {t : TypeId} (h : KH B gl gf gk X F v l w) (hw : Wrote g D t w w') (h1 : g ≠ gl) (h2 : g ≠ gf) (h3 : g ≠ gk) (h4 : some g ≠ v.ownBlock) : KH B gl gf gk X F v l w' := by
  have hb := hw.below 0 w (Below.refl _ _) (Nat.zero_le _)
  refine ⟨(hw.other _ (Ne.symm h1)).trans h.leaf, (hw.other _ (Ne.symm h2)).trans h.fn, (hw.other _ (Ne.symm h3)).trans h.var, ?_⟩
  exact h.own.kept (row := some g) ⟨hb.os, hb.tape, hb.output, hb.size, fun k _ hk => hw.other k (fun e => hk (by rw [e]))⟩ (.inr (Ne.symm h4))
theorem run_append_knot (W : World) (B : Nat) (v : Value) (l : List (List UInt8)) (k : List UInt8) (hk : k.length = 64) (hown : W.ownsRow B 146 64 v l.length (cellsOf l.flatten)) (a : Addr)
    (hN : ∀ j u, (cellsOf k)[j]? = some u → W.cell? (a.add j) = some u) (hB : B ≤ W.heap.size) (hlen : l.length + 1 ≤ 1000000) :
    ∃ v' w', (Builtin.append_ #[114, 114] 114 #[v, .slice (some a) 1 1]).run Tryz.prog W = .ok v' w' ∧ w'.ownsRow B 146 64 v' (l ++ [k]).length (cellsOf (l ++ [k]).flatten) ∧ W.grownBy w' v.ownBlock ∧ (v'.ownBlock = v.ownBlock ∨ ∃ q, v'.ownBlock = some q ∧ W.heap.size ≤ q) := by
  obtain ⟨i0, hi, hz0, hz1, hz2⟩ := info_parts infoK
  have hl1 : (cellsOf k).length = 1 * 64 := by rw [cellsOf_length, hk]
  have hu : Tryz.prog.underlying 114 = some (.slice 146) := Tryz.underlying114
  obtain ⟨v', w', hr, ho, hg, _⟩ := run_append_own (P := Tryz.prog) W B 114 114 146 i0 _ 64 64 hu hi hz0 hz1 hz2 (by rfl) (by decide) v l.length _ hown a 1 1 (cellsOf k)
    hl1 hN (cellsOf_one _) (by unfold maxLen; omega) (by omega) hB
  refine ⟨v', w', hr, ?_, hg, ?_⟩
  · rw [List.length_append, List.flatten_append, cellsOf_append]
    simpa using ho
  · have hi1 : (cellsOf k).length = 1 * i0.size := by rw [hz1, hl1]
    rcases hown.2 with ⟨rfl, h0⟩ | ⟨g, cap, cur, rfl, hbg, hgg, hnc, hcm, hcs, htake⟩
    · have := run_append_nil (P := Tryz.prog) W 114 114 146 i0 _ hu hi hz0 a 1 1 (cellsOf k) hi1 hN (by omega) (by omega) (by omega)
      rw [hr] at this
      cases this
      exact .inr ⟨W.heap.size, rfl, Nat.le_refl _⟩
    · by_cases hroom : l.length + 1 ≤ cap
      · have := run_append_room (P := Tryz.prog) W 114 114 146 i0 hu hi g l.length cap cur hgg a 1 1 (cellsOf k) hi1 hN (cellsOf_one _) hroom (by rw [hz1, hl1, hcs]; omega)
        rw [hr] at this
        cases this
        exact .inl rfl
      · have hx : (cellsOf l.flatten).length = l.length * i0.size := by rw [hz1]; exact hown.1
        have := run_append_grow (P := Tryz.prog) W 114 114 146 i0 _ hu hi hz0 ⟨g, 0, none⟩ l.length cap (cellsOf l.flatten) hx (hown.cells (g := g) rfl) a 1 1 (cellsOf k) hi1 hN (by omega) (by omega) (growslice_fits (by omega) (by rw [hz2]; omega))
        rw [hr] at this
        cases this
        exact .inr ⟨W.heap.size, rfl, Nat.le_refl _⟩
theorem build_oneK (w : World) (k : List UInt8) (hk : k.length = 64) (D : Array Value) (HD : Hid (D = (cellsOf k).toArray)) :
    (Instr.buildSlice 114 1 #[(0, .agg D)]).run Tryz.prog w = .ok (.slice (some ⟨w.heap.size, 0, none⟩) 1 1) (w.alloc (.cells D 146)) := by
  obtain ⟨i0, hi, hz0, hz1, hz2⟩ := info_parts infoK
  refine run_buildSlice w 114 146 1 _ _ i0 _ Tryz.underlying114 hi hz0 (by rw [hz1]; omega) (by rw [hz1]; omega) ?_
  rw [hz1]
  generalize hcs : Array.map _ (Array.range (1 * 64)) = cs
  have hcz : cs.size = 64 := by rw [← hcs]; simp
  have hD : D.size = 64 := by rw [HD.out]; simp [cellsOf_length, hk]
  refine (fill_put _ 0 0 64 D cs [] cs.toList [] [] rfl hD (by simp) rfl (by simpa using hcz)).trans ?_
  simp [Instr.fill]
theorem KH.append {B gl gf gk : Nat} {X : Array Value} {F v : Value} {l : List (List UInt8)} {w : World} (h : KH B gl gf gk X F v l w) (hlk : gl ≠ gk) (hfk : gf ≠ gk) (hB : B ≤ w.heap.size) (hlen : l.length + 1 ≤ 1000000) (k : List UInt8) (hk : k.length = 64) (D : Array Value) (HD : Hid (D = (cellsOf k).toArray)) :
    ∃ v' w', (Builtin.append_ #[114, 114] 114 #[v, .slice (some ⟨w.heap.size, 0, none⟩) 1 1]).run Tryz.prog (w.alloc (.cells D 146)) = .ok v' w' ∧
      w'.heap[gk]? = some (.cells #[v] 114 (0, 0)) ∧ KH B gl gf gk X F v' (l ++ [k]) (w'.setCell ⟨gk, 0, none⟩ v') ∧ Grew gk v v' w (w'.setCell ⟨gk, 0, none⟩ v') := by
  have hb0 : Below w.heap.size w (w.alloc (.cells D 146)) := (Below.refl _ _).alloc (Nat.le_refl _) _
  have h' := h.keep hb0
  obtain ⟨v', w', hr, ho, hg, hm⟩ := run_append_knot (w.alloc (.cells D 146)) B v l k hk h'.own ⟨w.heap.size, 0, none⟩ (by
    intro j u hj
    rw [add_plain, Nat.zero_add, cell_of_row _ _ j _ 146 (0, 0) (heap_alloc_new w _), HD.out]
    simpa using hj) (Nat.le_trans hB (by simp)) hlen
  have q1 : w'.heap[gk]? = some (.cells #[v] 114 (0, 0)) := (hg.block _ (heap_lt h'.var) (own_apart h'.own h'.var (by decide))).trans h'.var
  have q2 : w'.heap[gf]? = some (.cells #[F] 141 (0, 0)) := (hg.block _ (heap_lt h'.fn) (own_apart h'.own h'.fn (by decide))).trans h'.fn
  have q3 : w'.heap[gl]? = some (.cells X 24 (0, 0)) := (hg.block _ (heap_lt h'.leaf) (own_apart h'.own h'.leaf (by decide))).trans h'.leaf
  refine ⟨v', w', hr, q1, ⟨?_, ?_, one_setCell q1, ?_⟩, ?_⟩
  · rw [Below.heap_setCell _ _ _ _ (by simpa using hlk)]; exact q3
  · rw [Below.heap_setCell _ _ _ _ (by simpa using hfk)]; exact q2
  · exact ownsRow_setCell_other ho (own_apart ho q1 (by decide)).symm v'
  · refine ⟨hg.os, hg.tape, hg.output, ?_, fun j hj h1 h2 => ?_, ?_⟩
    · have := hg.size
      simp [World.setCell] at this ⊢
      omega
    · rw [Below.heap_setCell _ _ _ _ (by simpa using h1)]
      exact (hg.block j (by simp; omega) h2).trans (hb0.block j hj)
    · rcases hm with e | ⟨q, e, hq⟩
      · exact .inl e
      · exact .inr ⟨q, e, by simp at hq; omega⟩
end Go.Proofs.YtkmedlfbkddmoaaGreatDoor.P5
/- What check.leafMakes answers: what a leaf and a proof make, and the knots on the way; or it gives up. -/
namespace Go.Proofs.YtkmedlfbkddmoaaGreatDoor.P5
open Go.RowKit Sums
set_option maxRecDepth 100000
set_option linter.unusedVariables false
set_option linter.unusedSimpArgs false
attribute [local go_sem] store_func
set_option maxHeartbeats 4000000 in
theorem down_no (r : List (List UInt8)) : ∀ (S I : Nat) (x : List UInt8) (a : Option Addr) (len cap gl gf gk : Nat) (w : World) (hS1 : 1 ≤ S) (hS : S ≤ 100000) (hI : I < S) (hR : LReads w a len cap r.reverse)
    (hF : w.heap[gf]? = some (.cells #[.func (.func 100) #[] #[.pointer (some ⟨gl, 0, none⟩), .pointer (some ⟨gf, 0, none⟩), .pointer (some ⟨gk, 0, none⟩)]] 141 (0, 0))) (hm : (mkR r S I x).2 = false),
    Calls Tryz.prog 100 #[.int .i64 S, .int .i64 I, .slice a len cap, .pointer (some ⟨gl, 0, none⟩), .pointer (some ⟨gf, 0, none⟩), .pointer (some ⟨gk, 0, none⟩)] w fun e w' => (∃ u p, e = .panicked [{ v := .iface u p, recovered := false }]) ∧ Below w.heap.size w w' := by
  induction r with
  | nil =>
    intro S I x a len cap gl gf gk w hS1 hS hI hR hF hm
    have hl : len = 0 := by have := hR.1; simpa using this.symm
    subst hl
    have h1 : S ≠ 1 := fun e => by subst e; simp [mkR] at hm
    obtain ⟨Z, HZ, HA, HS, H1, H32⟩ := noughts27
    have c1 : ((S : Int) == 1) = false := by rw [beq_eq_false_iff_ne]; omega
    have SP : Hid (∀ W, Calls Tryz.prog 89 #[.int .i64 (S : Int)] W fun e w' => e = .returned (.int .i64 (split S : Nat)) ∧ W = w') := fun W => by
      have := split_any (S : Int) W (by omega)
      rwa [Int.toNat_natCast] at this
    clear hm hF hR
    go_enter Tryz.func100, Tryz.ntmps100
    go_wp2_with (first
      | (show aD 9 _ _ _ _ _ _ _ _ _ _ _; refine wpList_new_var rfl 24 rfl Z HA.out ?_; intro g9 w1 HM9; try simp only [Act.put, pS1, pS2, pS3])
      | fail)
    refine (SP.out _).mono ?_
    rintro e w2 ⟨rfl, rfl⟩
    go_wp2_with fail
    refine (cut_no _ _ _).mono ?_
    rintro e w3 ⟨⟨u, p, rfl⟩, hb3⟩
    exact ⟨rfl, ⟨_, _, rfl⟩, HM9.out.below.trans (hb3.mono HM9.out.below.size)⟩
  | cons d r ih =>
    intro S I x a len cap gl gf gk w hS1 hS hI hR hF hm
    obtain ⟨Z, HZ, HA, HS, H1, H32⟩ := noughts27
    obtain ⟨ZK, HZK, HAK, H32K⟩ := noughtsK
    have hlen : r.length + 1 = len := by have := hR.1; simpa using this
    obtain ⟨m, hmm⟩ : ∃ m, m = r.length := ⟨_, rfl⟩
    obtain rfl : len = m + 1 := by omega
    have hml := hR.2.2.2.1
    by_cases h1 : S = 1
    · subst h1
      have MU : Hid (∀ W, Calls Tryz.prog 101 #[.int .i64 0, .slice a (m + 1) cap] W fun e w' => (∃ u p, e = .panicked [{ v := .iface u p, recovered := false }]) ∧ w' = W) := fun W => must_no 0 a (m + 1) cap W (by omega) hml
      clear hm hF hR ih
      go_enter Tryz.func100, Tryz.ntmps100
      go_wp2_with (first
        | (show aD 9 _ _ _ _ _ _ _ _ _ _ _; refine wpList_new_var rfl 24 rfl Z HA.out ?_; intro g9 w1 HM9; try simp only [Act.put, pS1, pS2, pS3])
        | fail)
      refine (MU.out _).mono ?_
      rintro e w2 ⟨⟨u, p, rfl⟩, rfl⟩
      exact ⟨rfl, ⟨_, _, rfl⟩, HM9.out.below⟩
    · have c1 : ((S : Int) == 1) = false := by rw [beq_eq_false_iff_ne]; omega
      obtain ⟨k, hk⟩ : ∃ k, k = split S := ⟨_, rfl⟩
      have hkl := split_lt S (by omega)
      have hkp := split_pos S (by omega)
      rw [← hk] at hkl hkp
      have SP : Hid (∀ W, Calls Tryz.prog 89 #[.int .i64 (S : Int)] W fun e w' => e = .returned (.int .i64 (k : Nat)) ∧ W = w') := fun W => by
        have := split_any (S : Int) W (by omega)
        rw [Int.toNat_natCast, ← hk] at this
        exact this
      obtain ⟨g, o, rfl, hgl⟩ := hR.at (by omega)
      have hRr : (d :: r).reverse = r.reverse ++ [d] := by simp
      have hd : d.length = 32 := hR.2.1 d (by simp)
      obtain ⟨D, HD, HSD, H1D, H32D⟩ := dig_row' d hd
      have HZD : Hid (Z.size = D.size) := by show _ = _; rw [H32.out, H32D.out]
      rw [hRr] at hR
      have CU : Hid (∀ W, Below w.heap.size w W → Calls Tryz.prog 102 #[.slice (some ⟨g, o, none⟩) (m + 1) cap] W fun e w' => e = .returned (.tuple #[.slice (some ⟨g, o, none⟩) m cap, .agg D]) ∧ Below W.heap.size W w') := fun W hb =>
        cut_ok g o m cap r.reverse d W (hR.keep hb) D HD
      have RR : ∀ W, Below w.heap.size w W → LReads W (some ⟨g, o, none⟩) m cap r.reverse := fun W hb => by
        have := (hR.keep hb).take m (by omega)
        rwa [List.take_left' (by simp [hmm])] at this
      have FN : Hid (∀ W, Below w.heap.size w W → W.cell? ⟨gf, 0, none⟩ = some (.func (.func 100) #[] #[.pointer (some ⟨gl, 0, none⟩), .pointer (some ⟨gf, 0, none⟩), .pointer (some ⟨gk, 0, none⟩)])) := fun W hb => cell_of_one ((hb.block _ (heap_lt hF)).trans hF)
      have FH : ∀ W, Below w.heap.size w W → W.heap[gf]? = some (.cells #[.func (.func 100) #[] #[.pointer (some ⟨gl, 0, none⟩), .pointer (some ⟨gf, 0, none⟩), .pointer (some ⟨gk, 0, none⟩)]] 141 (0, 0)) := fun W hb => (hb.block _ (heap_lt hF)).trans hF
      by_cases hik : I < k
      · -- the left part
        have hm1 : (mkR r k I x).2 = false := by rw [mkR_left d r S I x h1 (by rw [← hk]; exact hik), ← hk] at hm; exact hm
        have IH : Hid (∀ W, Below w.heap.size w W → Calls Tryz.prog 100 #[.int .i64 (k : Int), .int .i64 (I : Int), .slice (some ⟨g, o, none⟩) m cap, .pointer (some ⟨gl, 0, none⟩), .pointer (some ⟨gf, 0, none⟩), .pointer (some ⟨gk, 0, none⟩)] W fun e w' => (∃ u p, e = .panicked [{ v := .iface u p, recovered := false }]) ∧ Below W.heap.size W w') := fun W hb => ih k I x (some ⟨g, o, none⟩) m cap gl gf gk W hkp (by omega) hik (RR W hb) (FH W hb) hm1
        have hdl : (decide ((I : Int) < (k : Int))) = true := by rw [decide_eq_true_eq]; omega
        clear hm hm1 hF hR ih FH RR hk hmm hRr
        go_enter Tryz.func100, Tryz.ntmps100
        go_wp2_with (first
          | (show aD 9 _ _ _ _ _ _ _ _ _ _ _; refine wpList_new_var rfl 24 rfl Z HA.out ?_; intro g9 w1 HM9; try simp only [Act.put, pS1, pS2, pS3])
          | fail)
        refine (SP.out _).mono ?_
        rintro e w2 ⟨rfl, rfl⟩
        go_wp2_with fail
        refine (CU.out _ HM9.out.below).mono ?_
        rintro e w3 ⟨rfl, hb3⟩
        have HB3 := hidk (HM9.out.below.trans (hb3.mono HM9.out.below.size))
        clear hb3 HM9 SP CU
        go_wp2_with (first
          | (show aD 12 _ _ _ _ _ _ _ _ _ _ _; refine wpList_new_var rfl 24 rfl Z HA.out ?_; intro g12 w4 HM12; try simp only [Act.put, pS1, pS2, pS3])
          | (refine wpList_set_var rfl 24 (.tmp 12) (.tmp 25) rfl g12 D rfl rfl 24 Z HM12.out.row HSD.out HZD.out H1D.out ?_; intro w5 HW12; try simp only [Act.put, pS1, pS2, pS3])
          | (show aD 13 _ _ _ _ _ _ _ _ _ _ _; refine wpList_new_var rfl 146 rfl ZK HAK.out ?_; intro g13 w6 HM13; try simp only [Act.put, pS1, pS2, pS3])
          | fail)
        have hg12 : w.heap.size ≤ g12 := by rw [HM12.out.new]; exact HB3.out.size
        have HB5 := hidk (HW12.out.below w.heap.size w (HB3.out.trans (HM12.out.below.mono HB3.out.size)) hg12)
        have HB6 := hidk (HB5.out.trans (HM13.out.below.mono HB5.out.size))
        have HR6 := hidk ((HM13.out.below.block _ (heap_lt HW12.out.row)).trans HW12.out.row)
        clear HM12 HW12 HM13 HB3 HB5
        refine wp_region_held_drew (S := (fun W => W.cell? ⟨gf, 0, none⟩ = some (.func (.func 100) #[] #[.pointer (some ⟨gl, 0, none⟩), .pointer (some ⟨gf, 0, none⟩), .pointer (some ⟨gk, 0, none⟩)]) ∧ W.heap[g12]? = some (.cells D 24 (0, 0)))) (by kernel_rfl) ⟨FN.out _ HB6.out.drew, HR6.out⟩ (fun hHeld => ?_)
        refine zW 0 (.func (.func 100) #[] #[.pointer (some ⟨gl, 0, none⟩), .pointer (some ⟨gf, 0, none⟩), .pointer (some ⟨gk, 0, none⟩)]) rfl (Or.inl ⟨by rfl, by intro W hSw; have h := hSw.1; go_simp⟩) hHeld ?_
        try simp only [Act.put, pS1, pS2, pS3]
        refine zX 1 (.int .i64 (k : Int)) rfl hHeld ?_
        try simp only [Act.put, pS1, pS2, pS3]
        refine zX 2 (.int .i64 (I : Int)) rfl hHeld ?_
        try simp only [Act.put, pS1, pS2, pS3]
        refine zX 3 (.slice (some ⟨g, o, none⟩) m cap) rfl hHeld ?_
        try simp only [Act.put, pS1, pS2, pS3]
        refine zW 5 (.agg D) rfl (yieldsIf_row (by rfl) 24 (.tmp 12) rfl g12 rfl 24 D (0, 0) _ (fun _ h => h.2) Tryz.underlying24 rfl HSD.out) hHeld ?_
        try simp only [Act.put, pS1, pS2, pS3]
        refine wpAnyH_ready (rs := [4]) (by kernel_rfl) (by simp) ?_
        refine (AllReadyH.cons (o := { dst := some 33, op := .call { callee := .value (.tmp 29), args := #[.tmp 30, .tmp 31, .tmp 32], argTypes := #[3, 3, 38] }, type := 24, pos := "check.go:101", after := #[zD 0, zD 1, zD 2, zD 3], guard := none }) rfl (fun K hK => ?_) AllReadyH.nil)
        go_simp
        refine (IH.out _ HB6.out.drew).mono ?_
        rintro e w7 ⟨⟨u, p, rfl⟩, hb7⟩
        exact ⟨rfl, ⟨_, _, rfl⟩, HB6.out.drew.trans (hb7.mono HB6.out.drew.size)⟩
      · -- the right part
        have hm1 : (mkR r (S - k) (I - k) x).2 = false := by rw [mkR_right d r S I x h1 (by rw [← hk]; exact hik), ← hk] at hm; exact hm
        have IH : Hid (∀ W, Below w.heap.size w W → Calls Tryz.prog 100 #[.int .i64 ((S : Int) - (k : Int)), .int .i64 ((I : Int) - (k : Int)), .slice (some ⟨g, o, none⟩) m cap, .pointer (some ⟨gl, 0, none⟩), .pointer (some ⟨gf, 0, none⟩), .pointer (some ⟨gk, 0, none⟩)] W fun e w' => (∃ u p, e = .panicked [{ v := .iface u p, recovered := false }]) ∧ Below W.heap.size W w') := fun W hb => by
          rw [show ((S : Int) - (k : Int)) = ((S - k : Nat) : Int) by omega, show ((I : Int) - (k : Int)) = ((I - k : Nat) : Int) by omega]
          exact ih (S - k) (I - k) x (some ⟨g, o, none⟩) m cap gl gf gk W (by omega) (by omega) (by omega) (RR W hb) (FH W hb) hm1
        have hdl : (decide ((I : Int) < (k : Int))) = false := by rw [decide_eq_false_iff_not]; omega
        have wr1 := wrap_int ((S : Int) - (k : Int)) (by omega) (by omega)
        have wr2 := wrap_int ((I : Int) - (k : Int)) (by omega) (by omega)
        clear hm hm1 hF hR ih FH RR hk hmm hRr
        go_enter Tryz.func100, Tryz.ntmps100
        go_wp2_with (first
          | (show aD 9 _ _ _ _ _ _ _ _ _ _ _; refine wpList_new_var rfl 24 rfl Z HA.out ?_; intro g9 w1 HM9; try simp only [Act.put, pS1, pS2, pS3])
          | fail)
        refine (SP.out _).mono ?_
        rintro e w2 ⟨rfl, rfl⟩
        go_wp2_with fail
        refine (CU.out _ HM9.out.below).mono ?_
        rintro e w3 ⟨rfl, hb3⟩
        have HB3 := hidk (HM9.out.below.trans (hb3.mono HM9.out.below.size))
        clear hb3 HM9 SP CU
        go_wp2_with (first
          | (show aD 12 _ _ _ _ _ _ _ _ _ _ _; refine wpList_new_var rfl 24 rfl Z HA.out ?_; intro g12 w4 HM12; try simp only [Act.put, pS1, pS2, pS3])
          | (refine wpList_set_var rfl 24 (.tmp 12) (.tmp 25) rfl g12 D rfl rfl 24 Z HM12.out.row HSD.out HZD.out H1D.out ?_; intro w5 HW12; try simp only [Act.put, pS1, pS2, pS3])
          | (show aD 13 _ _ _ _ _ _ _ _ _ _ _; refine wpList_new_var rfl 146 rfl ZK HAK.out ?_; intro g13 w6 HM13; try simp only [Act.put, pS1, pS2, pS3])
          | fail)
        have hg12 : w.heap.size ≤ g12 := by rw [HM12.out.new]; exact HB3.out.size
        have HB5 := hidk (HW12.out.below w.heap.size w (HB3.out.trans (HM12.out.below.mono HB3.out.size)) hg12)
        have HB6 := hidk (HB5.out.trans (HM13.out.below.mono HB5.out.size))
        have HR6 := hidk ((HM13.out.below.block _ (heap_lt HW12.out.row)).trans HW12.out.row)
        clear HM12 HW12 HM13 HB3 HB5
        refine wp_region_held_drew (S := (fun W => W.cell? ⟨gf, 0, none⟩ = some (.func (.func 100) #[] #[.pointer (some ⟨gl, 0, none⟩), .pointer (some ⟨gf, 0, none⟩), .pointer (some ⟨gk, 0, none⟩)]) ∧ W.heap[g12]? = some (.cells D 24 (0, 0)))) (by kernel_rfl) ⟨FN.out _ HB6.out.drew, HR6.out⟩ (fun hHeld => ?_)
        refine zW 0 (.agg D) rfl (yieldsIf_row (by rfl) 24 (.tmp 12) rfl g12 rfl 24 D (0, 0) _ (fun _ h => h.2) Tryz.underlying24 rfl HSD.out) hHeld ?_
        try simp only [Act.put, pS1, pS2, pS3]
        refine zW 1 (.func (.func 100) #[] #[.pointer (some ⟨gl, 0, none⟩), .pointer (some ⟨gf, 0, none⟩), .pointer (some ⟨gk, 0, none⟩)]) rfl (Or.inl ⟨by rfl, by intro W hSw; have h := hSw.1; go_simp⟩) hHeld ?_
        try simp only [Act.put, pS1, pS2, pS3]
        refine zX 2 (.int .i64 (S : Int)) rfl hHeld ?_
        try simp only [Act.put, pS1, pS2, pS3]
        refine zX 3 (.int .i64 (k : Int)) rfl hHeld ?_
        try simp only [Act.put, pS1, pS2, pS3]
        refine zX 4 (.int .i64 ((S : Int) - (k : Int))) rfl hHeld ?_
        try simp only [Act.put, pS1, pS2, pS3]
        refine zX 5 (.int .i64 (I : Int)) rfl hHeld ?_
        try simp only [Act.put, pS1, pS2, pS3]
        refine zX 6 (.int .i64 (k : Int)) rfl hHeld ?_
        try simp only [Act.put, pS1, pS2, pS3]
        refine zX 7 (.int .i64 ((I : Int) - (k : Int))) rfl hHeld ?_
        try simp only [Act.put, pS1, pS2, pS3]
        refine zX 8 (.slice (some ⟨g, o, none⟩) m cap) rfl hHeld ?_
        try simp only [Act.put, pS1, pS2, pS3]
        refine wpAnyH_ready (rs := [9]) (by kernel_rfl) (by simp) ?_
        refine (AllReadyH.cons (o := { dst := some 45, op := .call { callee := .value (.tmp 37), args := #[.tmp 40, .tmp 43, .tmp 44], argTypes := #[3, 3, 38] }, type := 24, pos := "check.go:103", after := #[zD 1, zD 4, zD 7, zD 8], guard := none }) rfl (fun K hK => ?_) AllReadyH.nil)
        go_simp
        refine (IH.out _ HB6.out.drew).mono ?_
        rintro e w7 ⟨⟨u, p, rfl⟩, hb7⟩
        exact ⟨rfl, ⟨_, _, rfl⟩, HB6.out.drew.trans (hb7.mono HB6.out.drew.size)⟩
set_option maxHeartbeats 4000000 in
theorem down_ok (r : List (List UInt8)) : ∀ (S I : Nat) (x : List UInt8) (acc : List (List UInt8)) (a : Option Addr) (len cap B gl gf gk : Nat) (v : Value) (w : World) (X : Array Value) (HX : Hid (X = (cellsOf x).toArray)) (hx : x.length = 32) (hS1 : 1 ≤ S) (hS : S ≤ 100000) (hI : I < S) (hR : LReads w a len cap r.reverse)
    (hH : KH B gl gf gk X (.func (.func 100) #[] #[.pointer (some ⟨gl, 0, none⟩), .pointer (some ⟨gf, 0, none⟩), .pointer (some ⟨gk, 0, none⟩)]) v acc w) (hlk : gl ≠ gk) (hfk : gf ≠ gk) (hBk : B ≤ gk) (hBw : B ≤ w.heap.size) (hac : acc.length + r.length ≤ 1000) (hK : Table 1 w) (hKB : 1 < B) (hm : (mkR r S I x).2 = true)
    (M : Array Value) (HM : Hid (M = (cellsOf (mkR r S I x).1).toArray)),
    Calls Tryz.prog 100 #[.int .i64 S, .int .i64 I, .slice a len cap, .pointer (some ⟨gl, 0, none⟩), .pointer (some ⟨gf, 0, none⟩), .pointer (some ⟨gk, 0, none⟩)] w fun e w' => e = .returned (.agg M) ∧ ∃ v', KH B gl gf gk X (.func (.func 100) #[] #[.pointer (some ⟨gl, 0, none⟩), .pointer (some ⟨gf, 0, none⟩), .pointer (some ⟨gk, 0, none⟩)]) v' (acc ++ kn r S I x) w' ∧ Grew gk v v' w w' := by
  induction r with
  | nil =>
    intro S I x acc a len cap B gl gf gk v w X HX hx hS1 hS hI hR hH hlk hfk hBk hBw hac hK hKB hm M HM
    have hl : len = 0 := by have := hR.1; simpa using this.symm
    subst hl
    obtain rfl : S = 1 := by simpa [mkR] using hm
    obtain rfl : M = X := by rw [HM.out, HX.out]; rfl
    obtain ⟨Z, HZ, HA, HS, H1, H32⟩ := noughts27
    have HSX : Hid ((Tryz.prog.info? 24).map (·.size) = some M.size) := by show _ = _; rw [size23, HX.out]; simp [cellsOf_length, hx]
    have H1X : Hid (M.all (·.oneCell') = true) := by show _ = _; rw [HX.out]; exact cellsOf_all _
    have HZX : Hid (Z.size = M.size) := by show _ = _; rw [H32.out, HX.out]; simp [cellsOf_length, hx]
    have MU : Hid (∀ W, Calls Tryz.prog 101 #[.int .i64 0, .slice a 0 cap] W fun e w' => e = .returned (.tuple #[]) ∧ w' = W) := fun W => must_ok 0 a 0 cap W rfl (by unfold maxLen; omega)
    have HH := hidk hH
    have Hsz : Hid (gl < w.heap.size ∧ gf < w.heap.size ∧ gk < w.heap.size ∧ ∀ q, v.ownBlock = some q → q < w.heap.size) := ⟨heap_lt hH.leaf, heap_lt hH.fn, heap_lt hH.var, fun q e => (hH.own.lt q e).2⟩
    have HE : Hid (acc ++ kn [] 1 I x = acc) := by show _ = _; simp [kn]
    rw [HE.out]
    clear hm hH hR hK HM HE
    go_enter Tryz.func100, Tryz.ntmps100
    go_wp2_with (first
      | (show aD 9 _ _ _ _ _ _ _ _ _ _ _; refine wpList_new_var rfl 24 rfl Z HA.out ?_; intro g9 w1 HM9; try simp only [Act.put, pS1, pS2, pS3])
      | fail)
    refine (MU.out _).mono ?_
    rintro e w2 ⟨rfl, rfl⟩
    have HL1 := hidk ((HM9.out.below.block _ Hsz.out.1).trans HH.out.leaf)
    go_wp2_with (first
      | (show aD 18 _ _ _ _ _ _ _ _ _ _ _; refine wpList_load_row rfl 24 (.tmp 3) rfl gl rfl 24 M (0, 0) _ HL1.out Tryz.underlying24 rfl HSX.out ?_; try simp only [Act.put, pS1, pS2, pS3])
      | (refine wpList_set_var rfl 24 (.tmp 9) (.tmp 18) rfl g9 M rfl rfl 24 Z HM9.out.row HSX.out HZX.out H1X.out ?_; intro w3 HW9; try simp only [Act.put, pS1, pS2, pS3])
      | fail)
    have hn := HM9.out.new
    refine bodyPost_ret (v := .agg M) ?_ rfl ⟨rfl, v, (HH.out.keep HM9.out.below).wrote HW9.out (by have := Hsz.out.1; omega) (by have := Hsz.out.2.1; omega) (by have := Hsz.out.2.2.1; omega) (fun e => by have := Hsz.out.2.2.2 _ e.symm; omega), (Grew.of HM9.out.below).wrote HW9.out (by omega)⟩
    exact results_cell_row (p := 9) (ty := 24) rfl _ _ g9 24 M (0, 0) _ rfl HW9.out.row Tryz.underlying24 rfl HSX.out
  | cons d r ih =>
    intro S I x acc a len cap B gl gf gk v w X HX hx hS1 hS hI hR hH hlk hfk hBk hBw hac hK hKB hm M HM
    obtain ⟨Z, HZ, HA, HS, H1, H32⟩ := noughts27
    obtain ⟨ZK, HZK, HAK, H32K⟩ := noughtsK
    have hlen : r.length + 1 = len := by have := hR.1; simpa using this
    obtain ⟨m, hmm⟩ : ∃ m, m = r.length := ⟨_, rfl⟩
    obtain rfl : len = m + 1 := by omega
    have hml := hR.2.2.2.1
    have h1 : S ≠ 1 := fun e => by subst e; rw [mkR_one] at hm; cases hm
    have c1 : ((S : Int) == 1) = false := by rw [beq_eq_false_iff_ne]; omega
    obtain ⟨k, hk⟩ : ∃ k, k = split S := ⟨_, rfl⟩
    have hkl := split_lt S (by omega)
    have hkp := split_pos S (by omega)
    rw [← hk] at hkl hkp
    have SP : Hid (∀ W, Calls Tryz.prog 89 #[.int .i64 (S : Int)] W fun e w' => e = .returned (.int .i64 (k : Nat)) ∧ W = w') := fun W => by
      have := split_any (S : Int) W (by omega)
      rw [Int.toNat_natCast, ← hk] at this
      exact this
    obtain ⟨g, o, rfl, hgl⟩ := hR.at (by omega)
    have hRr : (d :: r).reverse = r.reverse ++ [d] := by simp
    have hd : d.length = 32 := hR.2.1 d (by simp)
    obtain ⟨D, HD, HSD, H1D, H32D⟩ := dig_row' d hd
    have HZD : Hid (Z.size = D.size) := by show _ = _; rw [H32.out, H32D.out]
    rw [hRr] at hR
    have CU : Hid (∀ W, Below w.heap.size w W → Calls Tryz.prog 102 #[.slice (some ⟨g, o, none⟩) (m + 1) cap] W fun e w' => e = .returned (.tuple #[.slice (some ⟨g, o, none⟩) m cap, .agg D]) ∧ Below W.heap.size W w') := fun W hb =>
      cut_ok g o m cap r.reverse d W (hR.keep hb) D HD
    have RR : ∀ W, Below w.heap.size w W → LReads W (some ⟨g, o, none⟩) m cap r.reverse := fun W hb => by
      have := (hR.keep hb).take m (by omega)
      rwa [List.take_left' (by simp [hmm])] at this
    have hac' : acc.length + r.length ≤ 1000 := by simp only [List.length_cons] at hac; omega
    have HH := hidk hH
    have Hsz : Hid (gl < w.heap.size ∧ gf < w.heap.size ∧ gk < w.heap.size ∧ ∀ q, v.ownBlock = some q → B ≤ q ∧ q < w.heap.size) := ⟨heap_lt hH.leaf, heap_lt hH.fn, heap_lt hH.var, fun q e => hH.own.lt q e⟩
    have HSF : Hid ((Tryz.prog.info? 24).map (·.size) = some M.size) := by show _ = _; rw [size23, HM.out]; simp [cellsOf_length, mkR_length sumD_length _ _ _ _ hx]
    have H1F : Hid (M.all (·.oneCell') = true) := by show _ = _; rw [HM.out]; exact cellsOf_all _
    have HZF : Hid (Z.size = M.size) := by show _ = _; rw [H32.out, HM.out]; simp [cellsOf_length, mkR_length sumD_length _ _ _ _ hx]
    by_cases hik : I < k
    · -- the left part
      have hE : mkR (d :: r) S I x = (knotD (mkR r k I x).1 d, (mkR r k I x).2) := by rw [mkR_left d r S I x h1 (by rw [← hk]; exact hik), ← hk]
      have hKE : kn (d :: r) S I x = kn r k I x ++ [(mkR r k I x).1 ++ d] := by rw [kn_left d r S I x (by rw [← hk]; exact hik), ← hk]
      rw [hE] at hm HM
      have hml1 : (mkR r k I x).1.length = 32 := mkR_length sumD_length _ _ _ _ hx
      obtain ⟨M1, HM1, HSM1, H1M1, H32M1⟩ := dig_row' (mkR r k I x).1 hml1
      have hk64 : ((mkR r k I x).1 ++ d).length = 64 := by rw [List.length_append, hml1, hd]
      obtain ⟨KK, HKK, HSK, H1K, H64K⟩ := knot_row ((mkR r k I x).1 ++ d) hk64
      have HZKK : Hid (ZK.size = KK.size) := by show _ = _; rw [H32K.out, H64K.out]
      have BK : Hid (∀ W, (Instr.build 146 #[(0, .agg M1), (1, .agg D)]).run Tryz.prog W = .ok (.agg KK) W) := fun W => build_knot W M1 D KK H32M1.out H32D.out (by rw [HKK.out, HM1.out, HD.out]; simp [cellsOf_append])
      have SU : Hid (∀ W, Below B w W → Calls Tryz.prog 103 #[.agg KK] W fun e w' => e = .returned (.agg M) ∧ Below W.heap.size W w') := fun W hb => sum_any (mkR r k I x).1 d hml1 hd W (table_low hK hb hKB) KK HKK M HM
      have IH : Hid (∀ W, Below w.heap.size w W → Calls Tryz.prog 100 #[.int .i64 (k : Int), .int .i64 (I : Int), .slice (some ⟨g, o, none⟩) m cap, .pointer (some ⟨gl, 0, none⟩), .pointer (some ⟨gf, 0, none⟩), .pointer (some ⟨gk, 0, none⟩)] W fun e w' => e = .returned (.agg M1) ∧ ∃ v', KH B gl gf gk X (.func (.func 100) #[] #[.pointer (some ⟨gl, 0, none⟩), .pointer (some ⟨gf, 0, none⟩), .pointer (some ⟨gk, 0, none⟩)]) v' (acc ++ kn r k I x) w' ∧ Grew gk v v' W w') := fun W hb => ih k I x acc (some ⟨g, o, none⟩) m cap B gl gf gk v W X HX hx (by omega) (by omega) (by omega) (RR W hb) (hH.keep hb) hlk hfk hBk (Nat.le_trans hBw hb.size) hac' (hK.keep hb) hKB hm M1 HM1
      have hdl : (decide ((I : Int) < (k : Int))) = true := by rw [decide_eq_true_eq]; omega
      have HE : Hid (acc ++ kn (d :: r) S I x = (acc ++ kn r k I x) ++ [(mkR r k I x).1 ++ d]) := by show _ = _; rw [hKE, List.append_assoc]
      have hsh : (acc ++ kn r k I x).length + 1 ≤ 1000000 := by rw [List.length_append, kn_length]; omega
      rw [HE.out]
      obtain ⟨acc2, HA2⟩ : ∃ y, Hid (y = acc ++ kn r k I x) := ⟨_, (rfl : acc ++ kn r k I x = _)⟩
      rw [← HA2.out] at hsh IH ⊢
      obtain ⟨kt, HKT⟩ : ∃ y, Hid (y = (mkR r k I x).1 ++ d) := ⟨_, (rfl : (mkR r k I x).1 ++ d = _)⟩
      rw [← HKT.out] at HKK hk64 ⊢
      have FN : Hid (∀ W, Below w.heap.size w W → W.cell? ⟨gf, 0, none⟩ = some (.func (.func 100) #[] #[.pointer (some ⟨gl, 0, none⟩), .pointer (some ⟨gf, 0, none⟩), .pointer (some ⟨gk, 0, none⟩)])) := fun W hb => cell_of_one ((hb.block _ (heap_lt hH.fn)).trans hH.fn)
      clear hm HM hE hKE hH hR hK ih RR hk hmm hRr HE HA2 HKT HM1 HD hml1 hac hac'
      go_enter Tryz.func100, Tryz.ntmps100
      go_wp2_with (first
        | (show aD 9 _ _ _ _ _ _ _ _ _ _ _; refine wpList_new_var rfl 24 rfl Z HA.out ?_; intro g9 wa HM9; try simp only [Act.put, pS1, pS2, pS3])
        | fail)
      refine (SP.out _).mono ?_
      rintro e wb ⟨rfl, rfl⟩
      go_wp2_with fail
      refine (CU.out _ HM9.out.below).mono ?_
      rintro e wc ⟨rfl, hb3⟩
      have HB3 := hidk (HM9.out.below.trans (hb3.mono HM9.out.below.size))
      have HR9 := hidk ((hb3.block _ (heap_lt HM9.out.row)).trans HM9.out.row)
      have hg9 : w.heap.size = g9 := HM9.out.new.symm
      clear hb3 SP CU
      go_wp2_with (first
        | (show aD 12 _ _ _ _ _ _ _ _ _ _ _; refine wpList_new_var rfl 24 rfl Z HA.out ?_; intro g12 wd HM12; try simp only [Act.put, pS1, pS2, pS3])
        | (refine wpList_set_var rfl 24 (.tmp 12) (.tmp 25) rfl g12 D rfl rfl 24 Z HM12.out.row HSD.out HZD.out H1D.out ?_; intro we HW12; try simp only [Act.put, pS1, pS2, pS3])
        | (show aD 13 _ _ _ _ _ _ _ _ _ _ _; refine wpList_new_var rfl 146 rfl ZK HAK.out ?_; intro g13 wf HM13; try simp only [Act.put, pS1, pS2, pS3])
        | fail)
      have hg12 : g9 < g12 := by rw [HM12.out.new]; exact heap_lt HR9.out
      have hg13 : g12 < g13 := by rw [HM13.out.new]; exact heap_lt HW12.out.row
      have HB5 := hidk (HW12.out.below w.heap.size w (HB3.out.trans (HM12.out.below.mono HB3.out.size)) (by omega))
      have HB6 := hidk (HB5.out.trans (HM13.out.below.mono HB5.out.size))
      have HR6 := hidk ((HM13.out.below.block _ (heap_lt HW12.out.row)).trans HW12.out.row)
      have HR5 := hidk ((HW12.out.other g9 (by omega)).trans ((HM12.out.below.block _ (heap_lt HR9.out)).trans HR9.out))
      have HR69 := hidk ((HM13.out.below.block _ (heap_lt HR5.out)).trans HR5.out)
      have HR13 := hidk HM13.out.row
      have h13 : g13 < wf.heap.size := heap_lt HR13.out
      clear HM12 HW12 HM13 HB3 HB5 HR9 HR5 HM9
      refine wp_region_held_drew (S := (fun W => W.cell? ⟨gf, 0, none⟩ = some (.func (.func 100) #[] #[.pointer (some ⟨gl, 0, none⟩), .pointer (some ⟨gf, 0, none⟩), .pointer (some ⟨gk, 0, none⟩)]) ∧ W.heap[g12]? = some (.cells D 24 (0, 0)))) (by kernel_rfl) ⟨FN.out _ HB6.out.drew, HR6.out⟩ (fun hHeld => ?_)
      refine zW 0 (.func (.func 100) #[] #[.pointer (some ⟨gl, 0, none⟩), .pointer (some ⟨gf, 0, none⟩), .pointer (some ⟨gk, 0, none⟩)]) rfl (Or.inl ⟨by rfl, by intro W hSw; have h := hSw.1; go_simp⟩) hHeld ?_
      try simp only [Act.put, pS1, pS2, pS3]
      refine zX 1 (.int .i64 (k : Int)) rfl hHeld ?_
      try simp only [Act.put, pS1, pS2, pS3]
      refine zX 2 (.int .i64 (I : Int)) rfl hHeld ?_
      try simp only [Act.put, pS1, pS2, pS3]
      refine zX 3 (.slice (some ⟨g, o, none⟩) m cap) rfl hHeld ?_
      try simp only [Act.put, pS1, pS2, pS3]
      refine zW 5 (.agg D) rfl (yieldsIf_row (by rfl) 24 (.tmp 12) rfl g12 rfl 24 D (0, 0) _ (fun _ h => h.2) Tryz.underlying24 rfl HSD.out) hHeld ?_
      try simp only [Act.put, pS1, pS2, pS3]
      refine wpAnyH_ready (rs := [4]) (by kernel_rfl) (by simp) ?_
      refine (AllReadyH.cons (o := { dst := some 33, op := .call { callee := .value (.tmp 29), args := #[.tmp 30, .tmp 31, .tmp 32], argTypes := #[3, 3, 38] }, type := 24, pos := "check.go:101", after := #[zD 0, zD 1, zD 2, zD 3], guard := none }) rfl (fun K hK => ?_) AllReadyH.nil)
      go_simp
      refine (IH.out _ HB6.out.drew).mono ?_
      rintro e w4 ⟨rfl, v7, hH7, hG7⟩
      have hKP : ∀ y, w.heap.size ≤ y → y < wf.heap.size → w4.heap[y]? = wf.heap[y]? := fun y h1 h2 => hG7.block y h2 (by have := Hsz.out.2.2.1; omega) (fun e => by have := (Hsz.out.2.2.2 y e.symm).2; omega)
      have HNV : Hid (∀ y, w.heap.size ≤ y → y < wf.heap.size → some y ≠ v7.ownBlock) := fun y h1 h2 => hG7.new h2 (fun e => by have := (Hsz.out.2.2.2 y e.symm).2; omega)
      have HGX := hidk (Grew.trans (Grew.of HB6.out.drew) hG7)
      have HH7 := hidk hH7
      have HR97 := hidk ((hKP g9 (by omega) (by omega)).trans HR69.out)
      have HR127 := hidk ((hKP g12 (by omega) (by omega)).trans HR6.out)
      have HR137 := hidk ((hKP g13 (by omega) (by omega)).trans HR13.out)
      clear hG7 hH7 hKP
      go_wp2_with fail
      refine hK.out _ _ ⟨cell_of_one HH7.out.fn, HR127.out⟩ (fun hHeld => ?_)
      clear hK K
      try simp only [Act.put, pS1, pS2, pS3]
      refine zW 6 (.agg KK) rfl (yieldsIf_build (by rfl) 146 _ rfl #[(0, .agg M1), (1, .agg D)] rfl (.agg KK) BK.out) hHeld ?_
      try simp only [Act.put, pS1, pS2, pS3]
      refine wpAnyH_ready (rs := [7]) (by kernel_rfl) (by simp) ?_
      refine (AllReadyH.cons (o := { dst := none, op := .store 146 (.tmp 13) (.tmp 35), type := 0, pos := "check.go:101", after := #[zD 6, zC 4, zP 0, zP 1, zP 2, zP 3, zP 4, zP 5, zP 6], guard := none }) rfl (fun K hK => ?_) AllReadyH.nil)
      refine step_set_var (by rfl) 146 (.tmp 13) (.tmp 35) rfl g13 KK rfl rfl 146 ZK HR137.out HSK.out HZKK.out H1K.out ?_
      intro w8 HW13
      have HH8 := hidk (HH7.out.wrote HW13.out (by have := Hsz.out.1; omega) (by have := Hsz.out.2.1; omega) (by have := Hsz.out.2.2.1; omega) (HNV.out g13 (by omega) h13))
      refine hK.out _ _ ⟨cell_of_one HH8.out.fn, (HW13.out.other g12 (by omega)).trans hHeld.2⟩ (fun hHeld => ?_)
      clear hK K
      try simp only [Act.put, pS1, pS2, pS3]
      refine wpAnyH_done (by kernel_rfl) ?_ _
      have HG8 := hidk ((HGX.out.wrote HW13.out (by omega)))
      have hB8 : B ≤ w8.heap.size := Nat.le_trans hBw HG8.out.size
      obtain ⟨v9, w9, hrun, q1, hH9, hG9⟩ := HH8.out.append hlk hfk hB8 hsh kt hk64 KK HKK
      obtain ⟨gn, cn, hv9⟩ := own_form hH9.own (by simp)
      simp only [List.length_append, List.length_cons, List.length_nil, Nat.zero_add] at hv9
      subst hv9
      have HH9 := hidk hH9
      have HG9 := hidk (HG8.out.trans hG9)
      have HL13 := hidk HW13.out.row
      have h8 : g13 < w8.heap.size := heap_lt HL13.out
      have H13b := hidk ((hG9.block g13 h8 (by have := Hsz.out.2.2.1; omega) (HNV.out g13 (by omega) h13)).trans HW13.out.row)
      have H9b := hidk ((hG9.block g9 (by omega) (by have := Hsz.out.2.2.1; omega) (HNV.out g9 (by omega) (by omega))).trans ((HW13.out.other g9 (by omega)).trans HR97.out))
      have hc8 := cell_of_one HH8.out.var
      have hc9 := cell_of_one q1
      have hf9 := free_of_one q1
      have HBB := hidk (HG9.out.below hBw hBk (fun q e => (Hsz.out.2.2.2 q e).1))
      clear hHeld hH9 hG9 HW13 HH8 HG8 q1 HGX HR97 IH BK FN
      go_wp2_with (first
        | (show aD 48 _ _ _ _ _ _ _ _ _ _ _; refine wpList_load_row rfl 146 (.tmp 13) rfl g13 rfl 146 KK (0, 0) _ HL13.out Tryz.underlying146 rfl HSK.out ?_; try simp only [Act.put, pS1, pS2, pS3])
        | (show aD 49 _ _ _ _ _ _ _ _ _ _ _; refine wpList_build_run rfl 114 1 _ rfl #[(0, .agg KK)] rfl _ _ (build_oneK _ kt hk64 KK HKK) ?_; try simp only [Act.put, pS1, pS2, pS3])
        | (show aD 50 _ _ _ _ _ _ _ _ _ _ _; refine wpList_append_runD rfl (.tmp 47) (.tmp 49) 114 114 rfl v7 _ _ w9 rfl rfl hrun ?_; try simp only [Act.put, pS1, pS2, pS3])
        | (show aD 51 _ _ _ _ _ _ _ _ _ _ _; refine wpList_load_row rfl 146 (.tmp 13) rfl g13 rfl 146 KK (0, 0) _ H13b.out Tryz.underlying146 rfl HSK.out ?_; try simp only [Act.put, pS1, pS2, pS3])
        | fail)
      refine (SU.out _ HBB.out).mono ?_
      rintro e wx ⟨rfl, hbx⟩
      have H9x := hidk ((hbx.block _ (heap_lt H9b.out)).trans H9b.out)
      clear hc8 hc9 hf9 hrun
      go_wp2_with (first
        | (refine wpList_set_var rfl 24 (.tmp 9) (.tmp 52) rfl g9 M rfl rfl 24 Z H9x.out HSF.out HZF.out H1F.out ?_; intro wy HW9; try simp only [Act.put, pS1, pS2, pS3])
        | fail)
      refine bodyPost_ret (v := .agg M) ?_ rfl ⟨rfl, .slice (some ⟨gn, 0, none⟩) (acc2.length + 1) cn, (HH9.out.keep hbx).wrote HW9.out (by have := Hsz.out.1; omega) (by have := Hsz.out.2.1; omega) (by have := Hsz.out.2.2.1; omega) ?_, (HG9.out.trans (Grew.of hbx)).wrote HW9.out (by omega)⟩
      · exact results_cell_row (p := 9) (ty := 24) rfl _ _ g9 24 M (0, 0) _ rfl HW9.out.row Tryz.underlying24 rfl HSF.out
      · exact own_apart (HH9.out.keep hbx).own H9x.out (by decide)
    · -- the right part
      have hE : mkR (d :: r) S I x = (knotD d (mkR r (S - k) (I - k) x).1, (mkR r (S - k) (I - k) x).2) := by rw [mkR_right d r S I x h1 (by rw [← hk]; exact hik), ← hk]
      have hKE : kn (d :: r) S I x = kn r (S - k) (I - k) x ++ [d ++ (mkR r (S - k) (I - k) x).1] := by rw [kn_right d r S I x (by rw [← hk]; exact hik), ← hk]
      rw [hE] at hm HM
      have hml1 : (mkR r (S - k) (I - k) x).1.length = 32 := mkR_length sumD_length _ _ _ _ hx
      obtain ⟨M1, HM1, HSM1, H1M1, H32M1⟩ := dig_row' (mkR r (S - k) (I - k) x).1 hml1
      have hk64 : (d ++ (mkR r (S - k) (I - k) x).1).length = 64 := by rw [List.length_append, hml1, hd]
      obtain ⟨KK, HKK, HSK, H1K, H64K⟩ := knot_row (d ++ (mkR r (S - k) (I - k) x).1) hk64
      have HZKK : Hid (ZK.size = KK.size) := by show _ = _; rw [H32K.out, H64K.out]
      have BK : Hid (∀ W, (Instr.build 146 #[(0, .agg D), (1, .agg M1)]).run Tryz.prog W = .ok (.agg KK) W) := fun W => build_knot W D M1 KK H32D.out H32M1.out (by rw [HKK.out, HM1.out, HD.out]; simp [cellsOf_append])
      have SU : Hid (∀ W, Below B w W → Calls Tryz.prog 103 #[.agg KK] W fun e w' => e = .returned (.agg M) ∧ Below W.heap.size W w') := fun W hb => sum_any d (mkR r (S - k) (I - k) x).1 hd hml1 W (table_low hK hb hKB) KK HKK M HM
      have IH : Hid (∀ W, Below w.heap.size w W → Calls Tryz.prog 100 #[.int .i64 ((S : Int) - (k : Int)), .int .i64 ((I : Int) - (k : Int)), .slice (some ⟨g, o, none⟩) m cap, .pointer (some ⟨gl, 0, none⟩), .pointer (some ⟨gf, 0, none⟩), .pointer (some ⟨gk, 0, none⟩)] W fun e w' => e = .returned (.agg M1) ∧ ∃ v', KH B gl gf gk X (.func (.func 100) #[] #[.pointer (some ⟨gl, 0, none⟩), .pointer (some ⟨gf, 0, none⟩), .pointer (some ⟨gk, 0, none⟩)]) v' (acc ++ kn r (S - k) (I - k) x) w' ∧ Grew gk v v' W w') := fun W hb => by
        rw [show ((S : Int) - (k : Int)) = ((S - k : Nat) : Int) by omega, show ((I : Int) - (k : Int)) = ((I - k : Nat) : Int) by omega]
        exact ih (S - k) (I - k) x acc (some ⟨g, o, none⟩) m cap B gl gf gk v W X HX hx (by omega) (by omega) (by omega) (RR W hb) (hH.keep hb) hlk hfk hBk (Nat.le_trans hBw hb.size) hac' (hK.keep hb) hKB hm M1 HM1
      have hdl : (decide ((I : Int) < (k : Int))) = false := by rw [decide_eq_false_iff_not]; omega
      have wr1 := wrap_int ((S : Int) - (k : Int)) (by omega) (by omega)
      have wr2 := wrap_int ((I : Int) - (k : Int)) (by omega) (by omega)
      have HE : Hid (acc ++ kn (d :: r) S I x = (acc ++ kn r (S - k) (I - k) x) ++ [d ++ (mkR r (S - k) (I - k) x).1]) := by show _ = _; rw [hKE, List.append_assoc]
      have hsh : (acc ++ kn r (S - k) (I - k) x).length + 1 ≤ 1000000 := by rw [List.length_append, kn_length]; omega
      rw [HE.out]
      obtain ⟨acc2, HA2⟩ : ∃ y, Hid (y = acc ++ kn r (S - k) (I - k) x) := ⟨_, (rfl : acc ++ kn r (S - k) (I - k) x = _)⟩
      rw [← HA2.out] at hsh IH ⊢
      obtain ⟨kt, HKT⟩ : ∃ y, Hid (y = d ++ (mkR r (S - k) (I - k) x).1) := ⟨_, (rfl : d ++ (mkR r (S - k) (I - k) x).1 = _)⟩
      rw [← HKT.out] at HKK hk64 ⊢
      have FN : Hid (∀ W, Below w.heap.size w W → W.cell? ⟨gf, 0, none⟩ = some (.func (.func 100) #[] #[.pointer (some ⟨gl, 0, none⟩), .pointer (some ⟨gf, 0, none⟩), .pointer (some ⟨gk, 0, none⟩)])) := fun W hb => cell_of_one ((hb.block _ (heap_lt hH.fn)).trans hH.fn)
      clear hm HM hE hKE hH hR hK ih RR hk hmm hRr HE HA2 HKT HM1 HD hml1 hac hac'
      go_enter Tryz.func100, Tryz.ntmps100
      go_wp2_with (first
        | (show aD 9 _ _ _ _ _ _ _ _ _ _ _; refine wpList_new_var rfl 24 rfl Z HA.out ?_; intro g9 wa HM9; try simp only [Act.put, pS1, pS2, pS3])
        | fail)
      refine (SP.out _).mono ?_
      rintro e wb ⟨rfl, rfl⟩
      go_wp2_with fail
      refine (CU.out _ HM9.out.below).mono ?_
      rintro e wc ⟨rfl, hb3⟩
      have HB3 := hidk (HM9.out.below.trans (hb3.mono HM9.out.below.size))
      have HR9 := hidk ((hb3.block _ (heap_lt HM9.out.row)).trans HM9.out.row)
      have hg9 : w.heap.size = g9 := HM9.out.new.symm
      clear hb3 SP CU
      go_wp2_with (first
        | (show aD 12 _ _ _ _ _ _ _ _ _ _ _; refine wpList_new_var rfl 24 rfl Z HA.out ?_; intro g12 wd HM12; try simp only [Act.put, pS1, pS2, pS3])
        | (refine wpList_set_var rfl 24 (.tmp 12) (.tmp 25) rfl g12 D rfl rfl 24 Z HM12.out.row HSD.out HZD.out H1D.out ?_; intro we HW12; try simp only [Act.put, pS1, pS2, pS3])
        | (show aD 13 _ _ _ _ _ _ _ _ _ _ _; refine wpList_new_var rfl 146 rfl ZK HAK.out ?_; intro g13 wf HM13; try simp only [Act.put, pS1, pS2, pS3])
        | fail)
      have hg12 : g9 < g12 := by rw [HM12.out.new]; exact heap_lt HR9.out
      have hg13 : g12 < g13 := by rw [HM13.out.new]; exact heap_lt HW12.out.row
      have HB5 := hidk (HW12.out.below w.heap.size w (HB3.out.trans (HM12.out.below.mono HB3.out.size)) (by omega))
      have HB6 := hidk (HB5.out.trans (HM13.out.below.mono HB5.out.size))
      have HR6 := hidk ((HM13.out.below.block _ (heap_lt HW12.out.row)).trans HW12.out.row)
      have HR5 := hidk ((HW12.out.other g9 (by omega)).trans ((HM12.out.below.block _ (heap_lt HR9.out)).trans HR9.out))
      have HR69 := hidk ((HM13.out.below.block _ (heap_lt HR5.out)).trans HR5.out)
      have HR13 := hidk HM13.out.row
      have h13 : g13 < wf.heap.size := heap_lt HR13.out
      clear HM12 HW12 HM13 HB3 HB5 HR9 HR5 HM9
      refine wp_region_held_drew (S := (fun W => W.cell? ⟨gf, 0, none⟩ = some (.func (.func 100) #[] #[.pointer (some ⟨gl, 0, none⟩), .pointer (some ⟨gf, 0, none⟩), .pointer (some ⟨gk, 0, none⟩)]) ∧ W.heap[g12]? = some (.cells D 24 (0, 0)))) (by kernel_rfl) ⟨FN.out _ HB6.out.drew, HR6.out⟩ (fun hHeld => ?_)
      refine zW 0 (.agg D) rfl (yieldsIf_row (by rfl) 24 (.tmp 12) rfl g12 rfl 24 D (0, 0) _ (fun _ h => h.2) Tryz.underlying24 rfl HSD.out) hHeld ?_
      try simp only [Act.put, pS1, pS2, pS3]
      refine zW 1 (.func (.func 100) #[] #[.pointer (some ⟨gl, 0, none⟩), .pointer (some ⟨gf, 0, none⟩), .pointer (some ⟨gk, 0, none⟩)]) rfl (Or.inl ⟨by rfl, by intro W hSw; have h := hSw.1; go_simp⟩) hHeld ?_
      try simp only [Act.put, pS1, pS2, pS3]
      refine zX 2 (.int .i64 (S : Int)) rfl hHeld ?_
      try simp only [Act.put, pS1, pS2, pS3]
      refine zX 3 (.int .i64 (k : Int)) rfl hHeld ?_
      try simp only [Act.put, pS1, pS2, pS3]
      refine zX 4 (.int .i64 ((S : Int) - (k : Int))) rfl hHeld ?_
      try simp only [Act.put, pS1, pS2, pS3]
      refine zX 5 (.int .i64 (I : Int)) rfl hHeld ?_
      try simp only [Act.put, pS1, pS2, pS3]
      refine zX 6 (.int .i64 (k : Int)) rfl hHeld ?_
      try simp only [Act.put, pS1, pS2, pS3]
      refine zX 7 (.int .i64 ((I : Int) - (k : Int))) rfl hHeld ?_
      try simp only [Act.put, pS1, pS2, pS3]
      refine zX 8 (.slice (some ⟨g, o, none⟩) m cap) rfl hHeld ?_
      try simp only [Act.put, pS1, pS2, pS3]
      refine wpAnyH_ready (rs := [9]) (by kernel_rfl) (by simp) ?_
      refine (AllReadyH.cons (o := { dst := some 45, op := .call { callee := .value (.tmp 37), args := #[.tmp 40, .tmp 43, .tmp 44], argTypes := #[3, 3, 38] }, type := 24, pos := "check.go:103", after := #[zD 1, zD 4, zD 7, zD 8], guard := none }) rfl (fun K hK => ?_) AllReadyH.nil)
      go_simp
      refine (IH.out _ HB6.out.drew).mono ?_
      rintro e w9 ⟨rfl, v7, hH7, hG7⟩
      have hKP : ∀ y, w.heap.size ≤ y → y < wf.heap.size → w9.heap[y]? = wf.heap[y]? := fun y h1 h2 => hG7.block y h2 (by have := Hsz.out.2.2.1; omega) (fun e => by have := (Hsz.out.2.2.2 y e.symm).2; omega)
      have HNV : Hid (∀ y, w.heap.size ≤ y → y < wf.heap.size → some y ≠ v7.ownBlock) := fun y h1 h2 => hG7.new h2 (fun e => by have := (Hsz.out.2.2.2 y e.symm).2; omega)
      have HGX := hidk (Grew.trans (Grew.of HB6.out.drew) hG7)
      have HH7 := hidk hH7
      have HR97 := hidk ((hKP g9 (by omega) (by omega)).trans HR69.out)
      have HR127 := hidk ((hKP g12 (by omega) (by omega)).trans HR6.out)
      have HR137 := hidk ((hKP g13 (by omega) (by omega)).trans HR13.out)
      clear hG7 hH7 hKP
      go_wp2_with fail
      refine hK.out _ _ ⟨cell_of_one HH7.out.fn, HR127.out⟩ (fun hHeld => ?_)
      clear hK K
      try simp only [Act.put, pS1, pS2, pS3]
      refine zW 10 (.agg KK) rfl (yieldsIf_build (by rfl) 146 _ rfl #[(0, .agg D), (1, .agg M1)] rfl (.agg KK) BK.out) hHeld ?_
      try simp only [Act.put, pS1, pS2, pS3]
      refine wpAnyH_ready (rs := [11]) (by kernel_rfl) (by simp) ?_
      refine (AllReadyH.cons (o := { dst := none, op := .store 146 (.tmp 13) (.tmp 46), type := 0, pos := "check.go:103", after := #[zD 10, zC 9, zP 0, zP 1, zP 2, zP 3, zP 4, zP 5, zP 6, zP 7, zP 8, zP 9, zP 10], guard := none }) rfl (fun K hK => ?_) AllReadyH.nil)
      refine step_set_var (by rfl) 146 (.tmp 13) (.tmp 46) rfl g13 KK rfl rfl 146 ZK HR137.out HSK.out HZKK.out H1K.out ?_
      intro w8 HW13
      have HH8 := hidk (HH7.out.wrote HW13.out (by have := Hsz.out.1; omega) (by have := Hsz.out.2.1; omega) (by have := Hsz.out.2.2.1; omega) (HNV.out g13 (by omega) h13))
      refine hK.out _ _ ⟨cell_of_one HH8.out.fn, (HW13.out.other g12 (by omega)).trans hHeld.2⟩ (fun hHeld => ?_)
      clear hK K
      try simp only [Act.put, pS1, pS2, pS3]
      refine wpAnyH_done (by kernel_rfl) ?_ _
      have HG8 := hidk ((HGX.out.wrote HW13.out (by omega)))
      have hB8 : B ≤ w8.heap.size := Nat.le_trans hBw HG8.out.size
      obtain ⟨v9, w9, hrun, q1, hH9, hG9⟩ := HH8.out.append hlk hfk hB8 hsh kt hk64 KK HKK
      obtain ⟨gn, cn, hv9⟩ := own_form hH9.own (by simp)
      simp only [List.length_append, List.length_cons, List.length_nil, Nat.zero_add] at hv9
      subst hv9
      have HH9 := hidk hH9
      have HG9 := hidk (HG8.out.trans hG9)
      have HL13 := hidk HW13.out.row
      have h8 : g13 < w8.heap.size := heap_lt HL13.out
      have H13b := hidk ((hG9.block g13 h8 (by have := Hsz.out.2.2.1; omega) (HNV.out g13 (by omega) h13)).trans HW13.out.row)
      have H9b := hidk ((hG9.block g9 (by omega) (by have := Hsz.out.2.2.1; omega) (HNV.out g9 (by omega) (by omega))).trans ((HW13.out.other g9 (by omega)).trans HR97.out))
      have hc8 := cell_of_one HH8.out.var
      have hc9 := cell_of_one q1
      have hf9 := free_of_one q1
      have HBB := hidk (HG9.out.below hBw hBk (fun q e => (Hsz.out.2.2.2 q e).1))
      clear hHeld hH9 hG9 HW13 HH8 HG8 q1 HGX HR97 IH BK FN
      go_wp2_with (first
        | (show aD 48 _ _ _ _ _ _ _ _ _ _ _; refine wpList_load_row rfl 146 (.tmp 13) rfl g13 rfl 146 KK (0, 0) _ HL13.out Tryz.underlying146 rfl HSK.out ?_; try simp only [Act.put, pS1, pS2, pS3])
        | (show aD 49 _ _ _ _ _ _ _ _ _ _ _; refine wpList_build_run rfl 114 1 _ rfl #[(0, .agg KK)] rfl _ _ (build_oneK _ kt hk64 KK HKK) ?_; try simp only [Act.put, pS1, pS2, pS3])
        | (show aD 50 _ _ _ _ _ _ _ _ _ _ _; refine wpList_append_runD rfl (.tmp 47) (.tmp 49) 114 114 rfl v7 _ _ w9 rfl rfl hrun ?_; try simp only [Act.put, pS1, pS2, pS3])
        | (show aD 51 _ _ _ _ _ _ _ _ _ _ _; refine wpList_load_row rfl 146 (.tmp 13) rfl g13 rfl 146 KK (0, 0) _ H13b.out Tryz.underlying146 rfl HSK.out ?_; try simp only [Act.put, pS1, pS2, pS3])
        | fail)
      refine (SU.out _ HBB.out).mono ?_
      rintro e wx ⟨rfl, hbx⟩
      have H9x := hidk ((hbx.block _ (heap_lt H9b.out)).trans H9b.out)
      clear hc8 hc9 hf9 hrun
      go_wp2_with (first
        | (refine wpList_set_var rfl 24 (.tmp 9) (.tmp 52) rfl g9 M rfl rfl 24 Z H9x.out HSF.out HZF.out H1F.out ?_; intro wy HW9; try simp only [Act.put, pS1, pS2, pS3])
        | fail)
      refine bodyPost_ret (v := .agg M) ?_ rfl ⟨rfl, .slice (some ⟨gn, 0, none⟩) (acc2.length + 1) cn, (HH9.out.keep hbx).wrote HW9.out (by have := Hsz.out.1; omega) (by have := Hsz.out.2.1; omega) (by have := Hsz.out.2.2.1; omega) ?_, (HG9.out.trans (Grew.of hbx)).wrote HW9.out (by omega)⟩
      · exact results_cell_row (p := 9) (ty := 24) rfl _ _ g9 24 M (0, 0) _ rfl HW9.out.row Tryz.underlying24 rfl HSF.out
      · exact own_apart (HH9.out.keep hbx).own H9x.out (by decide)
end Go.Proofs.YtkmedlfbkddmoaaGreatDoor.P5
/- What check.leafMakes answers: what a leaf and a proof make, and the knots on the way; or it gives up. -/
namespace Go.Proofs.YtkmedlfbkddmoaaGreatDoor.P5
open Go.RowKit Sums
set_option maxRecDepth 100000
set_option linter.unusedVariables false
set_option linter.unusedSimpArgs false
attribute [local go_sem] store_func
set_option maxHeartbeats 1000000 in
theorem leafMakes_no (S I : Nat) (x : List UInt8) (p : List (List UInt8)) (a : Option Addr) (len cap : Nat) (w : World) (X : Array Value) (hS1 : 1 ≤ S) (hS : S ≤ 100000) (hI : I < S) (hR : LReads w a len cap p) (hm : (mkR p.reverse S I x).2 = false) :
    Calls Tryz.prog 73 #[.int .i64 S, .int .i64 I, .agg X, .slice a len cap] w fun e w' => (∃ u p, e = .panicked [{ v := .iface u p, recovered := false }]) ∧ Below w.heap.size w w' := by
  have hmf : ∀ (fn : Fn) (first cap : Array Value) (w : World), (Instr.makeFunc fn first cap).run Tryz.prog w = .ok (.func fn first cap) w := fun _ _ _ _ => rfl
  obtain ⟨Z, HZ, HA, HS, H1, H32⟩ := noughts27
  have DN : Hid (∀ W gf gk, Below w.heap.size w W → W.heap[gf]? = some (.cells #[.func (.func 100) #[] #[.pointer (some ⟨w.heap.size, 0, none⟩), .pointer (some ⟨gf, 0, none⟩), .pointer (some ⟨gk, 0, none⟩)]] 141 (0, 0)) → Calls Tryz.prog 100 #[.int .i64 S, .int .i64 I, .slice a len cap, .pointer (some ⟨w.heap.size, 0, none⟩), .pointer (some ⟨gf, 0, none⟩), .pointer (some ⟨gk, 0, none⟩)] W fun e w' => (∃ u p, e = .panicked [{ v := .iface u p, recovered := false }]) ∧ Below W.heap.size W w') := fun W gf gk hb hf =>
    down_no p.reverse S I x a len cap w.heap.size gf gk W hS1 hS hI (by rw [List.reverse_reverse]; exact hR.keep hb) hf hm
  clear hm hR
  go_enter Tryz.func73, Tryz.ntmps73
  go_wp2_with (first
    | (show aD 8 _ _ _ _ _ _ _ _ _ _ _; refine wpList_new_var rfl 24 rfl Z HA.out ?_; intro g8 w1 HM8; try simp only [Act.put, pS1, pS2, pS3])
    | fail)
  have h1s : w.heap.size + 1 < w1.heap.size := by have := heap_lt HM8.out.row; have e := HM8.out.new; simp at e; omega
  have h8a : w.heap.size < g8 := by have e := HM8.out.new; simp at e; omega
  have h8b : g8 < w1.heap.size := heap_lt HM8.out.row
  have HL1 := hidk ((HM8.out.below.block _ (by simp)).trans (heap_alloc_new w (.cells X 24)))
  have HB1 : Hid (Below w.heap.size w w1) := ((Below.refl _ _).alloc (Nat.le_refl _) _).trans (HM8.out.below.mono (by simp))
  have HB2 : Hid (Below w.heap.size w ((w1.alloc (.cells #[.slice none 0 0] 114)).alloc (.cells #[.func (.func 100) #[] #[.pointer (some ⟨w.heap.size, 0, none⟩), .pointer (some ⟨w1.heap.size + 1, 0, none⟩), .pointer (some ⟨w1.heap.size, 0, none⟩)]] 141))) := (HB1.out.alloc (by omega) _).alloc (by simp; omega) _
  have HF2 : Hid (((w1.alloc (.cells #[.slice none 0 0] 114)).alloc (.cells #[.func (.func 100) #[] #[.pointer (some ⟨w.heap.size, 0, none⟩), .pointer (some ⟨w1.heap.size + 1, 0, none⟩), .pointer (some ⟨w1.heap.size, 0, none⟩)]] 141)).heap[w1.heap.size + 1]? = some (.cells #[.func (.func 100) #[] #[.pointer (some ⟨w.heap.size, 0, none⟩), .pointer (some ⟨w1.heap.size + 1, 0, none⟩), .pointer (some ⟨w1.heap.size, 0, none⟩)]] 141 (0, 0))) := heap_alloc2_new w1 _ _
  refine (DN.out _ _ _ HB2.out HF2.out).mono ?_
  rintro e w2 ⟨⟨u, q, rfl⟩, hb2⟩
  exact ⟨rfl, ⟨_, _, rfl⟩, HB2.out.trans (hb2.mono HB2.out.size)⟩
set_option maxHeartbeats 2000000 in
theorem leafMakes_ok (S I : Nat) (x : List UInt8) (p : List (List UInt8)) (a : Option Addr) (len cap : Nat) (w : World) (X : Array Value) (HX : Hid (X = (cellsOf x).toArray)) (hx : x.length = 32) (hS1 : 1 ≤ S) (hS : S ≤ 100000) (hI : I < S) (hR : LReads w a len cap p) (hK : Table 1 w) (hm : (mkR p.reverse S I x).2 = true) (M : Array Value) (HM : Hid (M = (cellsOf (mkR p.reverse S I x).1).toArray)) :
    Calls Tryz.prog 73 #[.int .i64 S, .int .i64 I, .agg X, .slice a len cap] w fun e w' => ∃ v, e = .returned (.tuple #[.agg M, v]) ∧ w'.ownsRow w.heap.size 146 64 v (kn p.reverse S I x).length (cellsOf (kn p.reverse S I x).flatten) ∧ Below w.heap.size w w' := by
  have hmf : ∀ (fn : Fn) (first cap : Array Value) (w : World), (Instr.makeFunc fn first cap).run Tryz.prog w = .ok (.func fn first cap) w := fun _ _ _ _ => rfl
  obtain ⟨Z, HZ, HA, HS, H1, H32⟩ := noughts27
  have hsh : p.length ≤ 17 := by
    have := mkR_short 17 p.reverse S I x hS1 (by omega) hm
    rwa [List.length_reverse] at this
  have HSM : Hid ((Tryz.prog.info? 24).map (·.size) = some M.size) := by show _ = _; rw [size23, HM.out]; simp [cellsOf_length, mkR_length sumD_length _ _ _ _ hx]
  have H1M : Hid (M.all (·.oneCell') = true) := by show _ = _; rw [HM.out]; exact cellsOf_all _
  have HZM : Hid (Z.size = M.size) := by show _ = _; rw [H32.out, HM.out]; simp [cellsOf_length, mkR_length sumD_length _ _ _ _ hx]
  have DN : Hid (∀ W gf gk, Below w.heap.size w W → w.heap.size ≤ gk → w.heap.size ≠ gk → gf ≠ gk → KH w.heap.size w.heap.size gf gk X (.func (.func 100) #[] #[.pointer (some ⟨w.heap.size, 0, none⟩), .pointer (some ⟨gf, 0, none⟩), .pointer (some ⟨gk, 0, none⟩)]) (.slice none 0 0) [] W → Calls Tryz.prog 100 #[.int .i64 S, .int .i64 I, .slice a len cap, .pointer (some ⟨w.heap.size, 0, none⟩), .pointer (some ⟨gf, 0, none⟩), .pointer (some ⟨gk, 0, none⟩)] W fun e w' => e = .returned (.agg M) ∧ ∃ v', KH w.heap.size w.heap.size gf gk X (.func (.func 100) #[] #[.pointer (some ⟨w.heap.size, 0, none⟩), .pointer (some ⟨gf, 0, none⟩), .pointer (some ⟨gk, 0, none⟩)]) v' (kn p.reverse S I x) w' ∧ Grew gk (.slice none 0 0) v' W w') := fun W gf gk hb hk1 hk2 hk3 hH => by
    have := down_ok p.reverse S I x [] a len cap w.heap.size w.heap.size gf gk (.slice none 0 0) W X HX hx hS1 hS hI (by rw [List.reverse_reverse]; exact hR.keep hb) hH hk2 hk3 hk1 hb.size (by simp; omega) (hK.keep hb) hK.1 hm M HM
    rwa [List.nil_append] at this
  obtain ⟨KL, HKL⟩ : ∃ y, Hid (y = kn p.reverse S I x) := ⟨_, (rfl : kn p.reverse S I x = _)⟩
  rw [← HKL.out] at DN ⊢
  clear hm hR hK HM HKL hsh
  go_enter Tryz.func73, Tryz.ntmps73
  go_wp2_with (first
    | (show aD 8 _ _ _ _ _ _ _ _ _ _ _; refine wpList_new_var rfl 24 rfl Z HA.out ?_; intro g8 w1 HM8; try simp only [Act.put, pS1, pS2, pS3])
    | fail)
  have h1s : w.heap.size + 1 < w1.heap.size := by have := heap_lt HM8.out.row; have e := HM8.out.new; simp at e; omega
  have h8a : w.heap.size < g8 := by have e := HM8.out.new; simp at e; omega
  have h8b : g8 < w1.heap.size := heap_lt HM8.out.row
  have HL1 := hidk ((HM8.out.below.block _ (by simp)).trans (heap_alloc_new w (.cells X 24)))
  have HB1 : Hid (Below w.heap.size w w1) := ((Below.refl _ _).alloc (Nat.le_refl _) _).trans (HM8.out.below.mono (by simp))
  have HB2 : Hid (Below w.heap.size w ((w1.alloc (.cells #[.slice none 0 0] 114)).alloc (.cells #[.func (.func 100) #[] #[.pointer (some ⟨w.heap.size, 0, none⟩), .pointer (some ⟨w1.heap.size + 1, 0, none⟩), .pointer (some ⟨w1.heap.size, 0, none⟩)]] 141))) := (HB1.out.alloc (by omega) _).alloc (by simp; omega) _
  have HF2 : Hid (((w1.alloc (.cells #[.slice none 0 0] 114)).alloc (.cells #[.func (.func 100) #[] #[.pointer (some ⟨w.heap.size, 0, none⟩), .pointer (some ⟨w1.heap.size + 1, 0, none⟩), .pointer (some ⟨w1.heap.size, 0, none⟩)]] 141)).heap[w1.heap.size + 1]? = some (.cells #[.func (.func 100) #[] #[.pointer (some ⟨w.heap.size, 0, none⟩), .pointer (some ⟨w1.heap.size + 1, 0, none⟩), .pointer (some ⟨w1.heap.size, 0, none⟩)]] 141 (0, 0))) := heap_alloc2_new w1 _ _
  have HKH : Hid (KH w.heap.size w.heap.size (w1.heap.size + 1) w1.heap.size X (.func (.func 100) #[] #[.pointer (some ⟨w.heap.size, 0, none⟩), .pointer (some ⟨w1.heap.size + 1, 0, none⟩), .pointer (some ⟨w1.heap.size, 0, none⟩)]) (.slice none 0 0) [] ((w1.alloc (.cells #[.slice none 0 0] 114)).alloc (.cells #[.func (.func 100) #[] #[.pointer (some ⟨w.heap.size, 0, none⟩), .pointer (some ⟨w1.heap.size + 1, 0, none⟩), .pointer (some ⟨w1.heap.size, 0, none⟩)]] 141))) := ⟨heap_keep (heap_keep HL1.out), HF2.out, heap_alloc2_old w1 _ _, World.ownsRow_nil _ _ _ _⟩
  have HR8 : Hid (((w1.alloc (.cells #[.slice none 0 0] 114)).alloc (.cells #[.func (.func 100) #[] #[.pointer (some ⟨w.heap.size, 0, none⟩), .pointer (some ⟨w1.heap.size + 1, 0, none⟩), .pointer (some ⟨w1.heap.size, 0, none⟩)]] 141)).heap[g8]? = some (.cells Z 24 (0, 0))) := heap_keep (heap_keep HM8.out.row)
  refine (DN.out _ _ _ HB2.out (by omega) (by omega) (by omega) HKH.out).mono ?_
  rintro e w2 ⟨rfl, v2, hH2, hG2⟩
  have HB3 := hidk (hG2.below HB2.out.size (by omega) (fun q e => by simp [Value.ownBlock] at e))
  have HR82 := hidk ((hG2.block g8 (by simp; omega) (by omega) (by simp [Value.ownBlock])).trans HR8.out)
  have HH2 := hidk hH2
  have h2s : w1.heap.size + 1 < w2.heap.size := heap_lt hH2.fn
  clear hH2 hG2 HKH HR8 HF2 HL1 HM8 DN
  go_wp2_with (first
    | (show aD 12 _ _ _ _ _ _ _ _ _ _ _; refine wpList_new_var rfl 24 rfl Z HA.out ?_; intro g12 w3 HM12; try simp only [Act.put, pS1, pS2, pS3])
    | (refine wpList_set_var rfl 24 (.tmp 12) (.tmp 18) rfl g12 M rfl rfl 24 Z HM12.out.row HSM.out HZM.out H1M.out ?_; intro w4 HW12; try simp only [Act.put, pS1, pS2, pS3])
    | fail)
  have hg12 : w2.heap.size ≤ g12 := Nat.le_of_eq HM12.out.new.symm
  have hb2 : w.heap.size + 1 < w2.heap.size := by omega
  have HH3 := hidk (HH2.out.keep HM12.out.below)
  have HH4 := hidk (HH3.out.wrote HW12.out (by omega) (by omega) (by omega) (own_apart HH3.out.own HM12.out.row (by decide)))
  have HB4 := hidk (HW12.out.below w.heap.size w ((HB2.out.trans HB3.out).trans (HM12.out.below.mono (by omega))) (by omega))
  have HR84 := hidk ((HW12.out.other g8 (by omega)).trans ((HM12.out.below.block _ (heap_lt HR82.out)).trans HR82.out))
  have HR12 := hidk HW12.out.row
  clear HH2 HH3 HM12 HW12 HR82 HB3
  refine wp_region_held_drew (S := (fun W => W.heap[g12]? = some (.cells M 24 (0, 0)) ∧ W.cell? ⟨w1.heap.size, 0, none⟩ = some v2)) (by kernel_rfl) ⟨HR12.out, cell_of_one HH4.out.drew.var⟩ (fun hHeld => ?_)
  refine zW 0 (.agg M) rfl (yieldsIf_row (by rfl) 24 (.tmp 12) rfl g12 rfl 24 M (0, 0) _ (fun _ h => h.1) Tryz.underlying24 rfl HSM.out) hHeld ?_
  try simp only [Act.put, pS1, pS2, pS3]
  refine zW 1 (v2) rfl (Or.inl ⟨by rfl, by intro W hSw; have h := hSw.2; go_simp⟩) hHeld ?_
  try simp only [Act.put, pS1, pS2, pS3]
  refine wpAnyH_ready (rs := [2]) (by kernel_rfl) (by simp) ?_
  refine (AllReadyH.cons (o := { dst := none, op := .store 24 (.tmp 8) (.tmp 19), type := 0, pos := "check.go:109", after := #[zD 0, zP 0, { on := 1, ground := Ground.textOnly Departure.lateStores }], guard := none }) rfl (fun K hK => ?_) AllReadyH.nil)
  refine step_set_var (by rfl) 24 (.tmp 8) (.tmp 19) rfl g8 M rfl rfl 24 Z HR84.out HSM.out HZM.out H1M.out ?_
  intro w5 HW8
  refine hK.out _ _ ⟨(HW8.out.other g12 (by omega)).trans hHeld.1, by rw [World.cell?_of_block (a := ⟨w1.heap.size, 0, none⟩) (HW8.out.other w1.heap.size (by omega))]; exact hHeld.2⟩ (fun hHeld => ?_)
  clear hK K
  try simp only [Act.put, pS1, pS2, pS3]
  refine zX 3 (v2) rfl hHeld ?_
  try simp only [Act.put, pS1, pS2, pS3]
  refine wpAnyH_done (by kernel_rfl) ?_ _
  have HH5 := hidk (HH4.out.drew.wrote HW8.out (by omega) (by omega) (by omega) (own_apart HH4.out.drew.own HR84.out (by decide)))
  go_wp2
  refine bodyPost_ret (v := .tuple #[.agg M, v2]) ?_ rfl ⟨v2, rfl, HH5.out.own, HW8.out.below w.heap.size w HB4.out.drew (by omega)⟩
  exact results_row_tmp (p := 8) (q := 9) (ty := 24) rfl _ _ g8 24 M (0, 0) _ rfl HW8.out.row Tryz.underlying24 rfl HSM.out
end Go.Proofs.YtkmedlfbkddmoaaGreatDoor.P5
/- What check.held answers: what is asked, or that it gave up. -/
namespace Go.Proofs.YtkmedlfbkddmoaaGreatDoor.P5
open Go.RowKit Sums
set_option maxRecDepth 100000
set_option linter.unusedVariables false
set_option linter.unusedSimpArgs false
theorem catch_panicking (p : Addr) (x : Int) (u : TypeId) (pv : Value) (older : List PanicEntry) (w : World) (hc : w.cell? p = some (.int .i64 x)) (hz : w.frozen? p = false) :
    CallsD Tryz.prog 99 #[.pointer (some p)] (.panicking ({ v := .iface u pv, recovered := false } :: older)) w fun e u' w' =>
      e = .returned (.tuple #[]) ∧ u' = .panicking ({ v := .iface u pv, recovered := true } :: older) ∧ w' = w.setCell p (.int .i64 40) := by
  refine callsD_of_wpS Tryz.func99 rfl fun c₀ cs hu => ?_
  apply wpS_seq
  apply wpS_region
  simp [wpOpsS, go_sem, recoverD, hu, Tryz.ntmps99, Exit.thenS]
  refine wpS_cond (t := true) (by simp [Act.eval, Array.replicate]) ?_
  simp only [if_true]
  apply wpS_region
  simp [wpOpsS, go_sem, hc, hz, bodyPostS, results, Tryz.results99]
theorem catch_idle (p : Addr) (w : World) :
    CallsD Tryz.prog 99 #[.pointer (some p)] .returning w fun e u' w' => e = .returned (.tuple #[]) ∧ u' = .returning ∧ w' = w := by
  refine callsD_of_wpS Tryz.func99 rfl fun c₀ cs hu => ?_
  apply wpS_seq
  apply wpS_region
  simp [wpOpsS, go_sem, recoverD, hu, Tryz.ntmps99, Exit.thenS]
  refine wpS_cond (t := false) (by simp [Act.eval, Array.replicate]) ?_
  simp only [Bool.false_eq_true, if_false]
  refine wpS_of_wp (wp_skip ?_)
  cases c₀
  simp_all [bodyPostS, results, Tryz.results99]
theorem cell_new_one (w w' : World) (x : Value) (t : TypeId) (hb : Below (w.alloc (.cells #[x] t)).heap.size (w.alloc (.cells #[x] t)) w') : w'.heap[w.heap.size]? = some (.cells #[x] t (0, 0)) :=
  (hb.block _ (by simp)).trans (heap_alloc_new w _)
set_option maxHeartbeats 1000000 in
theorem held_no (n : Nat) (caps : Array Value) (w : World) (hn : ∀ W, (callFunc n caps).run Tryz.prog W = .ok (.enter n caps) W) (hc : Hid (∀ W, Below w.heap.size w W → Calls Tryz.prog n caps W fun e w' => (∃ u p, e = .panicked [{ v := .iface u p, recovered := false }]) ∧ Below W.heap.size W w')) :
    Calls Tryz.prog 71 #[.func (.func n) #[] caps] w fun e w' => e = .returned (.int .i64 40) ∧ Below w.heap.size w w' := by
  have hmf : ∀ (fn : Fn) (first cap : Array Value) (w : World), (Instr.makeFunc fn first cap).run Tryz.prog w = .ok (.func fn first cap) w := fun _ _ _ _ => rfl
  have HB : Hid (Below w.heap.size w (w.alloc (.cells #[.int .i64 0] 41))) := (Below.refl _ _).alloc (Nat.le_refl _) _
  go_enter_defers Tryz.func71, Tryz.ntmps71
  go_wp2_with fail
  refine (hc.out _ HB.out).mono ?_
  rintro e w2 ⟨⟨u, p, rfl⟩, hb2⟩
  have h2 := cell_new_one w w2 _ _ hb2
  refine leaves_cons (f := 99) (args := #[.pointer (some ⟨w.heap.size, 0, none⟩)]) (by simp) (by simp [go_sem]) ?_
  refine (catch_panicking ⟨w.heap.size, 0, none⟩ 0 u _ [] _ (cell_of_one h2) (free_of_one h2)).mono ?_
  rintro e u' w3 ⟨rfl, rfl, rfl⟩
  have h3 := one_setCell (u := .int .i64 40) h2
  have hc3 := cell_of_one h3
  have hB3 : Below w.heap.size w (w2.setCell ⟨w.heap.size, 0, none⟩ (.int .i64 40)) := (HB.out.trans (hb2.mono HB.out.size)).setCell (Nat.le_refl _) _
  simp [Leaves, settle, results, Tryz.results71, go_sem, hc3, hB3]
set_option maxHeartbeats 1000000 in
theorem held_ok (n : Nat) (caps : Array Value) (w : World) (b : Bool) (hn : ∀ W, (callFunc n caps).run Tryz.prog W = .ok (.enter n caps) W) (hc : Hid (∀ W, Below w.heap.size w W → Calls Tryz.prog n caps W fun e w' => e = .returned (.bool b) ∧ Below W.heap.size W w')) :
    Calls Tryz.prog 71 #[.func (.func n) #[] caps] w fun e w' => e = .returned (.int .i64 (if b then 0 else 41)) ∧ Below w.heap.size w w' := by
  have hmf : ∀ (fn : Fn) (first cap : Array Value) (w : World), (Instr.makeFunc fn first cap).run Tryz.prog w = .ok (.func fn first cap) w := fun _ _ _ _ => rfl
  have HB : Hid (Below w.heap.size w (w.alloc (.cells #[.int .i64 0] 41))) := (Below.refl _ _).alloc (Nat.le_refl _) _
  have hnot : ∀ (x : Bool) (w : World), (Op.unary .not (.bool x)).run Tryz.prog w = .ok (.bool (!x)) w := fun _ _ => rfl
  cases b
  · go_enter_defers Tryz.func71, Tryz.ntmps71
    go_wp2_with fail
    refine (hc.out _ HB.out).mono ?_
    rintro e w2 ⟨rfl, hb2⟩
    have h2 := cell_new_one w w2 _ _ hb2
    have hc2 := cell_of_one h2
    have hf2 := free_of_one h2
    have HB2 := hidk (HB.out.trans (hb2.mono HB.out.size))
    clear hb2
    go_wp2
    refine leaves_cons (f := 99) (args := #[.pointer (some ⟨w.heap.size, 0, none⟩)]) (by simp) (by simp [go_sem]) ?_
    refine (catch_idle ⟨w.heap.size, 0, none⟩ _).mono ?_
    rintro e u' w3 ⟨rfl, rfl, rfl⟩
    have h3 := one_setCell (u := .int .i64 41) h2
    have hc3 := cell_of_one h3
    have hB3 : Below w.heap.size w (w2.setCell ⟨w.heap.size, 0, none⟩ (.int .i64 41)) := HB2.out.setCell (Nat.le_refl _) _
    simp [Leaves, settle, results, Tryz.results71, go_sem, hc3, hB3]
  · go_enter_defers Tryz.func71, Tryz.ntmps71
    go_wp2_with fail
    refine (hc.out _ HB.out).mono ?_
    rintro e w2 ⟨rfl, hb2⟩
    have h2 := cell_new_one w w2 _ _ hb2
    have hc2 := cell_of_one h2
    have hf2 := free_of_one h2
    have HB2 := hidk (HB.out.trans (hb2.mono HB.out.size))
    clear hb2
    go_wp2
    refine leaves_cons (f := 99) (args := #[.pointer (some ⟨w.heap.size, 0, none⟩)]) (by simp) (by simp [go_sem]) ?_
    refine (catch_idle ⟨w.heap.size, 0, none⟩ _).mono ?_
    rintro e u' w3 ⟨rfl, rfl, rfl⟩
    have h3 := one_setCell (u := .int .i64 0) h2
    have hc3 := cell_of_one h3
    have hB3 : Below w.heap.size w (w2.setCell ⟨w.heap.size, 0, none⟩ (.int .i64 0)) := HB2.out.setCell (Nat.le_refl _) _
    simp [Leaves, settle, results, Tryz.results71, go_sem, hc3, hB3]
end Go.Proofs.YtkmedlfbkddmoaaGreatDoor.P5
/- What check.Included answers. -/
namespace Go.Proofs.YtkmedlfbkddmoaaGreatDoor.P5
open Go.RowKit Sums
set_option maxRecDepth 100000
set_option linter.unusedVariables false
set_option linter.unusedSimpArgs false
structure Five (gr gs gi gl gp : Nat) (R : Array Value) (s i : Int) (X : Array Value) (a : Option Addr) (len cap : Nat) (W : World) : Prop where
  root : W.heap[gr]? = some (.cells R 24 (0, 0))
  size : W.heap[gs]? = some (.cells #[.int .i64 s] 3 (0, 0))
  index : W.heap[gi]? = some (.cells #[.int .i64 i] 3 (0, 0))
  leaf : W.heap[gl]? = some (.cells X 24 (0, 0))
  proof : W.heap[gp]? = some (.cells #[.slice a len cap] 38 (0, 0))
theorem Five.keep {gr gs gi gl gp : Nat} {R : Array Value} {s i : Int} {X : Array Value} {a : Option Addr} {len cap : Nat} {W W' : World} (h : Five gr gs gi gl gp R s i X a len cap W) (hb : Below W.heap.size W W') : Five gr gs gi gl gp R s i X a len cap W' :=
  ⟨(hb.block _ (heap_lt h.root)).trans h.root, (hb.block _ (heap_lt h.size)).trans h.size, (hb.block _ (heap_lt h.index)).trans h.index, (hb.block _ (heap_lt h.leaf)).trans h.leaf, (hb.block _ (heap_lt h.proof)).trans h.proof⟩
set_option maxHeartbeats 1000000 in
theorem incl1_no (S I : Nat) (x : List UInt8) (p : List (List UInt8)) (a : Option Addr) (len cap gr gs gi gl gp : Nat) (w : World) (R X : Array Value) (HX : Hid (X = (cellsOf x).toArray)) (hx : x.length = 32) (hS1 : 1 ≤ S) (hS : S ≤ 100000) (hI : I < S) (hF : Five gr gs gi gl gp R S I X a len cap w) (hR : LReads w a len cap p) (hm : (mkR p.reverse S I x).2 = false) :
    Calls Tryz.prog 72 #[.pointer (some ⟨gs, 0, none⟩), .pointer (some ⟨gi, 0, none⟩), .pointer (some ⟨gl, 0, none⟩), .pointer (some ⟨gp, 0, none⟩), .pointer (some ⟨gr, 0, none⟩)] w fun e w' => (∃ u p, e = .panicked [{ v := .iface u p, recovered := false }]) ∧ Below w.heap.size w w' := by
  have HSX : Hid ((Tryz.prog.info? 24).map (·.size) = some X.size) := by show _ = _; rw [size23, HX.out]; simp [cellsOf_length, hx]
  have LM : Hid (Calls Tryz.prog 73 #[.int .i64 S, .int .i64 I, .agg X, .slice a len cap] w fun e w' => (∃ u p, e = .panicked [{ v := .iface u p, recovered := false }]) ∧ Below w.heap.size w w') := leafMakes_no S I x p a len cap w X hS1 hS hI hR hm
  have hc0 := cell_of_one hF.size
  have hc1 := cell_of_one hF.index
  have hc3 := cell_of_one hF.proof
  have HL := hidk hF.leaf
  clear hm hR hF
  go_enter Tryz.func72, Tryz.ntmps72
  go_wp2_with (first
    | (show aD 11 _ _ _ _ _ _ _ _ _ _ _; refine wpList_load_row rfl 24 (.tmp 2) rfl gl rfl 24 X (0, 0) _ HL.out Tryz.underlying24 rfl HSX.out ?_; try simp only [Act.put, pS1, pS2, pS3])
    | fail)
  refine LM.out.mono ?_
  rintro e w2 ⟨⟨u, q, rfl⟩, hb2⟩
  exact ⟨rfl, ⟨_, _, rfl⟩, hb2⟩
set_option maxHeartbeats 1000000 in
theorem incl1_ok (root : List UInt8) (S I : Nat) (x : List UInt8) (p : List (List UInt8)) (a : Option Addr) (len cap gr gs gi gl gp : Nat) (w : World) (R X : Array Value) (HR : Hid (R = (cellsOf root).toArray)) (hr : root.length = 32) (HX : Hid (X = (cellsOf x).toArray)) (hx : x.length = 32) (hS1 : 1 ≤ S) (hS : S ≤ 100000) (hI : I < S) (hF : Five gr gs gi gl gp R S I X a len cap w) (hR : LReads w a len cap p) (hK : Table 1 w) (hm : (mkR p.reverse S I x).2 = true) :
    Calls Tryz.prog 72 #[.pointer (some ⟨gs, 0, none⟩), .pointer (some ⟨gi, 0, none⟩), .pointer (some ⟨gl, 0, none⟩), .pointer (some ⟨gp, 0, none⟩), .pointer (some ⟨gr, 0, none⟩)] w fun e w' => e = .returned (.bool (decide ((mkR p.reverse S I x).1 = root))) ∧ Below w.heap.size w w' := by
  obtain ⟨Z, HZ, HA, HS, H1, H32⟩ := noughts27
  have HSX : Hid ((Tryz.prog.info? 24).map (·.size) = some X.size) := by show _ = _; rw [size23, HX.out]; simp [cellsOf_length, hx]
  have HSR : Hid ((Tryz.prog.info? 24).map (·.size) = some R.size) := by show _ = _; rw [size23, HR.out]; simp [cellsOf_length, hr]
  obtain ⟨M, HM, HSM, H1M, H32M⟩ := dig_row' (mkR p.reverse S I x).1 (mkR_length sumD_length _ _ _ _ hx)
  have HZM : Hid (Z.size = M.size) := by show _ = _; rw [H32.out, H32M.out]
  obtain ⟨b, hb⟩ : ∃ b, decide ((mkR p.reverse S I x).1 = root) = b := ⟨_, rfl⟩
  have hq : ∀ W, (binOp .eql 24 (.agg M) (.agg R)).run Tryz.prog W = .ok (.bool b) W := fun W => eqDigV _ _ (mkR_length sumD_length _ _ _ _ hx) hr M R HM HR b hb W
  have LM : Hid (Calls Tryz.prog 73 #[.int .i64 S, .int .i64 I, .agg X, .slice a len cap] w fun e w' => ∃ v, e = .returned (.tuple #[.agg M, v]) ∧ w'.ownsRow w.heap.size 146 64 v (kn p.reverse S I x).length (cellsOf (kn p.reverse S I x).flatten) ∧ Below w.heap.size w w') := leafMakes_ok S I x p a len cap w X HX hx hS1 hS hI hR hK hm M HM
  have hc0 := cell_of_one hF.size
  have hc1 := cell_of_one hF.index
  have hc3 := cell_of_one hF.proof
  have HL := hidk hF.leaf
  have HRT := hidk hF.root
  rw [hb]
  clear hm hR hF hK hb
  go_enter Tryz.func72, Tryz.ntmps72
  go_wp2_with (first
    | (show aD 11 _ _ _ _ _ _ _ _ _ _ _; refine wpList_load_row rfl 24 (.tmp 2) rfl gl rfl 24 X (0, 0) _ HL.out Tryz.underlying24 rfl HSX.out ?_; try simp only [Act.put, pS1, pS2, pS3])
    | fail)
  refine LM.out.mono ?_
  rintro e w2 ⟨v, rfl, _, hb2⟩
  have HR2 := hidk ((hb2.block _ (heap_lt HRT.out)).trans HRT.out)
  clear HL HRT LM hc0 hc1 hc3
  go_wp2_with (first
    | (show aD 6 _ _ _ _ _ _ _ _ _ _ _; refine wpList_new_var rfl 24 rfl Z HA.out ?_; intro g6 w3 HM6; try simp only [Act.put, pS1, pS2, pS3])
    | (refine wpList_set_var rfl 24 (.tmp 6) (.tmp 14) rfl g6 M rfl rfl 24 Z HM6.out.row HSM.out HZM.out H1M.out ?_; intro w4 HW6; have HR4 := hidk ((HW6.out.other gr (by have := HM6.out.new; have := heap_lt HR2.out; omega)).trans ((HM6.out.below.block _ (heap_lt HR2.out)).trans HR2.out)); try simp only [Act.put, pS1, pS2, pS3])
    | (show aD 16 _ _ _ _ _ _ _ _ _ _ _; refine wpList_load_row rfl 24 (.tmp 6) rfl g6 rfl 24 M (0, 0) _ HW6.out.row Tryz.underlying24 rfl HSM.out ?_; try simp only [Act.put, pS1, pS2, pS3])
    | (show aD 17 _ _ _ _ _ _ _ _ _ _ _; refine wpList_load_row rfl 24 (.tmp 4) rfl gr rfl 24 R (0, 0) _ HR4.out Tryz.underlying24 rfl HSR.out ?_; try simp only [Act.put, pS1, pS2, pS3])
    | fail)
  go_ret
  refine ⟨rfl, HW6.out.below w.heap.size w (hb2.trans (HM6.out.below.mono hb2.size)) ?_⟩
  rw [HM6.out.new]
  exact hb2.size
theorem five_new (w : World) (R X : Array Value) (size index : Int) (a : Option Addr) (len cap : Nat) : Five w.heap.size (w.heap.size + 1) (w.heap.size + 2) (w.heap.size + 3) (w.heap.size + 4) R size index X a len cap (((((w.alloc (.cells R 24)).alloc (.cells #[.int .i64 size] 3)).alloc (.cells #[.int .i64 index] 3)).alloc (.cells X 24)).alloc (.cells #[.slice a len cap] 38)) ∧ Below w.heap.size w (((((w.alloc (.cells R 24)).alloc (.cells #[.int .i64 size] 3)).alloc (.cells #[.int .i64 index] 3)).alloc (.cells X 24)).alloc (.cells #[.slice a len cap] 38)) := by
  refine ⟨⟨heap_keep (heap_keep (heap_keep (heap_keep (heap_alloc_new w _)))), heap_keep (heap_keep (heap_keep ?_)), heap_keep (heap_keep ?_), heap_keep ?_, ?_⟩, ?_⟩
  · have := heap_alloc_new (w.alloc (.cells R 24)) (.cells #[.int .i64 size] 3)
    simpa using this
  · have := heap_alloc_new ((w.alloc (.cells R 24)).alloc (.cells #[.int .i64 size] 3)) (.cells #[.int .i64 index] 3)
    simpa using this
  · have := heap_alloc_new (((w.alloc (.cells R 24)).alloc (.cells #[.int .i64 size] 3)).alloc (.cells #[.int .i64 index] 3)) (.cells X 24)
    simpa using this
  · have := heap_alloc_new ((((w.alloc (.cells R 24)).alloc (.cells #[.int .i64 size] 3)).alloc (.cells #[.int .i64 index] 3)).alloc (.cells X 24)) (.cells #[.slice a len cap] 38)
    simpa using this
  · exact ((((((Below.refl _ _).alloc (Nat.le_refl _) _).alloc (by simp) _).alloc (by simp; omega) _).alloc (by simp; omega) _).alloc (by simp; omega) _)
set_option maxHeartbeats 1000000 in
theorem included_out (root : List UInt8) (size index : Int) (a : Option Addr) (len cap : Nat) (w : World) (R X : Array Value) (h : ¬ (1 ≤ size ∧ size ≤ 100000 ∧ 0 ≤ index ∧ index < size)) :
    Calls Tryz.prog 44 #[.agg R, .int .i64 size, .int .i64 index, .agg X, .slice a len cap] w fun e w' => e = .returned (.int .i64 40) ∧ Below w.heap.size w w' := by
  have HB := hidk (five_new w R X size index a len cap).2
  have hF := (five_new w R X size index a len cap).1
  have hc1 := cell_of_one hF.size
  have hc2 := cell_of_one hF.index
  clear hF
  by_cases h1 : size < 1
  · have d1 : decide (size < 1) = true := by rw [decide_eq_true_eq]; exact h1
    clear h h1
    go_enter Tryz.func44, Tryz.ntmps44
    go_wp2
    go_ret
    exact ⟨rfl, HB.out⟩
  · have d1 : decide (size < 1) = false := by rw [decide_eq_false_iff_not]; exact h1
    by_cases h2 : 100000 < size
    · have d2 : decide (100000 < size) = true := by rw [decide_eq_true_eq]; exact h2
      clear h h1 h2
      go_enter Tryz.func44, Tryz.ntmps44
      go_wp2
      go_ret
      exact ⟨rfl, HB.out⟩
    · have d2 : decide (100000 < size) = false := by rw [decide_eq_false_iff_not]; exact h2
      by_cases h3 : index < 0
      · have d3 : decide (index < 0) = true := by rw [decide_eq_true_eq]; exact h3
        clear h h1 h2 h3
        go_enter Tryz.func44, Tryz.ntmps44
        go_wp2
        go_ret
        exact ⟨rfl, HB.out⟩
      · have d3 : decide (index < 0) = false := by rw [decide_eq_false_iff_not]; exact h3
        have d4 : decide (size ≤ index) = true := by rw [decide_eq_true_eq]; omega
        clear h h1 h2 h3
        go_enter Tryz.func44, Tryz.ntmps44
        go_wp2
        go_ret
        exact ⟨rfl, HB.out⟩
set_option maxHeartbeats 1000000 in
theorem included_in (root : List UInt8) (S I : Nat) (x : List UInt8) (p : List (List UInt8)) (a : Option Addr) (len cap : Nat) (w : World) (R X : Array Value) (HR : Hid (R = (cellsOf root).toArray)) (hr : root.length = 32) (HX : Hid (X = (cellsOf x).toArray)) (hx : x.length = 32) (hS1 : 1 ≤ S) (hS : S ≤ 100000) (hI : I < S) (hR : LReads w a len cap p) (hK : Table 1 w) :
    Calls Tryz.prog 44 #[.agg R, .int .i64 S, .int .i64 I, .agg X, .slice a len cap] w fun e w' => e = .returned (.int .i64 (incE root S I x p)) ∧ Below w.heap.size w w' := by
  have hmf : ∀ (fn : Fn) (first cap : Array Value) (w : World), (Instr.makeFunc fn first cap).run Tryz.prog w = .ok (.func fn first cap) w := fun _ _ _ _ => rfl
  have HF := hidk (five_new w R X S I a len cap)
  have hc1 := cell_of_one HF.out.1.size
  have hc2 := cell_of_one HF.out.1.index
  have HD : Hid (∀ W, (((((w.alloc (.cells R 24)).alloc (.cells #[.int .i64 S] 3)).alloc (.cells #[.int .i64 (I : Int)] 3)).alloc (.cells X 24)).alloc (.cells #[.slice a len cap] 38)) = W → Calls Tryz.prog 71 #[.func (.func 72) #[] #[.pointer (some ⟨(w.heap.size + 1), 0, none⟩), .pointer (some ⟨(w.heap.size + 2), 0, none⟩), .pointer (some ⟨(w.heap.size + 3), 0, none⟩), .pointer (some ⟨(w.heap.size + 4), 0, none⟩), .pointer (some ⟨w.heap.size, 0, none⟩)]] W fun e w' => e = .returned (.int .i64 (incE root S I x p)) ∧ Below W.heap.size W w') := fun W hW => by
    subst hW
    rw [incE_in root S I x p hS1 hS hI]
    by_cases hm : (mkR p.reverse S I x).2 = true
    · rw [if_pos hm]
      have := held_ok 72 _ _ (decide ((mkR p.reverse S I x).1 = root)) (fun _ => by simp [go_sem]) (fun W' hb => incl1_ok root S I x p a len cap _ _ _ _ _ W' R X HR hr HX hx hS1 hS hI (HF.out.1.keep hb) ((hR.keep HF.out.2).keep hb) ((hK.keep HF.out.2).keep hb) hm)
      simpa using this
    · rw [if_neg hm]
      exact held_no 72 _ _ (fun _ => by simp [go_sem]) (fun W' hb => incl1_no S I x p a len cap _ _ _ _ _ W' R X HX hx hS1 hS hI (HF.out.1.keep hb) ((hR.keep HF.out.2).keep hb) (by simpa using hm))
  have d1 : decide ((S : Int) < 1) = false := by rw [decide_eq_false_iff_not]; omega
  have d1' : decide (S < 1) = false := by rw [decide_eq_false_iff_not]; omega
  have d2 : decide (100000 < (S : Int)) = false := by rw [decide_eq_false_iff_not]; omega
  have d2' : decide (100000 < S) = false := by rw [decide_eq_false_iff_not]; omega
  have d3 : decide ((I : Int) < 0) = false := by rw [decide_eq_false_iff_not]; omega
  have d4 : decide ((S : Int) ≤ (I : Int)) = false := by rw [decide_eq_false_iff_not]; omega
  have d4' : decide (S ≤ I) = false := by rw [decide_eq_false_iff_not]; omega
  obtain ⟨E, hE⟩ : ∃ E, E = incE root S I x p := ⟨_, rfl⟩
  rw [← hE] at HD ⊢
  have HB := hidk HF.out.2
  clear hK hR HF hE
  go_enter Tryz.func44, Tryz.ntmps44
  go_wp2_with fail
  refine (HD.out _ rfl).mono ?_
  rintro e w2 ⟨rfl, hb2⟩
  have HB2 := hidk (HB.out.trans (hb2.mono HB.out.size))
  clear hb2 HD
  go_wp2
  go_ret
  exact ⟨rfl, HB2.out⟩
end Go.Proofs.YtkmedlfbkddmoaaGreatDoor.P5
/- What check.growthMakes answers: what a proof of consistency makes; or it gives up. -/
namespace Go.Proofs.YtkmedlfbkddmoaaGreatDoor.P5
open Go.RowKit Sums
set_option maxRecDepth 100000
set_option linter.unusedVariables false
set_option linter.unusedSimpArgs false
attribute [local go_sem] store_func
end Go.Proofs.YtkmedlfbkddmoaaGreatDoor.P5
/- What check.Consistent answers. -/
namespace Go.Proofs.YtkmedlfbkddmoaaGreatDoor.P5
open Go.RowKit Sums
set_option maxRecDepth 100000
set_option linter.unusedVariables false
set_option linter.unusedSimpArgs false
attribute [local go_sem] store_func
structure FiveC (gm go gn gr gp : Nat) (m : Int) (O : Array Value) (n : Int) (R : Array Value) (a : Option Addr) (len cap : Nat) (W : World) : Prop where
  first : W.heap[gm]? = some (.cells #[.int .i64 m] 3 (0, 0))
  old : W.heap[go]? = some (.cells O 24 (0, 0))
  all : W.heap[gn]? = some (.cells #[.int .i64 n] 3 (0, 0))
  root : W.heap[gr]? = some (.cells R 24 (0, 0))
  proof : W.heap[gp]? = some (.cells #[.slice a len cap] 38 (0, 0))
theorem FiveC.keep {gm go gn gr gp : Nat} {m n : Int} {O R : Array Value} {a : Option Addr} {len cap : Nat} {W W' : World} (h : FiveC gm go gn gr gp m O n R a len cap W) (hb : Below W.heap.size W W') : FiveC gm go gn gr gp m O n R a len cap W' :=
  ⟨(hb.block _ (heap_lt h.first)).trans h.first, (hb.block _ (heap_lt h.old)).trans h.old, (hb.block _ (heap_lt h.all)).trans h.all, (hb.block _ (heap_lt h.root)).trans h.root, (hb.block _ (heap_lt h.proof)).trans h.proof⟩
end Go.Proofs.YtkmedlfbkddmoaaGreatDoor.P5
/- What the calls of package check answer, where Clash is not reached. -/
namespace Go.Proofs.YtkmedlfbkddmoaaGreatDoor.P5
open Go.RowKit Sums
set_option maxRecDepth 100000
set_option linter.unusedVariables false
theorem included_any (root : List UInt8) (size index : Int) (x : List UInt8) (p : List (List UInt8)) (a : Option Addr) (len cap : Nat) (w : World) (R X : Array Value) (HR : Hid (R = (cellsOf root).toArray)) (HX : Hid (X = (cellsOf x).toArray)) (hr : root.length = 32) (hx : x.length = 32) (hR : LReads w a len cap p) (hK : Table 1 w) :
    Calls Tryz.prog 44 #[.agg R, .int .i64 size, .int .i64 index, .agg X, .slice a len cap] w fun e w' => e = .returned (.int .i64 (incE root size index x p)) ∧ Below w.heap.size w w' := by
  by_cases h : 1 ≤ size ∧ size ≤ 100000 ∧ 0 ≤ index ∧ index < size
  · obtain ⟨S, rfl⟩ : ∃ S : Nat, size = S := ⟨size.toNat, by omega⟩
    obtain ⟨I, rfl⟩ : ∃ I : Nat, index = I := ⟨index.toNat, by omega⟩
    exact included_in root S I x p a len cap w R X HR hr HX hx (by omega) (by omega) (by omega) hR hK
  · rw [incE_out root size index x p h]
    exact included_out root size index a len cap w R X h
theorem checkC : CheckC where
  included := fun root size index leaf proof a len cap w R X HR HX hr hx hs hi hR hK => included_any root size index leaf proof a len cap w R X HR HX hr hx hR hK.sha
end Go.Proofs.YtkmedlfbkddmoaaGreatDoor.P5
