/- Texts of our own that the row of HistoryFirst leans on, part 26. -/
import Derived.Test.YtgclohgcehhfnabDoorHistoryFirstJ24
import Derived.Great.BuildSlice

/- Literals of lists of digests. -/
namespace Go.Proofs.YtgclohgcehhfnabDoor
open Go.RowKit Sums
set_option maxRecDepth 100000
set_option linter.unusedVariables false
set_option linter.unusedSimpArgs false
theorem fold_setD (D : List Value) : ∀ (k off : Nat) (cs : Array Value) (pre old rest : List Value), cs.toList = pre ++ old ++ rest → pre.length = off + k → old.length = D.length →
    ((D.zipIdx k).foldl (fun cs (c, j) => cs.setIfInBounds (off + j) c) cs).toList = pre ++ D ++ rest := by
  induction D with
  | nil =>
    intro k off cs pre old rest h hp ho
    have : old = [] := List.eq_nil_of_length_eq_zero ho
    subst this
    simpa using h
  | cons d D ih =>
    intro k off cs pre old rest h hp ho
    match old, ho with
    | x :: old, ho =>
      rw [List.zipIdx_cons, List.foldl_cons]
      have := ih (k + 1) off (cs.setIfInBounds (off + k) d) (pre ++ [d]) old rest (by
        rw [Array.toList_setIfInBounds, h, ← hp]
        simp) (by simp; omega) (by simpa using ho)
      rw [this]
      simp
theorem fill_rows (ds : List (List Value)) : ∀ (k : Nat) (cs : Array Value) (pre old : List Value), cs.toList = pre ++ old → pre.length = k * 32 → (∀ d ∈ ds, d.length = 32) → old.length = ds.length * 32 →
    Instr.fill (fun i => some (i * 32, 32)) cs ((ds.zipIdx k).map fun x => (x.2, Value.agg x.1.toArray)) = some (pre ++ ds.flatten).toArray := by
  induction ds with
  | nil =>
    intro k cs pre old h hp hd ho
    have : old = [] := List.eq_nil_of_length_eq_zero (by simpa using ho)
    subst this
    simp only [List.zipIdx_nil, List.map_nil, Instr.fill, List.flatten_nil, ← h]
  | cons d ds ih =>
    intro k cs pre old h hp hd ho
    have h32 := hd d (List.mem_cons_self ..)
    simp only [List.length_cons] at ho
    have hcs : cs.size = k * 32 + old.length := by rw [← Array.length_toList, h, List.length_append, hp]
    rw [List.zipIdx_cons, List.map_cons]
    unfold Instr.fill
    have hsz : (Value.agg d.toArray).cells.size = 32 := by show d.toArray.size = 32; simp [h32]
    simp only [hsz]
    rw [if_neg (by simp; omega)]
    refine (ih (k + 1) _ (pre ++ d) (old.drop 32) ?_ (by simp; omega) (fun x hx => hd x (List.mem_cons_of_mem _ hx)) (by simp; omega)).trans (by simp)
    have := fold_setD d 0 (k * 32) cs pre (old.take 32) (old.drop 32) (by rw [h, List.append_assoc, List.take_append_drop]) (by omega) (by simp; omega)
    rw [← this, ← Array.foldl_toList]
    congr 2
    simp [Value.cells]
/-- A literal of digests: its cells, one digest behind the other. -/
theorem run_build_digs (w : World) (n : Nat) (ds : List (List UInt8)) (hd : Digs32 ds) (hn : ds.length = n) (h1 : 0 < n) (h2 : n ≤ 100) (parts : Array (Nat × Value)) (hp : parts.toList = ((ds.map cellsOf).zipIdx 0).map fun x => (x.2, Value.agg x.1.toArray)) :
    (Instr.buildSlice 31 n parts).run Tryd.prog w = .ok (.slice (some ⟨w.heap.size, 0, none⟩) n n) (w.alloc (.cells (cellsOf ds.flatten).toArray 28)) := by
  cases hie : Tryd.prog.info? 28 with
  | none => have := zero27; simp [hie] at this
  | some ie =>
    have hz := zero27
    rw [hie] at hz
    simp only [Option.map_some, Option.some.injEq, Prod.mk.injEq] at hz
    obtain ⟨hz, hs⟩ := hz
    refine run_buildSlice w 31 28 n parts _ ie _ Tryd.underlying31 hie hz (by rw [hs]; omega) (by rw [hs]; omega) ?_
    rw [hs, hp]
    have e : (ds.map cellsOf).flatten = cellsOf ds.flatten := by
      unfold cellsOf
      rw [List.map_flatten]
    generalize hcs : Array.map _ (Array.range (n * 32)) = cs
    have hcz : cs.size = n * 32 := by rw [← hcs]; simp
    rw [fill_rows (ds.map cellsOf) 0 cs [] cs.toList rfl rfl (fun d h => by
      obtain ⟨x, hx, rfl⟩ := List.mem_map.1 h
      rw [cellsOf_length]; exact hd x hx) (by simp [hcz, hn]), e]
    rfl
theorem build_one (w : World) (d : List UInt8) (hd : d.length = 32) (D : Array Value) (HD : Hid (D = (cellsOf d).toArray)) :
    (Instr.buildSlice 31 1 #[(0, .agg D)]).run Tryd.prog w = .ok (.slice (some ⟨w.heap.size, 0, none⟩) 1 1) (w.alloc (.cells D 28)) := by
  rw [HD.out, run_build_digs w 1 [d] (.one hd) rfl (by omega) (by omega) _ (by simp)]
  simp
/-- A literal of a list, as one step of a region that draws its order, and of a plain one. -/
theorem wp_build_run {P : Program} {o : Oper} {a : Act} {w : World} {K : Act → World → Prop} {Q : Exit → Act → World → Prop} (t : TypeId) (n : Nat) (parts : Array (Nat × Operand)) (ho : o.op = .buildSlice t n parts) (vals : Array (Nat × Value)) (hv : (parts.toList.map fun p => (p.1, a.eval p.2)) = vals.toList)
    (s : Value) (w' : World) (hrun : (Instr.buildSlice t n vals).run P w = .ok s w') (h : K (a.put o.dst s) w') : o.wp P a w K Q := by
  have hv' : (parts.map fun (i, x) => (i, a.eval x)) = vals := by
    apply Array.ext'
    rw [Array.toList_map, ← hv]
  subst hv'
  unfold Oper.wp execOp
  simp only [ho, Sem.run_bind, hrun, Result.andThen_ok]
  exact h
theorem step_build_run {P : Program} {ops : Array Oper} {o : Oper} {a : Act} {w : World} {K : Act → World → Prop} {Q : Exit → Act → World → Prop} {E : Prop} (hw : Region.wanted o (yielded ops a.tmps) = true) (t : TypeId) (n : Nat) (parts : Array (Nat × Operand)) (ho : o.op = .buildSlice t n parts) (vals : Array (Nat × Value)) (hv : (parts.toList.map fun p => (p.1, a.eval p.2)) = vals.toList)
    (s : Value) (w' : World) (hrun : (Instr.buildSlice t n vals).run P w = .ok s w') (h : K (a.put o.dst s) w') : if Region.wanted o (yielded ops a.tmps) = true then Oper.wp P o a w K Q else E := by
  rw [if_pos hw]
  exact wp_build_run t n parts ho vals hv s w' hrun h
theorem wpList_build_run {P : Program} {ops : Array Oper} {rest : List Oper} {o : Oper} {a : Act} {w : World} {Q : Exit → Act → World → Prop} (hg : o.guard = none) (t : TypeId) (n : Nat) (parts : Array (Nat × Operand)) (ho : o.op = .buildSlice t n parts) (vals : Array (Nat × Value)) (hv : (parts.toList.map fun p => (p.1, a.eval p.2)) = vals.toList)
    (s : Value) (w' : World) (hrun : (Instr.buildSlice t n vals).run P w = .ok s w') (h : wpList P ops Q rest (a.put o.dst s) w') : wpList P ops Q (o :: rest) a w :=
  wpList_plain hg fun _ hK => wp_build_run t n parts ho vals hv s w' hrun (hK _ _ h)
/-- A literal of digests that has just been laid can be read. -/
theorem LReads.new (W : World) (ds : List (List UInt8)) (n : Nat) (hn : ds.length = n) (hd : Digs32 ds) (h1 : n ≤ 100) (L : Array Value) (HL : Hid (L = (cellsOf ds.flatten).toArray)) : LReads (W.alloc (.cells L 28)) (some ⟨W.heap.size, 0, none⟩) n n ds := by
  refine ⟨hn, hd, Nat.le_refl _, by unfold maxLen; omega, .inr ⟨_, _, rfl, fun i hi => ?_⟩⟩
  rw [Nat.zero_add, cell_of_row _ _ i _ 28 (0, 0) (heap_alloc_new W _), HL.out]
  simp [cellsOf_at _ i hi]
end Go.Proofs.YtgclohgcehhfnabDoor

/- What the document's behind and Inclusion answer. -/
namespace Go.Proofs.YtgclohgcehhfnabDoor
open Go.RowKit Sums
set_option maxRecDepth 100000
set_option linter.unusedVariables false
set_option linter.unusedSimpArgs false

end Go.Proofs.YtgclohgcehhfnabDoor

/- What the document's Consistency answers. -/
namespace Go.Proofs.YtgclohgcehhfnabDoor
open Go.RowKit Sums
set_option maxRecDepth 100000
set_option linter.unusedVariables false
set_option linter.unusedSimpArgs false
/-- The proof of a beginning of m, which may be 0. -/
def goesAt (l : List (List UInt8)) (m : Nat) : List (List UInt8) := if m = 0 then [] else goes l m true
end Go.Proofs.YtgclohgcehhfnabDoor

/- What tree.Inclusion answers: the proof of a place. -/
namespace Go.Proofs.YtgclohgcehhfnabDoor
open Go.RowKit Sums
set_option maxRecDepth 100000
set_option linter.unusedVariables false
set_option linter.unusedSimpArgs false

attribute [local go_sem] store_func
/-- The function that proves, as a value. -/
def FI (gp gf : Nat) : Value := .func (.func 26) #[] #[.pointer (some ⟨gf, 0, none⟩), .pointer (some ⟨gp, 0, none⟩)]
set_option maxHeartbeats 2000000 in
theorem prove_any (n : Nat) (g o len cap i : Nat) (l acc : List (List UInt8)) (B gp gf : Nat) (v : Value) (w : World) (hn : len = n) (hR : LReads w (some ⟨g, o, none⟩) len cap l) (hg : g < B) (hi : i < len)
    (hp : B ≤ gp) (hne : gp ≠ gf) (hac : acc.length + len ≤ 1000000) (hBw : B ≤ w.heap.size) (hH : Holds B gp gf 67 (FI gp gf) v acc w) (hK : Table 0 w) (hKB : 0 < B) :
    Calls Tryd.prog 26 #[.slice (some ⟨g, o, none⟩) len cap, .int .i64 i, .pointer (some ⟨gf, 0, none⟩), .pointer (some ⟨gp, 0, none⟩)] w fun e w' =>
      e = .returned (.tuple #[]) ∧ (∃ v', Holds B gp gf 67 (FI gp gf) v' (acc ++ incl l i) w') ∧ Below B w w' := by
  induction n using Nat.strongRecOn generalizing g o len cap i l acc v w with
  | _ n ih =>
    subst hn
    have htf : 67 ≠ 28 := by decide
    have hlen := hR.1
    have hmx : len ≤ 9223372036854775807 := by have := hR.2.2.2.1; unfold maxLen at this; omega
    by_cases h1 : len = 1
    · subst h1
      rw [incl_one l i (by omega), List.append_nil]
      have HH : Hid (Holds B gp gf 67 (FI gp gf) v acc w) := hH
      clear hK hR ih hH hlen
      go_enter Tryd.func26, Tryd.ntmps26
      go_wp2
      refine bodyPost_ret (results_none rfl _ _ _) rfl ?_
      exact ⟨rfl, ⟨_, HH.out⟩, Below.refl _ _⟩
    · have h2 : 2 ≤ len := by omega
      obtain ⟨k, hk⟩ : ∃ k, k = split len := ⟨_, rfl⟩
      have hkl := split_lt len h2
      have hkp := split_pos len h2
      rw [← hk] at hkl hkp
      have hcl := hR.2.2.1
      have hml := hR.2.2.2.1
      have P : Hid (∀ W, Calls Tryd.prog 24 #[.slice (some ⟨g, o, none⟩) len cap] W fun e w' => e = .returned (.tuple #[.slice (some ⟨g, o, none⟩) k cap, .slice (some ⟨g, o + 32 * k, none⟩) (len - k) (cap - k)]) ∧ Below W.heap.size W w') := fun W => parted_any g o len cap k W hk h2 hcl hml
      have low : ∀ g' o', some (⟨g, o, none⟩ : Addr) = some ⟨g', o', none⟩ → 0 < len → g' < B := fun g' o' e _ => by cases e; exact hg
      by_cases hik : i < k
      · -- the left part
        have HE : Hid (acc ++ incl l i = (acc ++ incl (l.take k) i) ++ [root (l.drop k)]) := by
          show _ = _
          rw [incl_left l i (by omega) (by rw [hlen, ← hk]; exact hik), hlen, ← hk, List.append_assoc]
        have IH : Hid (∀ W v, Below B w W → Holds B gp gf 67 (FI gp gf) v acc W → Calls Tryd.prog 26 #[.slice (some ⟨g, o, none⟩) k cap, .int .i64 i, .pointer (some ⟨gf, 0, none⟩), .pointer (some ⟨gp, 0, none⟩)] W fun e w' =>
            e = .returned (.tuple #[]) ∧ (∃ v', Holds B gp gf 67 (FI gp gf) v' (acc ++ incl (l.take k) i) w') ∧ Below B W w') := fun W v hb hh => by
          exact ih k hkl g o k cap i (l.take k) acc v W rfl ((hR.below hb low).take k (by omega)) hg (by omega) (by omega) (Nat.le_trans hBw hb.size) hh (table_low hK hb hKB)
        obtain ⟨D, HD⟩ : ∃ D, Hid (D = (cellsOf (root (l.drop k))).toArray) := ⟨_, (rfl : (cellsOf (root (l.drop k))).toArray = _)⟩
        have hdd : (root (l.drop k)).length = 32 := root_length sumD_length _ (hR.2.1.drop k)
        have RR : Hid (∀ W, Below B w W → Calls Tryd.prog 16 #[.slice (some ⟨g, o + 32 * k, none⟩) (len - k) (cap - k)] W fun e w' => e = .returned (.agg D) ∧ Below W.heap.size W w') := fun W hb =>
          root_any _ _ _ _ (l.drop k) W rfl ((hR.below hb low).drop k (by omega)) (table_low hK hb hKB) D HD
        have hsh : (acc ++ incl (l.take k) i).length + 1 ≤ 1000000 := by
          have := incl_len (l.take k) i (by simp only [List.length_take, List.length_drop]; omega)
          simp only [List.length_append, List.length_take, List.length_drop] at this ⊢
          omega
        obtain ⟨acc2, HA2⟩ : ∃ x, Hid (x = acc ++ incl (l.take k) i) := ⟨_, (rfl : acc ++ incl (l.take k) i = _)⟩
        rw [← HA2.out] at HE hsh IH
        have HH0 : Hid (Holds B gp gf 67 (FI gp gf) v acc w) := hH
        have hdl : (decide ((i : Int) < (k : Int))) = true := by rw [decide_eq_true_eq]; omega
        clear hK hR ih hH hlen hk HA2 low hac
        go_enter Tryd.func26, Tryd.ntmps26
        go_wp2_with fail
        refine (P.out _).mono ?_
        rintro e w1 ⟨rfl, hb1⟩
        have HH1 : Hid (Holds B gp gf 67 (FI gp gf) v acc w1) := HH0.out.keep hb1
        have hB1 : Below B w w1 := hb1.mono hBw
        have hcf : w1.cell? ⟨gf, 0, none⟩ = some (.func (.func 26) #[] #[.pointer (some ⟨gf, 0, none⟩), .pointer (some ⟨gp, 0, none⟩)]) := cell_of_one HH1.out.prove
        clear hb1 P HH0
        go_wp2_with fail
        refine (IH.out _ _ hB1 HH1.out).mono ?_
        rintro e w2 ⟨rfl, ⟨v2, hh2⟩, hb2⟩
        have HH : Hid (Holds B gp gf 67 (FI gp gf) v2 acc2 w2.drew) := hh2.drew
        have hB : Below B w w2.drew := (hB1.trans hb2).drew
        clear hb2 hh2 hB1 HH1 hcf IH
        go_wp2
        refine wp_region_held_drew (S := (fun _ => True)) (by kernel_rfl) trivial (fun hHeld => ?_)
        refine wpAnyH_take (i := 1) (oi := { dst := some 25, op := Op.move (Operand.tmp 7), type := 31, pos := "tree.go:51", after := #[], guard := none }) (v := .slice (some ⟨g, o + 32 * k, none⟩) (len - k) (cap - k)) rfl (by kernel_rfl) (by kernel_rfl) (by kernel_rfl) (fun _ _ _ h => h) (Or.inl ⟨by rfl, by intro W hSw; go_simp⟩) hHeld ?_
        try simp only [Act.put, List.setIfInBounds_toArray, List.set_cons_zero, List.set_cons_succ]
        refine wpAnyH_ready (rs := [0, 2]) (by kernel_rfl) (by simp) ?_
        refine (AllReadyH.cons (o := { dst := some 24, op := Op.load 31 (Operand.tmp 3), type := 31, pos := "tree.go:51", after := #[], guard := none }) rfl (fun K hK => ?_) (AllReadyH.cons (o := { dst := some 26, op := Op.call { callee := Callee.value (Operand.func 16), args := #[Operand.tmp 25], argTypes := #[31] }, type := 28, pos := "tree.go:51", after := #[{ on := 1, ground := Ground.data }], guard := none }) rfl (fun K hK => ?_) AllReadyH.nil))
        · have hc := cell_of_one HH.out.proof
          go_simp
          clear hc
          refine hK.out _ _ trivial (fun hHeld => ?_)
          clear hK K
          try simp only [Act.put, List.setIfInBounds_toArray, List.set_cons_zero, List.set_cons_succ]
          refine wpAnyH_ready (rs := [2]) (by kernel_rfl) (by simp) ?_
          refine (AllReadyH.cons (o := { dst := some 26, op := Op.call { callee := Callee.value (Operand.func 16), args := #[Operand.tmp 25], argTypes := #[31] }, type := 28, pos := "tree.go:51", after := #[{ on := 1, ground := Ground.data }], guard := none }) rfl (fun K hK => ?_) AllReadyH.nil)
          go_simp
          refine (RR.out _ hB).mono ?_
          rintro e w2 ⟨rfl, hb2⟩
          replace HH := hidk (HH.out.keep hb2)
          replace hB := hB.trans (hb2.mono (Nat.le_trans hBw hB.size))
          go_wp2_with fail
          refine hK.out _ _ trivial (fun hHeld => ?_)
          clear hK K
          try simp only [Act.put, List.setIfInBounds_toArray, List.set_cons_zero, List.set_cons_succ]
          refine wpAnyH_ready (rs := [3]) (by kernel_rfl) (by simp) ?_
          refine (AllReadyH.cons (o := { dst := some 27, op := Op.buildSlice 31 1 #[(0, Operand.tmp 26)], type := 31, pos := "tree.go:51", after := #[{ on := 2, ground := Ground.data }], guard := none }) rfl (fun K hK => ?_) AllReadyH.nil)
          refine step_build_run (by rfl) 31 1 _ rfl #[(0, .agg D)] rfl _ _ (build_one _ _ hdd D HD) ?_
          obtain ⟨gn, cn, w4, hrun, q1, q2, q3, q4⟩ := HH.out.append htf (Nat.le_trans hBw hB.size) hsh _ hdd D HD
          replace HH := hidk (HH.out.keep ((Below.refl _ _).alloc (Nat.le_refl _) (.cells D 28)))
          refine hK.out _ _ trivial (fun hHeld => ?_)
          clear hK K
          try simp only [Act.put, List.setIfInBounds_toArray, List.set_cons_zero, List.set_cons_succ]
          refine wpAnyH_ready (rs := [4]) (by kernel_rfl) (by simp) ?_
          refine (AllReadyH.cons (o := { dst := some 28, op := Op.call { callee := Callee.builtin Builtin.append, args := #[Operand.tmp 24, Operand.tmp 27], argTypes := #[31, 31] }, type := 31, pos := "tree.go:51", after := #[{ on := 0, ground := Ground.data }, { on := 3, ground := Ground.data }, { on := 2, ground := Ground.chain }], guard := none }) rfl (fun K hK => ?_) AllReadyH.nil)
          refine step_append_run rfl (.tmp 24) (.tmp 27) 31 31 rfl v2 _ _ w4 rfl rfl hrun ?_
          refine hK.out _ _ trivial (fun hHeld => ?_)
          clear hK K
          try simp only [Act.put, List.setIfInBounds_toArray, List.set_cons_zero, List.set_cons_succ]
          refine wpAnyH_ready (rs := [5]) (by kernel_rfl) (by simp) ?_
          refine (AllReadyH.cons (o := { dst := none, op := Op.store 31 (Operand.tmp 3) (Operand.tmp 28), type := 0, pos := "tree.go:51", after := #[{ on := 4, ground := Ground.data }, { on := 4, ground := Ground.chain }, { on := 0, ground := Ground.phase }, { on := 1, ground := Ground.phase }, { on := 2, ground := Ground.phase }, { on := 3, ground := Ground.phase }, { on := 4, ground := Ground.phase }], guard := none }) rfl (fun K hK => ?_) AllReadyH.nil)
          have hc := cell_of_one q1
          have hfz := free_of_one q1
          go_simp
          clear hc hfz
          refine hK.out _ _ trivial (fun hHeld => ?_)
          clear hK K
          try simp only [Act.put, List.setIfInBounds_toArray, List.set_cons_zero, List.set_cons_succ]
          refine wpAnyH_done (by kernel_rfl) ?_ _
          go_wp2
          first | go_end0 | (refine bodyPost_ret (results_none rfl _ _ _) rfl ?_)
          refine ⟨rfl, ⟨.slice (some ⟨gn, 0, none⟩) (acc2.length + 1) cn, ?_⟩, (hB.trans q4).setCell (by simpa using hp) _⟩
          rw [HE.out]
          exact Holds.put hne q1 q2 q3
        · go_simp
          refine (RR.out _ hB).mono ?_
          rintro e w2 ⟨rfl, hb2⟩
          replace HH := hidk (HH.out.keep hb2)
          replace hB := hB.trans (hb2.mono (Nat.le_trans hBw hB.size))
          go_wp2_with fail
          refine hK.out _ _ trivial (fun hHeld => ?_)
          clear hK K
          try simp only [Act.put, List.setIfInBounds_toArray, List.set_cons_zero, List.set_cons_succ]
          refine wpAnyH_ready (rs := [0, 3]) (by kernel_rfl) (by simp) ?_
          refine (AllReadyH.cons (o := { dst := some 24, op := Op.load 31 (Operand.tmp 3), type := 31, pos := "tree.go:51", after := #[], guard := none }) rfl (fun K hK => ?_) (AllReadyH.cons (o := { dst := some 27, op := Op.buildSlice 31 1 #[(0, Operand.tmp 26)], type := 31, pos := "tree.go:51", after := #[{ on := 2, ground := Ground.data }], guard := none }) rfl (fun K hK => ?_) AllReadyH.nil))
          · have hc := cell_of_one HH.out.proof
            go_simp
            clear hc
            refine hK.out _ _ trivial (fun hHeld => ?_)
            clear hK K
            try simp only [Act.put, List.setIfInBounds_toArray, List.set_cons_zero, List.set_cons_succ]
            refine wpAnyH_ready (rs := [3]) (by kernel_rfl) (by simp) ?_
            refine (AllReadyH.cons (o := { dst := some 27, op := Op.buildSlice 31 1 #[(0, Operand.tmp 26)], type := 31, pos := "tree.go:51", after := #[{ on := 2, ground := Ground.data }], guard := none }) rfl (fun K hK => ?_) AllReadyH.nil)
            refine step_build_run (by rfl) 31 1 _ rfl #[(0, .agg D)] rfl _ _ (build_one _ _ hdd D HD) ?_
            obtain ⟨gn, cn, w4, hrun, q1, q2, q3, q4⟩ := HH.out.append htf (Nat.le_trans hBw hB.size) hsh _ hdd D HD
            replace HH := hidk (HH.out.keep ((Below.refl _ _).alloc (Nat.le_refl _) (.cells D 28)))
            refine hK.out _ _ trivial (fun hHeld => ?_)
            clear hK K
            try simp only [Act.put, List.setIfInBounds_toArray, List.set_cons_zero, List.set_cons_succ]
            refine wpAnyH_ready (rs := [4]) (by kernel_rfl) (by simp) ?_
            refine (AllReadyH.cons (o := { dst := some 28, op := Op.call { callee := Callee.builtin Builtin.append, args := #[Operand.tmp 24, Operand.tmp 27], argTypes := #[31, 31] }, type := 31, pos := "tree.go:51", after := #[{ on := 0, ground := Ground.data }, { on := 3, ground := Ground.data }, { on := 2, ground := Ground.chain }], guard := none }) rfl (fun K hK => ?_) AllReadyH.nil)
            refine step_append_run rfl (.tmp 24) (.tmp 27) 31 31 rfl v2 _ _ w4 rfl rfl hrun ?_
            refine hK.out _ _ trivial (fun hHeld => ?_)
            clear hK K
            try simp only [Act.put, List.setIfInBounds_toArray, List.set_cons_zero, List.set_cons_succ]
            refine wpAnyH_ready (rs := [5]) (by kernel_rfl) (by simp) ?_
            refine (AllReadyH.cons (o := { dst := none, op := Op.store 31 (Operand.tmp 3) (Operand.tmp 28), type := 0, pos := "tree.go:51", after := #[{ on := 4, ground := Ground.data }, { on := 4, ground := Ground.chain }, { on := 0, ground := Ground.phase }, { on := 1, ground := Ground.phase }, { on := 2, ground := Ground.phase }, { on := 3, ground := Ground.phase }, { on := 4, ground := Ground.phase }], guard := none }) rfl (fun K hK => ?_) AllReadyH.nil)
            have hc := cell_of_one q1
            have hfz := free_of_one q1
            go_simp
            clear hc hfz
            refine hK.out _ _ trivial (fun hHeld => ?_)
            clear hK K
            try simp only [Act.put, List.setIfInBounds_toArray, List.set_cons_zero, List.set_cons_succ]
            refine wpAnyH_done (by kernel_rfl) ?_ _
            go_wp2
            first | go_end0 | (refine bodyPost_ret (results_none rfl _ _ _) rfl ?_)
            refine ⟨rfl, ⟨.slice (some ⟨gn, 0, none⟩) (acc2.length + 1) cn, ?_⟩, (hB.trans q4).setCell (by simpa using hp) _⟩
            rw [HE.out]
            exact Holds.put hne q1 q2 q3
          · refine step_build_run (by rfl) 31 1 _ rfl #[(0, .agg D)] rfl _ _ (build_one _ _ hdd D HD) ?_
            obtain ⟨gn, cn, w4, hrun, q1, q2, q3, q4⟩ := HH.out.append htf (Nat.le_trans hBw hB.size) hsh _ hdd D HD
            replace HH := hidk (HH.out.keep ((Below.refl _ _).alloc (Nat.le_refl _) (.cells D 28)))
            refine hK.out _ _ trivial (fun hHeld => ?_)
            clear hK K
            try simp only [Act.put, List.setIfInBounds_toArray, List.set_cons_zero, List.set_cons_succ]
            refine wpAnyH_ready (rs := [0]) (by kernel_rfl) (by simp) ?_
            refine (AllReadyH.cons (o := { dst := some 24, op := Op.load 31 (Operand.tmp 3), type := 31, pos := "tree.go:51", after := #[], guard := none }) rfl (fun K hK => ?_) AllReadyH.nil)
            have hc := cell_of_one HH.out.proof
            go_simp
            clear hc
            refine hK.out _ _ trivial (fun hHeld => ?_)
            clear hK K
            try simp only [Act.put, List.setIfInBounds_toArray, List.set_cons_zero, List.set_cons_succ]
            refine wpAnyH_ready (rs := [4]) (by kernel_rfl) (by simp) ?_
            refine (AllReadyH.cons (o := { dst := some 28, op := Op.call { callee := Callee.builtin Builtin.append, args := #[Operand.tmp 24, Operand.tmp 27], argTypes := #[31, 31] }, type := 31, pos := "tree.go:51", after := #[{ on := 0, ground := Ground.data }, { on := 3, ground := Ground.data }, { on := 2, ground := Ground.chain }], guard := none }) rfl (fun K hK => ?_) AllReadyH.nil)
            refine step_append_run rfl (.tmp 24) (.tmp 27) 31 31 rfl v2 _ _ w4 rfl rfl hrun ?_
            refine hK.out _ _ trivial (fun hHeld => ?_)
            clear hK K
            try simp only [Act.put, List.setIfInBounds_toArray, List.set_cons_zero, List.set_cons_succ]
            refine wpAnyH_ready (rs := [5]) (by kernel_rfl) (by simp) ?_
            refine (AllReadyH.cons (o := { dst := none, op := Op.store 31 (Operand.tmp 3) (Operand.tmp 28), type := 0, pos := "tree.go:51", after := #[{ on := 4, ground := Ground.data }, { on := 4, ground := Ground.chain }, { on := 0, ground := Ground.phase }, { on := 1, ground := Ground.phase }, { on := 2, ground := Ground.phase }, { on := 3, ground := Ground.phase }, { on := 4, ground := Ground.phase }], guard := none }) rfl (fun K hK => ?_) AllReadyH.nil)
            have hc := cell_of_one q1
            have hfz := free_of_one q1
            go_simp
            clear hc hfz
            refine hK.out _ _ trivial (fun hHeld => ?_)
            clear hK K
            try simp only [Act.put, List.setIfInBounds_toArray, List.set_cons_zero, List.set_cons_succ]
            refine wpAnyH_done (by kernel_rfl) ?_ _
            go_wp2
            first | go_end0 | (refine bodyPost_ret (results_none rfl _ _ _) rfl ?_)
            refine ⟨rfl, ⟨.slice (some ⟨gn, 0, none⟩) (acc2.length + 1) cn, ?_⟩, (hB.trans q4).setCell (by simpa using hp) _⟩
            rw [HE.out]
            exact Holds.put hne q1 q2 q3
      · -- the right part
        have HE : Hid (acc ++ incl l i = (acc ++ incl (l.drop k) (i - k)) ++ [root (l.take k)]) := by
          show _ = _
          rw [incl_right l i (by omega) (by rw [hlen, ← hk]; omega), hlen, ← hk, List.append_assoc]
        have IH : Hid (∀ W v, Below B w W → Holds B gp gf 67 (FI gp gf) v acc W → Calls Tryd.prog 26 #[.slice (some ⟨g, o + 32 * k, none⟩) (len - k) (cap - k), .int .i64 ((i : Int) - (k : Int)), .pointer (some ⟨gf, 0, none⟩), .pointer (some ⟨gp, 0, none⟩)] W fun e w' =>
            e = .returned (.tuple #[]) ∧ (∃ v', Holds B gp gf 67 (FI gp gf) v' (acc ++ incl (l.drop k) (i - k)) w') ∧ Below B W w') := fun W v hb hh => by
          rw [show ((i : Int) - (k : Int)) = ((i - k : Nat) : Int) by omega]
          exact ih (len - k) (by omega) g (o + 32 * k) (len - k) (cap - k) (i - k) (l.drop k) acc v W rfl ((hR.below hb low).drop k (by omega)) hg (by omega) (by omega) (Nat.le_trans hBw hb.size) hh (table_low hK hb hKB)
        obtain ⟨D, HD⟩ : ∃ D, Hid (D = (cellsOf (root (l.take k))).toArray) := ⟨_, (rfl : (cellsOf (root (l.take k))).toArray = _)⟩
        have hdd : (root (l.take k)).length = 32 := root_length sumD_length _ (hR.2.1.take k)
        have RR : Hid (∀ W, Below B w W → Calls Tryd.prog 16 #[.slice (some ⟨g, o, none⟩) k cap] W fun e w' => e = .returned (.agg D) ∧ Below W.heap.size W w') := fun W hb =>
          root_any _ _ _ _ (l.take k) W rfl ((hR.below hb low).take k (by omega)) (table_low hK hb hKB) D HD
        have hsh : (acc ++ incl (l.drop k) (i - k)).length + 1 ≤ 1000000 := by
          have := incl_len (l.drop k) (i - k) (by simp only [List.length_take, List.length_drop]; omega)
          simp only [List.length_append, List.length_take, List.length_drop] at this ⊢
          omega
        obtain ⟨acc2, HA2⟩ : ∃ x, Hid (x = acc ++ incl (l.drop k) (i - k)) := ⟨_, (rfl : acc ++ incl (l.drop k) (i - k) = _)⟩
        rw [← HA2.out] at HE hsh IH
        have HH0 : Hid (Holds B gp gf 67 (FI gp gf) v acc w) := hH
        have hw := wrap_int ((i : Int) - (k : Int)) (by omega) (by omega)
        have hdl : (decide ((i : Int) < (k : Int))) = false := by rw [decide_eq_false_iff_not]; omega
        clear hK hR ih hH hlen hk HA2 low hac
        go_enter Tryd.func26, Tryd.ntmps26
        go_wp2_with fail
        refine (P.out _).mono ?_
        rintro e w1 ⟨rfl, hb1⟩
        have HH1 : Hid (Holds B gp gf 67 (FI gp gf) v acc w1) := HH0.out.keep hb1
        have hB1 : Below B w w1 := hb1.mono hBw
        have hcf : w1.cell? ⟨gf, 0, none⟩ = some (.func (.func 26) #[] #[.pointer (some ⟨gf, 0, none⟩), .pointer (some ⟨gp, 0, none⟩)]) := cell_of_one HH1.out.prove
        clear hb1 P HH0
        go_wp2_with fail
        refine (IH.out _ _ hB1 HH1.out).mono ?_
        rintro e w2 ⟨rfl, ⟨v2, hh2⟩, hb2⟩
        have HH : Hid (Holds B gp gf 67 (FI gp gf) v2 acc2 w2.drew) := hh2.drew
        have hB : Below B w w2.drew := (hB1.trans hb2).drew
        clear hb2 hh2 hB1 HH1 hcf IH
        go_wp2
        refine wp_region_held_drew (S := (fun _ => True)) (by kernel_rfl) trivial (fun hHeld => ?_)
        refine wpAnyH_take (i := 1) (oi := { dst := some 37, op := Op.move (Operand.tmp 6), type := 31, pos := "tree.go:55", after := #[], guard := none }) (v := .slice (some ⟨g, o, none⟩) k cap) rfl (by kernel_rfl) (by kernel_rfl) (by kernel_rfl) (fun _ _ _ h => h) (Or.inl ⟨by rfl, by intro W hSw; go_simp⟩) hHeld ?_
        try simp only [Act.put, List.setIfInBounds_toArray, List.set_cons_zero, List.set_cons_succ]
        refine wpAnyH_ready (rs := [0, 2]) (by kernel_rfl) (by simp) ?_
        refine (AllReadyH.cons (o := { dst := some 36, op := Op.load 31 (Operand.tmp 3), type := 31, pos := "tree.go:55", after := #[], guard := none }) rfl (fun K hK => ?_) (AllReadyH.cons (o := { dst := some 38, op := Op.call { callee := Callee.value (Operand.func 16), args := #[Operand.tmp 37], argTypes := #[31] }, type := 28, pos := "tree.go:55", after := #[{ on := 1, ground := Ground.data }], guard := none }) rfl (fun K hK => ?_) AllReadyH.nil))
        · have hc := cell_of_one HH.out.proof
          go_simp
          clear hc
          refine hK.out _ _ trivial (fun hHeld => ?_)
          clear hK K
          try simp only [Act.put, List.setIfInBounds_toArray, List.set_cons_zero, List.set_cons_succ]
          refine wpAnyH_ready (rs := [2]) (by kernel_rfl) (by simp) ?_
          refine (AllReadyH.cons (o := { dst := some 38, op := Op.call { callee := Callee.value (Operand.func 16), args := #[Operand.tmp 37], argTypes := #[31] }, type := 28, pos := "tree.go:55", after := #[{ on := 1, ground := Ground.data }], guard := none }) rfl (fun K hK => ?_) AllReadyH.nil)
          go_simp
          refine (RR.out _ hB).mono ?_
          rintro e w2 ⟨rfl, hb2⟩
          replace HH := hidk (HH.out.keep hb2)
          replace hB := hB.trans (hb2.mono (Nat.le_trans hBw hB.size))
          go_wp2_with fail
          refine hK.out _ _ trivial (fun hHeld => ?_)
          clear hK K
          try simp only [Act.put, List.setIfInBounds_toArray, List.set_cons_zero, List.set_cons_succ]
          refine wpAnyH_ready (rs := [3]) (by kernel_rfl) (by simp) ?_
          refine (AllReadyH.cons (o := { dst := some 39, op := Op.buildSlice 31 1 #[(0, Operand.tmp 38)], type := 31, pos := "tree.go:55", after := #[{ on := 2, ground := Ground.data }], guard := none }) rfl (fun K hK => ?_) AllReadyH.nil)
          refine step_build_run (by rfl) 31 1 _ rfl #[(0, .agg D)] rfl _ _ (build_one _ _ hdd D HD) ?_
          obtain ⟨gn, cn, w4, hrun, q1, q2, q3, q4⟩ := HH.out.append htf (Nat.le_trans hBw hB.size) hsh _ hdd D HD
          replace HH := hidk (HH.out.keep ((Below.refl _ _).alloc (Nat.le_refl _) (.cells D 28)))
          refine hK.out _ _ trivial (fun hHeld => ?_)
          clear hK K
          try simp only [Act.put, List.setIfInBounds_toArray, List.set_cons_zero, List.set_cons_succ]
          refine wpAnyH_ready (rs := [4]) (by kernel_rfl) (by simp) ?_
          refine (AllReadyH.cons (o := { dst := some 40, op := Op.call { callee := Callee.builtin Builtin.append, args := #[Operand.tmp 36, Operand.tmp 39], argTypes := #[31, 31] }, type := 31, pos := "tree.go:55", after := #[{ on := 0, ground := Ground.data }, { on := 3, ground := Ground.data }, { on := 2, ground := Ground.chain }], guard := none }) rfl (fun K hK => ?_) AllReadyH.nil)
          refine step_append_run rfl (.tmp 36) (.tmp 39) 31 31 rfl v2 _ _ w4 rfl rfl hrun ?_
          refine hK.out _ _ trivial (fun hHeld => ?_)
          clear hK K
          try simp only [Act.put, List.setIfInBounds_toArray, List.set_cons_zero, List.set_cons_succ]
          refine wpAnyH_ready (rs := [5]) (by kernel_rfl) (by simp) ?_
          refine (AllReadyH.cons (o := { dst := none, op := Op.store 31 (Operand.tmp 3) (Operand.tmp 40), type := 0, pos := "tree.go:55", after := #[{ on := 4, ground := Ground.data }, { on := 4, ground := Ground.chain }, { on := 0, ground := Ground.phase }, { on := 1, ground := Ground.phase }, { on := 2, ground := Ground.phase }, { on := 3, ground := Ground.phase }, { on := 4, ground := Ground.phase }], guard := none }) rfl (fun K hK => ?_) AllReadyH.nil)
          have hc := cell_of_one q1
          have hfz := free_of_one q1
          go_simp
          clear hc hfz
          refine hK.out _ _ trivial (fun hHeld => ?_)
          clear hK K
          try simp only [Act.put, List.setIfInBounds_toArray, List.set_cons_zero, List.set_cons_succ]
          refine wpAnyH_done (by kernel_rfl) ?_ _
          go_wp2
          first | go_end0 | (refine bodyPost_ret (results_none rfl _ _ _) rfl ?_)
          refine ⟨rfl, ⟨.slice (some ⟨gn, 0, none⟩) (acc2.length + 1) cn, ?_⟩, (hB.trans q4).setCell (by simpa using hp) _⟩
          rw [HE.out]
          exact Holds.put hne q1 q2 q3
        · go_simp
          refine (RR.out _ hB).mono ?_
          rintro e w2 ⟨rfl, hb2⟩
          replace HH := hidk (HH.out.keep hb2)
          replace hB := hB.trans (hb2.mono (Nat.le_trans hBw hB.size))
          go_wp2_with fail
          refine hK.out _ _ trivial (fun hHeld => ?_)
          clear hK K
          try simp only [Act.put, List.setIfInBounds_toArray, List.set_cons_zero, List.set_cons_succ]
          refine wpAnyH_ready (rs := [0, 3]) (by kernel_rfl) (by simp) ?_
          refine (AllReadyH.cons (o := { dst := some 36, op := Op.load 31 (Operand.tmp 3), type := 31, pos := "tree.go:55", after := #[], guard := none }) rfl (fun K hK => ?_) (AllReadyH.cons (o := { dst := some 39, op := Op.buildSlice 31 1 #[(0, Operand.tmp 38)], type := 31, pos := "tree.go:55", after := #[{ on := 2, ground := Ground.data }], guard := none }) rfl (fun K hK => ?_) AllReadyH.nil))
          · have hc := cell_of_one HH.out.proof
            go_simp
            clear hc
            refine hK.out _ _ trivial (fun hHeld => ?_)
            clear hK K
            try simp only [Act.put, List.setIfInBounds_toArray, List.set_cons_zero, List.set_cons_succ]
            refine wpAnyH_ready (rs := [3]) (by kernel_rfl) (by simp) ?_
            refine (AllReadyH.cons (o := { dst := some 39, op := Op.buildSlice 31 1 #[(0, Operand.tmp 38)], type := 31, pos := "tree.go:55", after := #[{ on := 2, ground := Ground.data }], guard := none }) rfl (fun K hK => ?_) AllReadyH.nil)
            refine step_build_run (by rfl) 31 1 _ rfl #[(0, .agg D)] rfl _ _ (build_one _ _ hdd D HD) ?_
            obtain ⟨gn, cn, w4, hrun, q1, q2, q3, q4⟩ := HH.out.append htf (Nat.le_trans hBw hB.size) hsh _ hdd D HD
            replace HH := hidk (HH.out.keep ((Below.refl _ _).alloc (Nat.le_refl _) (.cells D 28)))
            refine hK.out _ _ trivial (fun hHeld => ?_)
            clear hK K
            try simp only [Act.put, List.setIfInBounds_toArray, List.set_cons_zero, List.set_cons_succ]
            refine wpAnyH_ready (rs := [4]) (by kernel_rfl) (by simp) ?_
            refine (AllReadyH.cons (o := { dst := some 40, op := Op.call { callee := Callee.builtin Builtin.append, args := #[Operand.tmp 36, Operand.tmp 39], argTypes := #[31, 31] }, type := 31, pos := "tree.go:55", after := #[{ on := 0, ground := Ground.data }, { on := 3, ground := Ground.data }, { on := 2, ground := Ground.chain }], guard := none }) rfl (fun K hK => ?_) AllReadyH.nil)
            refine step_append_run rfl (.tmp 36) (.tmp 39) 31 31 rfl v2 _ _ w4 rfl rfl hrun ?_
            refine hK.out _ _ trivial (fun hHeld => ?_)
            clear hK K
            try simp only [Act.put, List.setIfInBounds_toArray, List.set_cons_zero, List.set_cons_succ]
            refine wpAnyH_ready (rs := [5]) (by kernel_rfl) (by simp) ?_
            refine (AllReadyH.cons (o := { dst := none, op := Op.store 31 (Operand.tmp 3) (Operand.tmp 40), type := 0, pos := "tree.go:55", after := #[{ on := 4, ground := Ground.data }, { on := 4, ground := Ground.chain }, { on := 0, ground := Ground.phase }, { on := 1, ground := Ground.phase }, { on := 2, ground := Ground.phase }, { on := 3, ground := Ground.phase }, { on := 4, ground := Ground.phase }], guard := none }) rfl (fun K hK => ?_) AllReadyH.nil)
            have hc := cell_of_one q1
            have hfz := free_of_one q1
            go_simp
            clear hc hfz
            refine hK.out _ _ trivial (fun hHeld => ?_)
            clear hK K
            try simp only [Act.put, List.setIfInBounds_toArray, List.set_cons_zero, List.set_cons_succ]
            refine wpAnyH_done (by kernel_rfl) ?_ _
            go_wp2
            first | go_end0 | (refine bodyPost_ret (results_none rfl _ _ _) rfl ?_)
            refine ⟨rfl, ⟨.slice (some ⟨gn, 0, none⟩) (acc2.length + 1) cn, ?_⟩, (hB.trans q4).setCell (by simpa using hp) _⟩
            rw [HE.out]
            exact Holds.put hne q1 q2 q3
          · refine step_build_run (by rfl) 31 1 _ rfl #[(0, .agg D)] rfl _ _ (build_one _ _ hdd D HD) ?_
            obtain ⟨gn, cn, w4, hrun, q1, q2, q3, q4⟩ := HH.out.append htf (Nat.le_trans hBw hB.size) hsh _ hdd D HD
            replace HH := hidk (HH.out.keep ((Below.refl _ _).alloc (Nat.le_refl _) (.cells D 28)))
            refine hK.out _ _ trivial (fun hHeld => ?_)
            clear hK K
            try simp only [Act.put, List.setIfInBounds_toArray, List.set_cons_zero, List.set_cons_succ]
            refine wpAnyH_ready (rs := [0]) (by kernel_rfl) (by simp) ?_
            refine (AllReadyH.cons (o := { dst := some 36, op := Op.load 31 (Operand.tmp 3), type := 31, pos := "tree.go:55", after := #[], guard := none }) rfl (fun K hK => ?_) AllReadyH.nil)
            have hc := cell_of_one HH.out.proof
            go_simp
            clear hc
            refine hK.out _ _ trivial (fun hHeld => ?_)
            clear hK K
            try simp only [Act.put, List.setIfInBounds_toArray, List.set_cons_zero, List.set_cons_succ]
            refine wpAnyH_ready (rs := [4]) (by kernel_rfl) (by simp) ?_
            refine (AllReadyH.cons (o := { dst := some 40, op := Op.call { callee := Callee.builtin Builtin.append, args := #[Operand.tmp 36, Operand.tmp 39], argTypes := #[31, 31] }, type := 31, pos := "tree.go:55", after := #[{ on := 0, ground := Ground.data }, { on := 3, ground := Ground.data }, { on := 2, ground := Ground.chain }], guard := none }) rfl (fun K hK => ?_) AllReadyH.nil)
            refine step_append_run rfl (.tmp 36) (.tmp 39) 31 31 rfl v2 _ _ w4 rfl rfl hrun ?_
            refine hK.out _ _ trivial (fun hHeld => ?_)
            clear hK K
            try simp only [Act.put, List.setIfInBounds_toArray, List.set_cons_zero, List.set_cons_succ]
            refine wpAnyH_ready (rs := [5]) (by kernel_rfl) (by simp) ?_
            refine (AllReadyH.cons (o := { dst := none, op := Op.store 31 (Operand.tmp 3) (Operand.tmp 40), type := 0, pos := "tree.go:55", after := #[{ on := 4, ground := Ground.data }, { on := 4, ground := Ground.chain }, { on := 0, ground := Ground.phase }, { on := 1, ground := Ground.phase }, { on := 2, ground := Ground.phase }, { on := 3, ground := Ground.phase }, { on := 4, ground := Ground.phase }], guard := none }) rfl (fun K hK => ?_) AllReadyH.nil)
            have hc := cell_of_one q1
            have hfz := free_of_one q1
            go_simp
            clear hc hfz
            refine hK.out _ _ trivial (fun hHeld => ?_)
            clear hK K
            try simp only [Act.put, List.setIfInBounds_toArray, List.set_cons_zero, List.set_cons_succ]
            refine wpAnyH_done (by kernel_rfl) ?_ _
            go_wp2
            first | go_end0 | (refine bodyPost_ret (results_none rfl _ _ _) rfl ?_)
            refine ⟨rfl, ⟨.slice (some ⟨gn, 0, none⟩) (acc2.length + 1) cn, ?_⟩, (hB.trans q4).setCell (by simpa using hp) _⟩
            rw [HE.out]
            exact Holds.put hne q1 q2 q3
set_option maxHeartbeats 1000000 in
theorem inclusion_out (a : Option Addr) (len cap : Nat) (i : Int) (w : World) (hm : len ≤ maxLen) (hi : i < 0 ∨ (len : Int) ≤ i) :
    Calls Tryd.prog 17 #[.slice a len cap, .int .i64 i] w fun e w' => e = .returned (.tuple #[.slice none 0 0, .int .i64 20]) ∧ Below w.heap.size w w' := by
  by_cases h0 : i < 0
  · have hd : decide (i < 0) = true := by rw [decide_eq_true_eq]; exact h0
    go_enter Tryd.func17, Tryd.ntmps17
    go_wp2
    go_ret2
    exact ⟨rfl, Below.refl _ _⟩
  · have hd : decide (i < 0) = false := by rw [decide_eq_false_iff_not]; exact h0
    have hd2 : decide ((len : Int) ≤ i) = true := by rw [decide_eq_true_eq]; omega
    go_enter Tryd.func17, Tryd.ntmps17
    go_wp2
    go_ret2
    exact ⟨rfl, Below.refl _ _⟩
set_option maxHeartbeats 1000000 in
theorem inclusion_in (a : Option Addr) (len cap : Nat) (l : List (List UInt8)) (i : Nat) (w : World) (hR : LReads w a len cap l) (hi : i < len) (hl : len ≤ 100000) (hK : Table 0 w) :
    Calls Tryd.prog 17 #[.slice a len cap, .int .i64 i] w fun e w' => ∃ v, e = .returned (.tuple #[v, .int .i64 0]) ∧ w'.ownsRow w.heap.size 28 32 v (incl l i).length (cellsOf (incl l i).flatten) ∧ Below w.heap.size w w' := by
  obtain ⟨g, o, rfl, hg⟩ := hR.at (by omega)
  have hd : decide ((i : Int) < 0) = false := by rw [decide_eq_false_iff_not]; omega
  have hd2 : decide ((len : Int) ≤ (i : Int)) = false := by rw [decide_eq_false_iff_not]; omega
  have hK0 := hK.1
  have hd3 : decide (len ≤ i) = false := by rw [decide_eq_false_iff_not]; omega
  have PV : Hid (∀ W, Below w.heap.size w W → Holds w.heap.size w.heap.size (w.heap.size + 1) 67 (FI w.heap.size (w.heap.size + 1)) (.slice none 0 0) [] W →
      Calls Tryd.prog 26 #[.slice (some ⟨g, o, none⟩) len cap, .int .i64 i, .pointer (some ⟨w.heap.size + 1, 0, none⟩), .pointer (some ⟨w.heap.size, 0, none⟩)] W fun e w' =>
      e = .returned (.tuple #[]) ∧ (∃ v', Holds w.heap.size w.heap.size (w.heap.size + 1) 67 (FI w.heap.size (w.heap.size + 1)) v' (incl l i) w') ∧ Below w.heap.size W w') := fun W hb hh =>
    prove_any len g o len cap i l [] w.heap.size w.heap.size (w.heap.size + 1) _ W rfl (hR.keep hb) hg hi (Nat.le_refl _) (by omega) (by simp; omega) hb.size hh (hK.keep hb) hK0
  have HS : Hid (Holds w.heap.size w.heap.size (w.heap.size + 1) 67 (FI w.heap.size (w.heap.size + 1)) (.slice none 0 0) [] ((w.alloc (.cells #[.slice none 0 0] 31)).alloc (.cells #[FI w.heap.size (w.heap.size + 1)] 67))) :=
    ⟨heap_alloc2_old w _ _, heap_alloc2_new w _ _, World.ownsRow_nil _ _ _ _⟩
  have HB : Hid (Below w.heap.size w ((w.alloc (.cells #[.slice none 0 0] 31)).alloc (.cells #[FI w.heap.size (w.heap.size + 1)] 67))) := ((Below.refl _ _).alloc (Nat.le_refl _) _).alloc (by simp) _
  clear hK hR
  go_enter Tryd.func17, Tryd.ntmps17
  go_wp2_with fail
  refine (PV.out _ HB.out HS.out).mono ?_
  rintro e w2 ⟨rfl, ⟨v, hh⟩, hb2⟩
  have hcv := cell_of_one hh.proof
  have HO : Hid (w2.ownsRow w.heap.size 28 32 v (incl l i).length (cellsOf (incl l i).flatten) ∧ Below w.heap.size w w2) := ⟨hh.own, HB.out.trans hb2⟩
  clear hh hb2 PV HS HB
  go_wp2
  go_ret2
  exact ⟨v, rfl, HO.out⟩
end Go.Proofs.YtgclohgcehhfnabDoor

/- What tree.Consistency answers: the proof of a beginning. -/
namespace Go.Proofs.YtgclohgcehhfnabDoor
open Go.RowKit Sums
set_option maxRecDepth 100000
set_option linter.unusedVariables false
set_option linter.unusedSimpArgs false
attribute [local go_sem] store_func
/-- The function that proves, as a value. -/
def FC (gp gf : Nat) : Value := .func (.func 27) #[] #[.pointer (some ⟨gp, 0, none⟩), .pointer (some ⟨gf, 0, none⟩)]
set_option maxHeartbeats 2000000 in
theorem proveC_any (n : Nat) (g o len cap m : Nat) (known : Bool) (l acc : List (List UInt8)) (B gp gf : Nat) (v : Value) (w : World) (hn : len = n) (hR : LReads w (some ⟨g, o, none⟩) len cap l) (hg : g < B) (hm1 : 1 ≤ m) (hm : m ≤ len)
    (hp : B ≤ gp) (hne : gp ≠ gf) (hac : acc.length + len ≤ 1000000) (hBw : B ≤ w.heap.size) (hH : Holds B gp gf 68 (FC gp gf) v acc w) (hK : Table 0 w) (hKB : 0 < B) :
    Calls Tryd.prog 27 #[.slice (some ⟨g, o, none⟩) len cap, .int .i64 m, .bool known, .pointer (some ⟨gp, 0, none⟩), .pointer (some ⟨gf, 0, none⟩)] w fun e w' =>
      e = .returned (.tuple #[]) ∧ (∃ v', Holds B gp gf 68 (FC gp gf) v' (acc ++ goes l m known) w') ∧ Below B w w' := by
  induction n using Nat.strongRecOn generalizing g o len cap m known l acc v w with
  | _ n ih =>
    subst hn
    have htf : 68 ≠ 28 := by decide
    have hlen := hR.1
    have hmx : len ≤ 9223372036854775807 := by have := hR.2.2.2.1; unfold maxLen at this; omega
    have low : ∀ g' o', some (⟨g, o, none⟩ : Addr) = some ⟨g', o', none⟩ → 0 < len → g' < B := fun g' o' e _ => by cases e; exact hg
    by_cases hme : m = len
    · have hde : (decide ((m : Int) = (len : Int))) = true := by rw [decide_eq_true_eq]; omega
      have hde2 : ((m : Int) == (len : Int)) = true := by rw [beq_iff_eq]; omega
      cases known
      · have HE : Hid (acc ++ goes l m false = acc ++ [root l]) := by
          show _ = _
          rw [goes_all l m (by omega)]
        obtain ⟨D, HD⟩ : ∃ D, Hid (D = (cellsOf (root l)).toArray) := ⟨_, (rfl : (cellsOf (root l)).toArray = _)⟩
        have hdd : (root l).length = 32 := root_length sumD_length _ hR.2.1
        have RR : Hid (∀ W, Below B w W → Calls Tryd.prog 16 #[.slice (some ⟨g, o, none⟩) len cap] W fun e w' => e = .returned (.agg D) ∧ Below W.heap.size W w') := fun W hb =>
          root_any _ _ _ _ l W rfl (hR.below hb low) (table_low hK hb hKB) D HD
        have hsh : acc.length + 1 ≤ 1000000 := by omega
        have HH : Hid (Holds B gp gf 68 (FC gp gf) v acc w.drew) := hH.drew
        have hB : Below B w w.drew := (Below.refl _ _).drew
        obtain ⟨v2, hv2⟩ : ∃ v2, v2 = v := ⟨_, rfl⟩
        obtain ⟨acc2, ha2⟩ : ∃ a2, a2 = acc := ⟨_, rfl⟩
        rw [← hv2, ← ha2] at HH
        rw [← ha2] at HE hsh
        rw [ha2] at HE
        subst hv2 ha2
        subst hme
        clear hK hR ih hH hlen low hac
        go_enter Tryd.func27, Tryd.ntmps27
        go_wp2
        refine wp_region_held_drew (S := (fun _ => True)) (by kernel_rfl) trivial (fun hHeld => ?_)
        refine wpAnyH_take (i := 1) (oi := { dst := some 17, op := Op.move (Operand.tmp 0), type := 31, pos := "tree.go:75", after := #[], guard := none }) (v := .slice (some ⟨g, o, none⟩) m cap) rfl (by kernel_rfl) (by kernel_rfl) (by kernel_rfl) (fun _ _ _ h => h) (Or.inl ⟨by rfl, by intro W hSw; go_simp⟩) hHeld ?_
        try simp only [Act.put, List.setIfInBounds_toArray, List.set_cons_zero, List.set_cons_succ]
        refine wpAnyH_ready (rs := [0, 2]) (by kernel_rfl) (by simp) ?_
        refine (AllReadyH.cons (o := { dst := some 16, op := Op.load 31 (Operand.tmp 3), type := 31, pos := "tree.go:75", after := #[], guard := none }) rfl (fun K hK => ?_) (AllReadyH.cons (o := { dst := some 18, op := Op.call { callee := Callee.value (Operand.func 16), args := #[Operand.tmp 17], argTypes := #[31] }, type := 28, pos := "tree.go:75", after := #[{ on := 1, ground := Ground.data }], guard := none }) rfl (fun K hK => ?_) AllReadyH.nil))
        · have hc := cell_of_one HH.out.proof
          go_simp
          clear hc
          refine hK.out _ _ trivial (fun hHeld => ?_)
          clear hK K
          try simp only [Act.put, List.setIfInBounds_toArray, List.set_cons_zero, List.set_cons_succ]
          refine wpAnyH_ready (rs := [2]) (by kernel_rfl) (by simp) ?_
          refine (AllReadyH.cons (o := { dst := some 18, op := Op.call { callee := Callee.value (Operand.func 16), args := #[Operand.tmp 17], argTypes := #[31] }, type := 28, pos := "tree.go:75", after := #[{ on := 1, ground := Ground.data }], guard := none }) rfl (fun K hK => ?_) AllReadyH.nil)
          go_simp
          refine (RR.out _ hB).mono ?_
          rintro e w2 ⟨rfl, hb2⟩
          replace HH := hidk (HH.out.keep hb2)
          replace hB := hB.trans (hb2.mono (Nat.le_trans hBw hB.size))
          go_wp2_with fail
          refine hK.out _ _ trivial (fun hHeld => ?_)
          clear hK K
          try simp only [Act.put, List.setIfInBounds_toArray, List.set_cons_zero, List.set_cons_succ]
          refine wpAnyH_ready (rs := [3]) (by kernel_rfl) (by simp) ?_
          refine (AllReadyH.cons (o := { dst := some 19, op := Op.buildSlice 31 1 #[(0, Operand.tmp 18)], type := 31, pos := "tree.go:75", after := #[{ on := 2, ground := Ground.data }], guard := none }) rfl (fun K hK => ?_) AllReadyH.nil)
          refine step_build_run (by rfl) 31 1 _ rfl #[(0, .agg D)] rfl _ _ (build_one _ _ hdd D HD) ?_
          obtain ⟨gn, cn, w4, hrun, q1, q2, q3, q4⟩ := HH.out.append htf (Nat.le_trans hBw hB.size) hsh _ hdd D HD
          replace HH := hidk (HH.out.keep ((Below.refl _ _).alloc (Nat.le_refl _) (.cells D 28)))
          refine hK.out _ _ trivial (fun hHeld => ?_)
          clear hK K
          try simp only [Act.put, List.setIfInBounds_toArray, List.set_cons_zero, List.set_cons_succ]
          refine wpAnyH_ready (rs := [4]) (by kernel_rfl) (by simp) ?_
          refine (AllReadyH.cons (o := { dst := some 20, op := Op.call { callee := Callee.builtin Builtin.append, args := #[Operand.tmp 16, Operand.tmp 19], argTypes := #[31, 31] }, type := 31, pos := "tree.go:75", after := #[{ on := 0, ground := Ground.data }, { on := 3, ground := Ground.data }, { on := 2, ground := Ground.chain }], guard := none }) rfl (fun K hK => ?_) AllReadyH.nil)
          refine step_append_run rfl (.tmp 16) (.tmp 19) 31 31 rfl v2 _ _ w4 rfl rfl hrun ?_
          refine hK.out _ _ trivial (fun hHeld => ?_)
          clear hK K
          try simp only [Act.put, List.setIfInBounds_toArray, List.set_cons_zero, List.set_cons_succ]
          refine wpAnyH_ready (rs := [5]) (by kernel_rfl) (by simp) ?_
          refine (AllReadyH.cons (o := { dst := none, op := Op.store 31 (Operand.tmp 3) (Operand.tmp 20), type := 0, pos := "tree.go:75", after := #[{ on := 4, ground := Ground.data }, { on := 4, ground := Ground.chain }, { on := 0, ground := Ground.phase }, { on := 1, ground := Ground.phase }, { on := 2, ground := Ground.phase }, { on := 3, ground := Ground.phase }, { on := 4, ground := Ground.phase }], guard := none }) rfl (fun K hK => ?_) AllReadyH.nil)
          have hc := cell_of_one q1
          have hfz := free_of_one q1
          go_simp
          clear hc hfz
          refine hK.out _ _ trivial (fun hHeld => ?_)
          clear hK K
          try simp only [Act.put, List.setIfInBounds_toArray, List.set_cons_zero, List.set_cons_succ]
          refine wpAnyH_done (by kernel_rfl) ?_ _
          go_wp2
          first | go_end0 | (refine bodyPost_ret (results_none rfl _ _ _) rfl ?_)
          refine ⟨rfl, ⟨.slice (some ⟨gn, 0, none⟩) (acc2.length + 1) cn, ?_⟩, (hB.trans q4).setCell (by simpa using hp) _⟩
          rw [HE.out]
          exact Holds.put hne q1 q2 q3
        · go_simp
          refine (RR.out _ hB).mono ?_
          rintro e w2 ⟨rfl, hb2⟩
          replace HH := hidk (HH.out.keep hb2)
          replace hB := hB.trans (hb2.mono (Nat.le_trans hBw hB.size))
          go_wp2_with fail
          refine hK.out _ _ trivial (fun hHeld => ?_)
          clear hK K
          try simp only [Act.put, List.setIfInBounds_toArray, List.set_cons_zero, List.set_cons_succ]
          refine wpAnyH_ready (rs := [0, 3]) (by kernel_rfl) (by simp) ?_
          refine (AllReadyH.cons (o := { dst := some 16, op := Op.load 31 (Operand.tmp 3), type := 31, pos := "tree.go:75", after := #[], guard := none }) rfl (fun K hK => ?_) (AllReadyH.cons (o := { dst := some 19, op := Op.buildSlice 31 1 #[(0, Operand.tmp 18)], type := 31, pos := "tree.go:75", after := #[{ on := 2, ground := Ground.data }], guard := none }) rfl (fun K hK => ?_) AllReadyH.nil))
          · have hc := cell_of_one HH.out.proof
            go_simp
            clear hc
            refine hK.out _ _ trivial (fun hHeld => ?_)
            clear hK K
            try simp only [Act.put, List.setIfInBounds_toArray, List.set_cons_zero, List.set_cons_succ]
            refine wpAnyH_ready (rs := [3]) (by kernel_rfl) (by simp) ?_
            refine (AllReadyH.cons (o := { dst := some 19, op := Op.buildSlice 31 1 #[(0, Operand.tmp 18)], type := 31, pos := "tree.go:75", after := #[{ on := 2, ground := Ground.data }], guard := none }) rfl (fun K hK => ?_) AllReadyH.nil)
            refine step_build_run (by rfl) 31 1 _ rfl #[(0, .agg D)] rfl _ _ (build_one _ _ hdd D HD) ?_
            obtain ⟨gn, cn, w4, hrun, q1, q2, q3, q4⟩ := HH.out.append htf (Nat.le_trans hBw hB.size) hsh _ hdd D HD
            replace HH := hidk (HH.out.keep ((Below.refl _ _).alloc (Nat.le_refl _) (.cells D 28)))
            refine hK.out _ _ trivial (fun hHeld => ?_)
            clear hK K
            try simp only [Act.put, List.setIfInBounds_toArray, List.set_cons_zero, List.set_cons_succ]
            refine wpAnyH_ready (rs := [4]) (by kernel_rfl) (by simp) ?_
            refine (AllReadyH.cons (o := { dst := some 20, op := Op.call { callee := Callee.builtin Builtin.append, args := #[Operand.tmp 16, Operand.tmp 19], argTypes := #[31, 31] }, type := 31, pos := "tree.go:75", after := #[{ on := 0, ground := Ground.data }, { on := 3, ground := Ground.data }, { on := 2, ground := Ground.chain }], guard := none }) rfl (fun K hK => ?_) AllReadyH.nil)
            refine step_append_run rfl (.tmp 16) (.tmp 19) 31 31 rfl v2 _ _ w4 rfl rfl hrun ?_
            refine hK.out _ _ trivial (fun hHeld => ?_)
            clear hK K
            try simp only [Act.put, List.setIfInBounds_toArray, List.set_cons_zero, List.set_cons_succ]
            refine wpAnyH_ready (rs := [5]) (by kernel_rfl) (by simp) ?_
            refine (AllReadyH.cons (o := { dst := none, op := Op.store 31 (Operand.tmp 3) (Operand.tmp 20), type := 0, pos := "tree.go:75", after := #[{ on := 4, ground := Ground.data }, { on := 4, ground := Ground.chain }, { on := 0, ground := Ground.phase }, { on := 1, ground := Ground.phase }, { on := 2, ground := Ground.phase }, { on := 3, ground := Ground.phase }, { on := 4, ground := Ground.phase }], guard := none }) rfl (fun K hK => ?_) AllReadyH.nil)
            have hc := cell_of_one q1
            have hfz := free_of_one q1
            go_simp
            clear hc hfz
            refine hK.out _ _ trivial (fun hHeld => ?_)
            clear hK K
            try simp only [Act.put, List.setIfInBounds_toArray, List.set_cons_zero, List.set_cons_succ]
            refine wpAnyH_done (by kernel_rfl) ?_ _
            go_wp2
            first | go_end0 | (refine bodyPost_ret (results_none rfl _ _ _) rfl ?_)
            refine ⟨rfl, ⟨.slice (some ⟨gn, 0, none⟩) (acc2.length + 1) cn, ?_⟩, (hB.trans q4).setCell (by simpa using hp) _⟩
            rw [HE.out]
            exact Holds.put hne q1 q2 q3
          · refine step_build_run (by rfl) 31 1 _ rfl #[(0, .agg D)] rfl _ _ (build_one _ _ hdd D HD) ?_
            obtain ⟨gn, cn, w4, hrun, q1, q2, q3, q4⟩ := HH.out.append htf (Nat.le_trans hBw hB.size) hsh _ hdd D HD
            replace HH := hidk (HH.out.keep ((Below.refl _ _).alloc (Nat.le_refl _) (.cells D 28)))
            refine hK.out _ _ trivial (fun hHeld => ?_)
            clear hK K
            try simp only [Act.put, List.setIfInBounds_toArray, List.set_cons_zero, List.set_cons_succ]
            refine wpAnyH_ready (rs := [0]) (by kernel_rfl) (by simp) ?_
            refine (AllReadyH.cons (o := { dst := some 16, op := Op.load 31 (Operand.tmp 3), type := 31, pos := "tree.go:75", after := #[], guard := none }) rfl (fun K hK => ?_) AllReadyH.nil)
            have hc := cell_of_one HH.out.proof
            go_simp
            clear hc
            refine hK.out _ _ trivial (fun hHeld => ?_)
            clear hK K
            try simp only [Act.put, List.setIfInBounds_toArray, List.set_cons_zero, List.set_cons_succ]
            refine wpAnyH_ready (rs := [4]) (by kernel_rfl) (by simp) ?_
            refine (AllReadyH.cons (o := { dst := some 20, op := Op.call { callee := Callee.builtin Builtin.append, args := #[Operand.tmp 16, Operand.tmp 19], argTypes := #[31, 31] }, type := 31, pos := "tree.go:75", after := #[{ on := 0, ground := Ground.data }, { on := 3, ground := Ground.data }, { on := 2, ground := Ground.chain }], guard := none }) rfl (fun K hK => ?_) AllReadyH.nil)
            refine step_append_run rfl (.tmp 16) (.tmp 19) 31 31 rfl v2 _ _ w4 rfl rfl hrun ?_
            refine hK.out _ _ trivial (fun hHeld => ?_)
            clear hK K
            try simp only [Act.put, List.setIfInBounds_toArray, List.set_cons_zero, List.set_cons_succ]
            refine wpAnyH_ready (rs := [5]) (by kernel_rfl) (by simp) ?_
            refine (AllReadyH.cons (o := { dst := none, op := Op.store 31 (Operand.tmp 3) (Operand.tmp 20), type := 0, pos := "tree.go:75", after := #[{ on := 4, ground := Ground.data }, { on := 4, ground := Ground.chain }, { on := 0, ground := Ground.phase }, { on := 1, ground := Ground.phase }, { on := 2, ground := Ground.phase }, { on := 3, ground := Ground.phase }, { on := 4, ground := Ground.phase }], guard := none }) rfl (fun K hK => ?_) AllReadyH.nil)
            have hc := cell_of_one q1
            have hfz := free_of_one q1
            go_simp
            clear hc hfz
            refine hK.out _ _ trivial (fun hHeld => ?_)
            clear hK K
            try simp only [Act.put, List.setIfInBounds_toArray, List.set_cons_zero, List.set_cons_succ]
            refine wpAnyH_done (by kernel_rfl) ?_ _
            go_wp2
            first | go_end0 | (refine bodyPost_ret (results_none rfl _ _ _) rfl ?_)
            refine ⟨rfl, ⟨.slice (some ⟨gn, 0, none⟩) (acc2.length + 1) cn, ?_⟩, (hB.trans q4).setCell (by simpa using hp) _⟩
            rw [HE.out]
            exact Holds.put hne q1 q2 q3
      · rw [goes_known l m (by omega), List.append_nil]
        have HH : Hid (Holds B gp gf 68 (FC gp gf) v acc w) := hH
        subst hme
        clear hK hR ih hH hlen low
        go_enter Tryd.func27, Tryd.ntmps27
        go_wp2
        refine bodyPost_ret (results_none rfl _ _ _) rfl ?_
        exact ⟨rfl, ⟨_, HH.out⟩, Below.refl _ _⟩
    · have h2 : 2 ≤ len := by omega
      obtain ⟨k, hk⟩ : ∃ k, k = split len := ⟨_, rfl⟩
      have hkl := split_lt len h2
      have hkp := split_pos len h2
      rw [← hk] at hkl hkp
      have hcl := hR.2.2.1
      have hml := hR.2.2.2.1
      have P : Hid (∀ W, Calls Tryd.prog 24 #[.slice (some ⟨g, o, none⟩) len cap] W fun e w' => e = .returned (.tuple #[.slice (some ⟨g, o, none⟩) k cap, .slice (some ⟨g, o + 32 * k, none⟩) (len - k) (cap - k)]) ∧ Below W.heap.size W w') := fun W => parted_any g o len cap k W hk h2 hcl hml
      by_cases hik : m ≤ k
      · -- the left part
        have HE : Hid (acc ++ goes l m known = (acc ++ goes (l.take k) m known) ++ [root (l.drop k)]) := by
          show _ = _
          rw [goes_left l m known (by omega) (by omega) (by rw [hlen, ← hk]; exact hik), hlen, ← hk, List.append_assoc]
        have IH : Hid (∀ W v, Below B w W → Holds B gp gf 68 (FC gp gf) v acc W → Calls Tryd.prog 27 #[.slice (some ⟨g, o, none⟩) k cap, .int .i64 m, .bool known, .pointer (some ⟨gp, 0, none⟩), .pointer (some ⟨gf, 0, none⟩)] W fun e w' =>
            e = .returned (.tuple #[]) ∧ (∃ v', Holds B gp gf 68 (FC gp gf) v' (acc ++ goes (l.take k) m known) w') ∧ Below B W w') := fun W v hb hh => by
          exact ih k hkl g o k cap m known (l.take k) acc v W rfl ((hR.below hb low).take k (by omega)) hg (by omega) (by omega) (by omega) (Nat.le_trans hBw hb.size) hh (table_low hK hb hKB)
        obtain ⟨D, HD⟩ : ∃ D, Hid (D = (cellsOf (root (l.drop k))).toArray) := ⟨_, (rfl : (cellsOf (root (l.drop k))).toArray = _)⟩
        have hdd : (root (l.drop k)).length = 32 := root_length sumD_length _ (hR.2.1.drop k)
        have RR : Hid (∀ W, Below B w W → Calls Tryd.prog 16 #[.slice (some ⟨g, o + 32 * k, none⟩) (len - k) (cap - k)] W fun e w' => e = .returned (.agg D) ∧ Below W.heap.size W w') := fun W hb =>
          root_any _ _ _ _ (l.drop k) W rfl ((hR.below hb low).drop k (by omega)) (table_low hK hb hKB) D HD
        have hsh : (acc ++ goes (l.take k) m known).length + 1 ≤ 1000000 := by
          have := goes_len (l.take k) m known (by simp only [List.length_take, List.length_drop]; omega)
          simp only [List.length_append, List.length_take, List.length_drop] at this ⊢
          omega
        obtain ⟨acc2, HA2⟩ : ∃ x, Hid (x = acc ++ goes (l.take k) m known) := ⟨_, (rfl : acc ++ goes (l.take k) m known = _)⟩
        rw [← HA2.out] at HE hsh IH
        have HH0 : Hid (Holds B gp gf 68 (FC gp gf) v acc w) := hH
        have hde : (decide ((m : Int) = (len : Int))) = false := by rw [decide_eq_false_iff_not]; omega
        have hde2 : ((m : Int) == (len : Int)) = false := by rw [beq_eq_false_iff_ne]; omega
        have hdl : (decide ((m : Int) ≤ (k : Int))) = true := by rw [decide_eq_true_eq]; omega
        clear hK hR ih hH hlen hk HA2 low hac
        go_enter Tryd.func27, Tryd.ntmps27
        go_wp2_with fail
        refine (P.out _).mono ?_
        rintro e w1 ⟨rfl, hb1⟩
        have HH1 : Hid (Holds B gp gf 68 (FC gp gf) v acc w1) := HH0.out.keep hb1
        have hB1 : Below B w w1 := hb1.mono hBw
        have hcf : w1.cell? ⟨gf, 0, none⟩ = some (.func (.func 27) #[] #[.pointer (some ⟨gp, 0, none⟩), .pointer (some ⟨gf, 0, none⟩)]) := cell_of_one HH1.out.prove
        clear hb1 P HH0
        go_wp2_with fail
        refine (IH.out _ _ hB1 HH1.out).mono ?_
        rintro e w2 ⟨rfl, ⟨v2, hh2⟩, hb2⟩
        have HH : Hid (Holds B gp gf 68 (FC gp gf) v2 acc2 w2.drew) := hh2.drew
        have hB : Below B w w2.drew := (hB1.trans hb2).drew
        clear hb2 hh2 hB1 HH1 hcf IH
        go_wp2
        refine wp_region_held_drew (S := (fun _ => True)) (by kernel_rfl) trivial (fun hHeld => ?_)
        refine wpAnyH_take (i := 1) (oi := { dst := some 36, op := Op.move (Operand.tmp 9), type := 31, pos := "tree.go:82", after := #[], guard := none }) (v := .slice (some ⟨g, o + 32 * k, none⟩) (len - k) (cap - k)) rfl (by kernel_rfl) (by kernel_rfl) (by kernel_rfl) (fun _ _ _ h => h) (Or.inl ⟨by rfl, by intro W hSw; go_simp⟩) hHeld ?_
        try simp only [Act.put, List.setIfInBounds_toArray, List.set_cons_zero, List.set_cons_succ]
        refine wpAnyH_ready (rs := [0, 2]) (by kernel_rfl) (by simp) ?_
        refine (AllReadyH.cons (o := { dst := some 35, op := Op.load 31 (Operand.tmp 3), type := 31, pos := "tree.go:82", after := #[], guard := none }) rfl (fun K hK => ?_) (AllReadyH.cons (o := { dst := some 37, op := Op.call { callee := Callee.value (Operand.func 16), args := #[Operand.tmp 36], argTypes := #[31] }, type := 28, pos := "tree.go:82", after := #[{ on := 1, ground := Ground.data }], guard := none }) rfl (fun K hK => ?_) AllReadyH.nil))
        · have hc := cell_of_one HH.out.proof
          go_simp
          clear hc
          refine hK.out _ _ trivial (fun hHeld => ?_)
          clear hK K
          try simp only [Act.put, List.setIfInBounds_toArray, List.set_cons_zero, List.set_cons_succ]
          refine wpAnyH_ready (rs := [2]) (by kernel_rfl) (by simp) ?_
          refine (AllReadyH.cons (o := { dst := some 37, op := Op.call { callee := Callee.value (Operand.func 16), args := #[Operand.tmp 36], argTypes := #[31] }, type := 28, pos := "tree.go:82", after := #[{ on := 1, ground := Ground.data }], guard := none }) rfl (fun K hK => ?_) AllReadyH.nil)
          go_simp
          refine (RR.out _ hB).mono ?_
          rintro e w2 ⟨rfl, hb2⟩
          replace HH := hidk (HH.out.keep hb2)
          replace hB := hB.trans (hb2.mono (Nat.le_trans hBw hB.size))
          go_wp2_with fail
          refine hK.out _ _ trivial (fun hHeld => ?_)
          clear hK K
          try simp only [Act.put, List.setIfInBounds_toArray, List.set_cons_zero, List.set_cons_succ]
          refine wpAnyH_ready (rs := [3]) (by kernel_rfl) (by simp) ?_
          refine (AllReadyH.cons (o := { dst := some 38, op := Op.buildSlice 31 1 #[(0, Operand.tmp 37)], type := 31, pos := "tree.go:82", after := #[{ on := 2, ground := Ground.data }], guard := none }) rfl (fun K hK => ?_) AllReadyH.nil)
          refine step_build_run (by rfl) 31 1 _ rfl #[(0, .agg D)] rfl _ _ (build_one _ _ hdd D HD) ?_
          obtain ⟨gn, cn, w4, hrun, q1, q2, q3, q4⟩ := HH.out.append htf (Nat.le_trans hBw hB.size) hsh _ hdd D HD
          replace HH := hidk (HH.out.keep ((Below.refl _ _).alloc (Nat.le_refl _) (.cells D 28)))
          refine hK.out _ _ trivial (fun hHeld => ?_)
          clear hK K
          try simp only [Act.put, List.setIfInBounds_toArray, List.set_cons_zero, List.set_cons_succ]
          refine wpAnyH_ready (rs := [4]) (by kernel_rfl) (by simp) ?_
          refine (AllReadyH.cons (o := { dst := some 39, op := Op.call { callee := Callee.builtin Builtin.append, args := #[Operand.tmp 35, Operand.tmp 38], argTypes := #[31, 31] }, type := 31, pos := "tree.go:82", after := #[{ on := 0, ground := Ground.data }, { on := 3, ground := Ground.data }, { on := 2, ground := Ground.chain }], guard := none }) rfl (fun K hK => ?_) AllReadyH.nil)
          refine step_append_run rfl (.tmp 35) (.tmp 38) 31 31 rfl v2 _ _ w4 rfl rfl hrun ?_
          refine hK.out _ _ trivial (fun hHeld => ?_)
          clear hK K
          try simp only [Act.put, List.setIfInBounds_toArray, List.set_cons_zero, List.set_cons_succ]
          refine wpAnyH_ready (rs := [5]) (by kernel_rfl) (by simp) ?_
          refine (AllReadyH.cons (o := { dst := none, op := Op.store 31 (Operand.tmp 3) (Operand.tmp 39), type := 0, pos := "tree.go:82", after := #[{ on := 4, ground := Ground.data }, { on := 4, ground := Ground.chain }, { on := 0, ground := Ground.phase }, { on := 1, ground := Ground.phase }, { on := 2, ground := Ground.phase }, { on := 3, ground := Ground.phase }, { on := 4, ground := Ground.phase }], guard := none }) rfl (fun K hK => ?_) AllReadyH.nil)
          have hc := cell_of_one q1
          have hfz := free_of_one q1
          go_simp
          clear hc hfz
          refine hK.out _ _ trivial (fun hHeld => ?_)
          clear hK K
          try simp only [Act.put, List.setIfInBounds_toArray, List.set_cons_zero, List.set_cons_succ]
          refine wpAnyH_done (by kernel_rfl) ?_ _
          go_wp2
          first | go_end0 | (refine bodyPost_ret (results_none rfl _ _ _) rfl ?_)
          refine ⟨rfl, ⟨.slice (some ⟨gn, 0, none⟩) (acc2.length + 1) cn, ?_⟩, (hB.trans q4).setCell (by simpa using hp) _⟩
          rw [HE.out]
          exact Holds.put hne q1 q2 q3
        · go_simp
          refine (RR.out _ hB).mono ?_
          rintro e w2 ⟨rfl, hb2⟩
          replace HH := hidk (HH.out.keep hb2)
          replace hB := hB.trans (hb2.mono (Nat.le_trans hBw hB.size))
          go_wp2_with fail
          refine hK.out _ _ trivial (fun hHeld => ?_)
          clear hK K
          try simp only [Act.put, List.setIfInBounds_toArray, List.set_cons_zero, List.set_cons_succ]
          refine wpAnyH_ready (rs := [0, 3]) (by kernel_rfl) (by simp) ?_
          refine (AllReadyH.cons (o := { dst := some 35, op := Op.load 31 (Operand.tmp 3), type := 31, pos := "tree.go:82", after := #[], guard := none }) rfl (fun K hK => ?_) (AllReadyH.cons (o := { dst := some 38, op := Op.buildSlice 31 1 #[(0, Operand.tmp 37)], type := 31, pos := "tree.go:82", after := #[{ on := 2, ground := Ground.data }], guard := none }) rfl (fun K hK => ?_) AllReadyH.nil))
          · have hc := cell_of_one HH.out.proof
            go_simp
            clear hc
            refine hK.out _ _ trivial (fun hHeld => ?_)
            clear hK K
            try simp only [Act.put, List.setIfInBounds_toArray, List.set_cons_zero, List.set_cons_succ]
            refine wpAnyH_ready (rs := [3]) (by kernel_rfl) (by simp) ?_
            refine (AllReadyH.cons (o := { dst := some 38, op := Op.buildSlice 31 1 #[(0, Operand.tmp 37)], type := 31, pos := "tree.go:82", after := #[{ on := 2, ground := Ground.data }], guard := none }) rfl (fun K hK => ?_) AllReadyH.nil)
            refine step_build_run (by rfl) 31 1 _ rfl #[(0, .agg D)] rfl _ _ (build_one _ _ hdd D HD) ?_
            obtain ⟨gn, cn, w4, hrun, q1, q2, q3, q4⟩ := HH.out.append htf (Nat.le_trans hBw hB.size) hsh _ hdd D HD
            replace HH := hidk (HH.out.keep ((Below.refl _ _).alloc (Nat.le_refl _) (.cells D 28)))
            refine hK.out _ _ trivial (fun hHeld => ?_)
            clear hK K
            try simp only [Act.put, List.setIfInBounds_toArray, List.set_cons_zero, List.set_cons_succ]
            refine wpAnyH_ready (rs := [4]) (by kernel_rfl) (by simp) ?_
            refine (AllReadyH.cons (o := { dst := some 39, op := Op.call { callee := Callee.builtin Builtin.append, args := #[Operand.tmp 35, Operand.tmp 38], argTypes := #[31, 31] }, type := 31, pos := "tree.go:82", after := #[{ on := 0, ground := Ground.data }, { on := 3, ground := Ground.data }, { on := 2, ground := Ground.chain }], guard := none }) rfl (fun K hK => ?_) AllReadyH.nil)
            refine step_append_run rfl (.tmp 35) (.tmp 38) 31 31 rfl v2 _ _ w4 rfl rfl hrun ?_
            refine hK.out _ _ trivial (fun hHeld => ?_)
            clear hK K
            try simp only [Act.put, List.setIfInBounds_toArray, List.set_cons_zero, List.set_cons_succ]
            refine wpAnyH_ready (rs := [5]) (by kernel_rfl) (by simp) ?_
            refine (AllReadyH.cons (o := { dst := none, op := Op.store 31 (Operand.tmp 3) (Operand.tmp 39), type := 0, pos := "tree.go:82", after := #[{ on := 4, ground := Ground.data }, { on := 4, ground := Ground.chain }, { on := 0, ground := Ground.phase }, { on := 1, ground := Ground.phase }, { on := 2, ground := Ground.phase }, { on := 3, ground := Ground.phase }, { on := 4, ground := Ground.phase }], guard := none }) rfl (fun K hK => ?_) AllReadyH.nil)
            have hc := cell_of_one q1
            have hfz := free_of_one q1
            go_simp
            clear hc hfz
            refine hK.out _ _ trivial (fun hHeld => ?_)
            clear hK K
            try simp only [Act.put, List.setIfInBounds_toArray, List.set_cons_zero, List.set_cons_succ]
            refine wpAnyH_done (by kernel_rfl) ?_ _
            go_wp2
            first | go_end0 | (refine bodyPost_ret (results_none rfl _ _ _) rfl ?_)
            refine ⟨rfl, ⟨.slice (some ⟨gn, 0, none⟩) (acc2.length + 1) cn, ?_⟩, (hB.trans q4).setCell (by simpa using hp) _⟩
            rw [HE.out]
            exact Holds.put hne q1 q2 q3
          · refine step_build_run (by rfl) 31 1 _ rfl #[(0, .agg D)] rfl _ _ (build_one _ _ hdd D HD) ?_
            obtain ⟨gn, cn, w4, hrun, q1, q2, q3, q4⟩ := HH.out.append htf (Nat.le_trans hBw hB.size) hsh _ hdd D HD
            replace HH := hidk (HH.out.keep ((Below.refl _ _).alloc (Nat.le_refl _) (.cells D 28)))
            refine hK.out _ _ trivial (fun hHeld => ?_)
            clear hK K
            try simp only [Act.put, List.setIfInBounds_toArray, List.set_cons_zero, List.set_cons_succ]
            refine wpAnyH_ready (rs := [0]) (by kernel_rfl) (by simp) ?_
            refine (AllReadyH.cons (o := { dst := some 35, op := Op.load 31 (Operand.tmp 3), type := 31, pos := "tree.go:82", after := #[], guard := none }) rfl (fun K hK => ?_) AllReadyH.nil)
            have hc := cell_of_one HH.out.proof
            go_simp
            clear hc
            refine hK.out _ _ trivial (fun hHeld => ?_)
            clear hK K
            try simp only [Act.put, List.setIfInBounds_toArray, List.set_cons_zero, List.set_cons_succ]
            refine wpAnyH_ready (rs := [4]) (by kernel_rfl) (by simp) ?_
            refine (AllReadyH.cons (o := { dst := some 39, op := Op.call { callee := Callee.builtin Builtin.append, args := #[Operand.tmp 35, Operand.tmp 38], argTypes := #[31, 31] }, type := 31, pos := "tree.go:82", after := #[{ on := 0, ground := Ground.data }, { on := 3, ground := Ground.data }, { on := 2, ground := Ground.chain }], guard := none }) rfl (fun K hK => ?_) AllReadyH.nil)
            refine step_append_run rfl (.tmp 35) (.tmp 38) 31 31 rfl v2 _ _ w4 rfl rfl hrun ?_
            refine hK.out _ _ trivial (fun hHeld => ?_)
            clear hK K
            try simp only [Act.put, List.setIfInBounds_toArray, List.set_cons_zero, List.set_cons_succ]
            refine wpAnyH_ready (rs := [5]) (by kernel_rfl) (by simp) ?_
            refine (AllReadyH.cons (o := { dst := none, op := Op.store 31 (Operand.tmp 3) (Operand.tmp 39), type := 0, pos := "tree.go:82", after := #[{ on := 4, ground := Ground.data }, { on := 4, ground := Ground.chain }, { on := 0, ground := Ground.phase }, { on := 1, ground := Ground.phase }, { on := 2, ground := Ground.phase }, { on := 3, ground := Ground.phase }, { on := 4, ground := Ground.phase }], guard := none }) rfl (fun K hK => ?_) AllReadyH.nil)
            have hc := cell_of_one q1
            have hfz := free_of_one q1
            go_simp
            clear hc hfz
            refine hK.out _ _ trivial (fun hHeld => ?_)
            clear hK K
            try simp only [Act.put, List.setIfInBounds_toArray, List.set_cons_zero, List.set_cons_succ]
            refine wpAnyH_done (by kernel_rfl) ?_ _
            go_wp2
            first | go_end0 | (refine bodyPost_ret (results_none rfl _ _ _) rfl ?_)
            refine ⟨rfl, ⟨.slice (some ⟨gn, 0, none⟩) (acc2.length + 1) cn, ?_⟩, (hB.trans q4).setCell (by simpa using hp) _⟩
            rw [HE.out]
            exact Holds.put hne q1 q2 q3
      · -- the right part
        have HE : Hid (acc ++ goes l m known = (acc ++ goes (l.drop k) (m - k) false) ++ [root (l.take k)]) := by
          show _ = _
          rw [goes_right l m known (by omega) (by omega) (by rw [hlen, ← hk]; omega), hlen, ← hk, List.append_assoc]
        have IH : Hid (∀ W v, Below B w W → Holds B gp gf 68 (FC gp gf) v acc W → Calls Tryd.prog 27 #[.slice (some ⟨g, o + 32 * k, none⟩) (len - k) (cap - k), .int .i64 ((m : Int) - (k : Int)), .bool false, .pointer (some ⟨gp, 0, none⟩), .pointer (some ⟨gf, 0, none⟩)] W fun e w' =>
            e = .returned (.tuple #[]) ∧ (∃ v', Holds B gp gf 68 (FC gp gf) v' (acc ++ goes (l.drop k) (m - k) false) w') ∧ Below B W w') := fun W v hb hh => by
          rw [show ((m : Int) - (k : Int)) = ((m - k : Nat) : Int) by omega]
          exact ih (len - k) (by omega) g (o + 32 * k) (len - k) (cap - k) (m - k) false (l.drop k) acc v W rfl ((hR.below hb low).drop k (by omega)) hg (by omega) (by omega) (by omega) (Nat.le_trans hBw hb.size) hh (table_low hK hb hKB)
        obtain ⟨D, HD⟩ : ∃ D, Hid (D = (cellsOf (root (l.take k))).toArray) := ⟨_, (rfl : (cellsOf (root (l.take k))).toArray = _)⟩
        have hdd : (root (l.take k)).length = 32 := root_length sumD_length _ (hR.2.1.take k)
        have RR : Hid (∀ W, Below B w W → Calls Tryd.prog 16 #[.slice (some ⟨g, o, none⟩) k cap] W fun e w' => e = .returned (.agg D) ∧ Below W.heap.size W w') := fun W hb =>
          root_any _ _ _ _ (l.take k) W rfl ((hR.below hb low).take k (by omega)) (table_low hK hb hKB) D HD
        have hsh : (acc ++ goes (l.drop k) (m - k) false).length + 1 ≤ 1000000 := by
          have := goes_len (l.drop k) (m - k) false (by simp only [List.length_take, List.length_drop]; omega)
          simp only [List.length_append, List.length_take, List.length_drop] at this ⊢
          omega
        obtain ⟨acc2, HA2⟩ : ∃ x, Hid (x = acc ++ goes (l.drop k) (m - k) false) := ⟨_, (rfl : acc ++ goes (l.drop k) (m - k) false = _)⟩
        rw [← HA2.out] at HE hsh IH
        have HH0 : Hid (Holds B gp gf 68 (FC gp gf) v acc w) := hH
        have hw := wrap_int ((m : Int) - (k : Int)) (by omega) (by omega)
        have hde : (decide ((m : Int) = (len : Int))) = false := by rw [decide_eq_false_iff_not]; omega
        have hde2 : ((m : Int) == (len : Int)) = false := by rw [beq_eq_false_iff_ne]; omega
        have hdl : (decide ((m : Int) ≤ (k : Int))) = false := by rw [decide_eq_false_iff_not]; omega
        clear hK hR ih hH hlen hk HA2 low hac
        go_enter Tryd.func27, Tryd.ntmps27
        go_wp2_with fail
        refine (P.out _).mono ?_
        rintro e w1 ⟨rfl, hb1⟩
        have HH1 : Hid (Holds B gp gf 68 (FC gp gf) v acc w1) := HH0.out.keep hb1
        have hB1 : Below B w w1 := hb1.mono hBw
        have hcf : w1.cell? ⟨gf, 0, none⟩ = some (.func (.func 27) #[] #[.pointer (some ⟨gp, 0, none⟩), .pointer (some ⟨gf, 0, none⟩)]) := cell_of_one HH1.out.prove
        clear hb1 P HH0
        go_wp2_with fail
        refine (IH.out _ _ hB1 HH1.out).mono ?_
        rintro e w2 ⟨rfl, ⟨v2, hh2⟩, hb2⟩
        have HH : Hid (Holds B gp gf 68 (FC gp gf) v2 acc2 w2.drew) := hh2.drew
        have hB : Below B w w2.drew := (hB1.trans hb2).drew
        clear hb2 hh2 hB1 HH1 hcf IH
        go_wp2
        refine wp_region_held_drew (S := (fun _ => True)) (by kernel_rfl) trivial (fun hHeld => ?_)
        refine wpAnyH_take (i := 1) (oi := { dst := some 48, op := Op.move (Operand.tmp 8), type := 31, pos := "tree.go:86", after := #[], guard := none }) (v := .slice (some ⟨g, o, none⟩) k cap) rfl (by kernel_rfl) (by kernel_rfl) (by kernel_rfl) (fun _ _ _ h => h) (Or.inl ⟨by rfl, by intro W hSw; go_simp⟩) hHeld ?_
        try simp only [Act.put, List.setIfInBounds_toArray, List.set_cons_zero, List.set_cons_succ]
        refine wpAnyH_ready (rs := [0, 2]) (by kernel_rfl) (by simp) ?_
        refine (AllReadyH.cons (o := { dst := some 47, op := Op.load 31 (Operand.tmp 3), type := 31, pos := "tree.go:86", after := #[], guard := none }) rfl (fun K hK => ?_) (AllReadyH.cons (o := { dst := some 49, op := Op.call { callee := Callee.value (Operand.func 16), args := #[Operand.tmp 48], argTypes := #[31] }, type := 28, pos := "tree.go:86", after := #[{ on := 1, ground := Ground.data }], guard := none }) rfl (fun K hK => ?_) AllReadyH.nil))
        · have hc := cell_of_one HH.out.proof
          go_simp
          clear hc
          refine hK.out _ _ trivial (fun hHeld => ?_)
          clear hK K
          try simp only [Act.put, List.setIfInBounds_toArray, List.set_cons_zero, List.set_cons_succ]
          refine wpAnyH_ready (rs := [2]) (by kernel_rfl) (by simp) ?_
          refine (AllReadyH.cons (o := { dst := some 49, op := Op.call { callee := Callee.value (Operand.func 16), args := #[Operand.tmp 48], argTypes := #[31] }, type := 28, pos := "tree.go:86", after := #[{ on := 1, ground := Ground.data }], guard := none }) rfl (fun K hK => ?_) AllReadyH.nil)
          go_simp
          refine (RR.out _ hB).mono ?_
          rintro e w2 ⟨rfl, hb2⟩
          replace HH := hidk (HH.out.keep hb2)
          replace hB := hB.trans (hb2.mono (Nat.le_trans hBw hB.size))
          go_wp2_with fail
          refine hK.out _ _ trivial (fun hHeld => ?_)
          clear hK K
          try simp only [Act.put, List.setIfInBounds_toArray, List.set_cons_zero, List.set_cons_succ]
          refine wpAnyH_ready (rs := [3]) (by kernel_rfl) (by simp) ?_
          refine (AllReadyH.cons (o := { dst := some 50, op := Op.buildSlice 31 1 #[(0, Operand.tmp 49)], type := 31, pos := "tree.go:86", after := #[{ on := 2, ground := Ground.data }], guard := none }) rfl (fun K hK => ?_) AllReadyH.nil)
          refine step_build_run (by rfl) 31 1 _ rfl #[(0, .agg D)] rfl _ _ (build_one _ _ hdd D HD) ?_
          obtain ⟨gn, cn, w4, hrun, q1, q2, q3, q4⟩ := HH.out.append htf (Nat.le_trans hBw hB.size) hsh _ hdd D HD
          replace HH := hidk (HH.out.keep ((Below.refl _ _).alloc (Nat.le_refl _) (.cells D 28)))
          refine hK.out _ _ trivial (fun hHeld => ?_)
          clear hK K
          try simp only [Act.put, List.setIfInBounds_toArray, List.set_cons_zero, List.set_cons_succ]
          refine wpAnyH_ready (rs := [4]) (by kernel_rfl) (by simp) ?_
          refine (AllReadyH.cons (o := { dst := some 51, op := Op.call { callee := Callee.builtin Builtin.append, args := #[Operand.tmp 47, Operand.tmp 50], argTypes := #[31, 31] }, type := 31, pos := "tree.go:86", after := #[{ on := 0, ground := Ground.data }, { on := 3, ground := Ground.data }, { on := 2, ground := Ground.chain }], guard := none }) rfl (fun K hK => ?_) AllReadyH.nil)
          refine step_append_run rfl (.tmp 47) (.tmp 50) 31 31 rfl v2 _ _ w4 rfl rfl hrun ?_
          refine hK.out _ _ trivial (fun hHeld => ?_)
          clear hK K
          try simp only [Act.put, List.setIfInBounds_toArray, List.set_cons_zero, List.set_cons_succ]
          refine wpAnyH_ready (rs := [5]) (by kernel_rfl) (by simp) ?_
          refine (AllReadyH.cons (o := { dst := none, op := Op.store 31 (Operand.tmp 3) (Operand.tmp 51), type := 0, pos := "tree.go:86", after := #[{ on := 4, ground := Ground.data }, { on := 4, ground := Ground.chain }, { on := 0, ground := Ground.phase }, { on := 1, ground := Ground.phase }, { on := 2, ground := Ground.phase }, { on := 3, ground := Ground.phase }, { on := 4, ground := Ground.phase }], guard := none }) rfl (fun K hK => ?_) AllReadyH.nil)
          have hc := cell_of_one q1
          have hfz := free_of_one q1
          go_simp
          clear hc hfz
          refine hK.out _ _ trivial (fun hHeld => ?_)
          clear hK K
          try simp only [Act.put, List.setIfInBounds_toArray, List.set_cons_zero, List.set_cons_succ]
          refine wpAnyH_done (by kernel_rfl) ?_ _
          go_wp2
          first | go_end0 | (refine bodyPost_ret (results_none rfl _ _ _) rfl ?_)
          refine ⟨rfl, ⟨.slice (some ⟨gn, 0, none⟩) (acc2.length + 1) cn, ?_⟩, (hB.trans q4).setCell (by simpa using hp) _⟩
          rw [HE.out]
          exact Holds.put hne q1 q2 q3
        · go_simp
          refine (RR.out _ hB).mono ?_
          rintro e w2 ⟨rfl, hb2⟩
          replace HH := hidk (HH.out.keep hb2)
          replace hB := hB.trans (hb2.mono (Nat.le_trans hBw hB.size))
          go_wp2_with fail
          refine hK.out _ _ trivial (fun hHeld => ?_)
          clear hK K
          try simp only [Act.put, List.setIfInBounds_toArray, List.set_cons_zero, List.set_cons_succ]
          refine wpAnyH_ready (rs := [0, 3]) (by kernel_rfl) (by simp) ?_
          refine (AllReadyH.cons (o := { dst := some 47, op := Op.load 31 (Operand.tmp 3), type := 31, pos := "tree.go:86", after := #[], guard := none }) rfl (fun K hK => ?_) (AllReadyH.cons (o := { dst := some 50, op := Op.buildSlice 31 1 #[(0, Operand.tmp 49)], type := 31, pos := "tree.go:86", after := #[{ on := 2, ground := Ground.data }], guard := none }) rfl (fun K hK => ?_) AllReadyH.nil))
          · have hc := cell_of_one HH.out.proof
            go_simp
            clear hc
            refine hK.out _ _ trivial (fun hHeld => ?_)
            clear hK K
            try simp only [Act.put, List.setIfInBounds_toArray, List.set_cons_zero, List.set_cons_succ]
            refine wpAnyH_ready (rs := [3]) (by kernel_rfl) (by simp) ?_
            refine (AllReadyH.cons (o := { dst := some 50, op := Op.buildSlice 31 1 #[(0, Operand.tmp 49)], type := 31, pos := "tree.go:86", after := #[{ on := 2, ground := Ground.data }], guard := none }) rfl (fun K hK => ?_) AllReadyH.nil)
            refine step_build_run (by rfl) 31 1 _ rfl #[(0, .agg D)] rfl _ _ (build_one _ _ hdd D HD) ?_
            obtain ⟨gn, cn, w4, hrun, q1, q2, q3, q4⟩ := HH.out.append htf (Nat.le_trans hBw hB.size) hsh _ hdd D HD
            replace HH := hidk (HH.out.keep ((Below.refl _ _).alloc (Nat.le_refl _) (.cells D 28)))
            refine hK.out _ _ trivial (fun hHeld => ?_)
            clear hK K
            try simp only [Act.put, List.setIfInBounds_toArray, List.set_cons_zero, List.set_cons_succ]
            refine wpAnyH_ready (rs := [4]) (by kernel_rfl) (by simp) ?_
            refine (AllReadyH.cons (o := { dst := some 51, op := Op.call { callee := Callee.builtin Builtin.append, args := #[Operand.tmp 47, Operand.tmp 50], argTypes := #[31, 31] }, type := 31, pos := "tree.go:86", after := #[{ on := 0, ground := Ground.data }, { on := 3, ground := Ground.data }, { on := 2, ground := Ground.chain }], guard := none }) rfl (fun K hK => ?_) AllReadyH.nil)
            refine step_append_run rfl (.tmp 47) (.tmp 50) 31 31 rfl v2 _ _ w4 rfl rfl hrun ?_
            refine hK.out _ _ trivial (fun hHeld => ?_)
            clear hK K
            try simp only [Act.put, List.setIfInBounds_toArray, List.set_cons_zero, List.set_cons_succ]
            refine wpAnyH_ready (rs := [5]) (by kernel_rfl) (by simp) ?_
            refine (AllReadyH.cons (o := { dst := none, op := Op.store 31 (Operand.tmp 3) (Operand.tmp 51), type := 0, pos := "tree.go:86", after := #[{ on := 4, ground := Ground.data }, { on := 4, ground := Ground.chain }, { on := 0, ground := Ground.phase }, { on := 1, ground := Ground.phase }, { on := 2, ground := Ground.phase }, { on := 3, ground := Ground.phase }, { on := 4, ground := Ground.phase }], guard := none }) rfl (fun K hK => ?_) AllReadyH.nil)
            have hc := cell_of_one q1
            have hfz := free_of_one q1
            go_simp
            clear hc hfz
            refine hK.out _ _ trivial (fun hHeld => ?_)
            clear hK K
            try simp only [Act.put, List.setIfInBounds_toArray, List.set_cons_zero, List.set_cons_succ]
            refine wpAnyH_done (by kernel_rfl) ?_ _
            go_wp2
            first | go_end0 | (refine bodyPost_ret (results_none rfl _ _ _) rfl ?_)
            refine ⟨rfl, ⟨.slice (some ⟨gn, 0, none⟩) (acc2.length + 1) cn, ?_⟩, (hB.trans q4).setCell (by simpa using hp) _⟩
            rw [HE.out]
            exact Holds.put hne q1 q2 q3
          · refine step_build_run (by rfl) 31 1 _ rfl #[(0, .agg D)] rfl _ _ (build_one _ _ hdd D HD) ?_
            obtain ⟨gn, cn, w4, hrun, q1, q2, q3, q4⟩ := HH.out.append htf (Nat.le_trans hBw hB.size) hsh _ hdd D HD
            replace HH := hidk (HH.out.keep ((Below.refl _ _).alloc (Nat.le_refl _) (.cells D 28)))
            refine hK.out _ _ trivial (fun hHeld => ?_)
            clear hK K
            try simp only [Act.put, List.setIfInBounds_toArray, List.set_cons_zero, List.set_cons_succ]
            refine wpAnyH_ready (rs := [0]) (by kernel_rfl) (by simp) ?_
            refine (AllReadyH.cons (o := { dst := some 47, op := Op.load 31 (Operand.tmp 3), type := 31, pos := "tree.go:86", after := #[], guard := none }) rfl (fun K hK => ?_) AllReadyH.nil)
            have hc := cell_of_one HH.out.proof
            go_simp
            clear hc
            refine hK.out _ _ trivial (fun hHeld => ?_)
            clear hK K
            try simp only [Act.put, List.setIfInBounds_toArray, List.set_cons_zero, List.set_cons_succ]
            refine wpAnyH_ready (rs := [4]) (by kernel_rfl) (by simp) ?_
            refine (AllReadyH.cons (o := { dst := some 51, op := Op.call { callee := Callee.builtin Builtin.append, args := #[Operand.tmp 47, Operand.tmp 50], argTypes := #[31, 31] }, type := 31, pos := "tree.go:86", after := #[{ on := 0, ground := Ground.data }, { on := 3, ground := Ground.data }, { on := 2, ground := Ground.chain }], guard := none }) rfl (fun K hK => ?_) AllReadyH.nil)
            refine step_append_run rfl (.tmp 47) (.tmp 50) 31 31 rfl v2 _ _ w4 rfl rfl hrun ?_
            refine hK.out _ _ trivial (fun hHeld => ?_)
            clear hK K
            try simp only [Act.put, List.setIfInBounds_toArray, List.set_cons_zero, List.set_cons_succ]
            refine wpAnyH_ready (rs := [5]) (by kernel_rfl) (by simp) ?_
            refine (AllReadyH.cons (o := { dst := none, op := Op.store 31 (Operand.tmp 3) (Operand.tmp 51), type := 0, pos := "tree.go:86", after := #[{ on := 4, ground := Ground.data }, { on := 4, ground := Ground.chain }, { on := 0, ground := Ground.phase }, { on := 1, ground := Ground.phase }, { on := 2, ground := Ground.phase }, { on := 3, ground := Ground.phase }, { on := 4, ground := Ground.phase }], guard := none }) rfl (fun K hK => ?_) AllReadyH.nil)
            have hc := cell_of_one q1
            have hfz := free_of_one q1
            go_simp
            clear hc hfz
            refine hK.out _ _ trivial (fun hHeld => ?_)
            clear hK K
            try simp only [Act.put, List.setIfInBounds_toArray, List.set_cons_zero, List.set_cons_succ]
            refine wpAnyH_done (by kernel_rfl) ?_ _
            go_wp2
            first | go_end0 | (refine bodyPost_ret (results_none rfl _ _ _) rfl ?_)
            refine ⟨rfl, ⟨.slice (some ⟨gn, 0, none⟩) (acc2.length + 1) cn, ?_⟩, (hB.trans q4).setCell (by simpa using hp) _⟩
            rw [HE.out]
            exact Holds.put hne q1 q2 q3
set_option maxHeartbeats 1000000 in
theorem consistency_out (a : Option Addr) (len cap : Nat) (m : Int) (w : World) (hml : len ≤ maxLen) (hm : m < 0 ∨ (len : Int) < m) :
    Calls Tryd.prog 18 #[.slice a len cap, .int .i64 m] w fun e w' => e = .returned (.tuple #[.slice none 0 0, .int .i64 21]) ∧ Below w.heap.size w w' := by
  by_cases h0 : m < 0
  · have hd : decide (m < 0) = true := by rw [decide_eq_true_eq]; exact h0
    go_enter Tryd.func18, Tryd.ntmps18
    go_wp2
    go_ret2
    exact ⟨rfl, Below.refl _ _⟩
  · have hd : decide (m < 0) = false := by rw [decide_eq_false_iff_not]; exact h0
    have hd2 : decide ((len : Int) < m) = true := by rw [decide_eq_true_eq]; omega
    go_enter Tryd.func18, Tryd.ntmps18
    go_wp2
    go_ret2
    exact ⟨rfl, Below.refl _ _⟩
set_option maxHeartbeats 1000000 in
theorem consistency_none (a : Option Addr) (len cap : Nat) (w : World) :
    Calls Tryd.prog 18 #[.slice a len cap, .int .i64 0] w fun e w' => e = .returned (.tuple #[.slice none 0 0, .int .i64 0]) ∧ Below w.heap.size w w' := by
  have hd2 : decide ((len : Int) < 0) = false := by rw [decide_eq_false_iff_not]; omega
  go_enter Tryd.func18, Tryd.ntmps18
  go_wp2
  go_ret2
  exact ⟨rfl, Below.refl _ _⟩
set_option maxHeartbeats 1000000 in
theorem consistency_in (a : Option Addr) (len cap : Nat) (l : List (List UInt8)) (m : Nat) (w : World) (hR : LReads w a len cap l) (hm1 : 1 ≤ m) (hm : m ≤ len) (hl : len ≤ 100000) (hK : Table 0 w) :
    Calls Tryd.prog 18 #[.slice a len cap, .int .i64 m] w fun e w' => ∃ v, e = .returned (.tuple #[v, .int .i64 0]) ∧ w'.ownsRow w.heap.size 28 32 v (goes l m true).length (cellsOf (goes l m true).flatten) ∧ Below w.heap.size w w' := by
  obtain ⟨g, o, rfl, hg⟩ := hR.at (by omega)
  have hd : decide ((m : Int) < 0) = false := by rw [decide_eq_false_iff_not]; omega
  have hd2 : decide ((len : Int) < (m : Int)) = false := by rw [decide_eq_false_iff_not]; omega
  have hd3 : decide (len < m) = false := by rw [decide_eq_false_iff_not]; omega
  have hd4 : ((m : Int) == 0) = false := by rw [beq_eq_false_iff_ne]; omega
  have hd5 : decide ((m : Int) = 0) = false := by rw [decide_eq_false_iff_not]; omega
  have hd6 : m ≠ 0 := by omega
  have hK0 := hK.1
  have PV : Hid (∀ W, Below w.heap.size w W → Holds w.heap.size w.heap.size (w.heap.size + 1) 68 (FC w.heap.size (w.heap.size + 1)) (.slice none 0 0) [] W →
      Calls Tryd.prog 27 #[.slice (some ⟨g, o, none⟩) len cap, .int .i64 m, .bool true, .pointer (some ⟨w.heap.size, 0, none⟩), .pointer (some ⟨w.heap.size + 1, 0, none⟩)] W fun e w' =>
      e = .returned (.tuple #[]) ∧ (∃ v', Holds w.heap.size w.heap.size (w.heap.size + 1) 68 (FC w.heap.size (w.heap.size + 1)) v' (goes l m true) w') ∧ Below w.heap.size W w') := fun W hb hh =>
    proveC_any len g o len cap m true l [] w.heap.size w.heap.size (w.heap.size + 1) _ W rfl (hR.keep hb) hg hm1 hm (Nat.le_refl _) (by omega) (by simp; omega) hb.size hh (hK.keep hb) hK0
  have HS : Hid (Holds w.heap.size w.heap.size (w.heap.size + 1) 68 (FC w.heap.size (w.heap.size + 1)) (.slice none 0 0) [] ((w.alloc (.cells #[.slice none 0 0] 31)).alloc (.cells #[FC w.heap.size (w.heap.size + 1)] 68))) :=
    ⟨heap_alloc2_old w _ _, heap_alloc2_new w _ _, World.ownsRow_nil _ _ _ _⟩
  have HB : Hid (Below w.heap.size w ((w.alloc (.cells #[.slice none 0 0] 31)).alloc (.cells #[FC w.heap.size (w.heap.size + 1)] 68))) := ((Below.refl _ _).alloc (Nat.le_refl _) _).alloc (by simp) _
  clear hK hR
  go_enter Tryd.func18, Tryd.ntmps18
  go_wp2_with fail
  refine (PV.out _ HB.out HS.out).mono ?_
  rintro e w2 ⟨rfl, ⟨v, hh⟩, hb2⟩
  have hcv := cell_of_one hh.proof
  have HO : Hid (w2.ownsRow w.heap.size 28 32 v (goes l m true).length (cellsOf (goes l m true).flatten) ∧ Below w.heap.size w w2) := ⟨hh.own, HB.out.trans hb2⟩
  clear hh hb2 PV HS HB
  go_wp2
  go_ret2
  exact ⟨v, rfl, HO.out⟩
end Go.Proofs.YtgclohgcehhfnabDoor
