/- What the document's Add (of fronts) answers. -/
import Derived.Test.YtmpmhfagbcknnaaDoorRefFrontOf
namespace Go.Proofs.YtmpmhfagbcknnaaDoor
open Go.RowKit Sums
set_option linter.unusedVariables false
set_option linter.unusedSimpArgs false

theorem carry_digs (hs : ∀ l, (sumD l).length = 32) (t : Nat) : ∀ (r : List (List UInt8)) (d : List UInt8), Digs32 r → d.length = 32 → Digs32 (carry t r d) := by
  induction t with
  | zero =>
    intro r d hr hd x hx
    rcases List.mem_cons.1 hx with rfl | hx
    · exact hd
    · exact hr x hx
  | succ t ih =>
    intro r d hr hd
    match r, hr with
    | [], _ => exact .one hd
    | p :: r, hr => exact ih r _ (fun x hx => hr x (List.mem_cons_of_mem _ hx)) (hs _)
theorem Digs32.reverse {l : List (List UInt8)} (h : Digs32 l) : Digs32 l.reverse := fun d hd => h d (List.mem_reverse.1 hd)
theorem addP_digs (hs : ∀ l, (sumD l).length = 32) (n : Nat) (ps : List (List UInt8)) (d : List UInt8) (h : Digs32 ps) (hd : d.length = 32) : Digs32 (addP n ps d) := (carry_digs hs _ _ _ h.reverse hd).reverse
/-- A variable that is an array, made, as one step of a region that draws its order. -/
theorem step_alloc_row {P : Program} {ops : Array Oper} {o : Oper} {a : Act} {w : World} {K : Act → World → Prop} {Q : Exit → Act → World → Prop} {E : Prop} (hw : Region.wanted o (yielded ops a.tmps) = true) (t : TypeId) (ho : o.op = .alloc t)
    (cs : Array Value) (hz : (P.info? t).map (fun i => (i.zero, i.size)) = some (some (.agg cs), cs.size)) (h : K (a.put o.dst (.pointer (some ⟨w.heap.size, 0, none⟩))) (w.alloc (.cells cs t))) : if Region.wanted o (yielded ops a.tmps) = true then Oper.wp P o a w K Q else E := by
  rw [if_pos hw]
  unfold Oper.wp execOp
  cases hq : P.info? t with
  | none => simp [hq] at hz
  | some i =>
    simp [hq] at hz
    simp [ho, Instr.alloc, newVar, zeroValue, typeInfo, hq, hz.1, go_sem]
    exact h
/-- An own list cut: still one's own. -/
theorem own_cut {w : World} {B g n cap : Nat} {l : List (List UInt8)} (h : w.ownsRow B 29 32 (.slice (some ⟨g, 0, none⟩) n cap) l.length (cellsOf l.flatten)) (hd : Digs32 l) (k : Nat) (hk : k ≤ l.length) : w.ownsRow B 29 32 (.slice (some ⟨g, 0, none⟩) k cap) (l.take k).length (cellsOf (l.take k).flatten) := by
  have hlk : (l.take k).length = k := by rw [List.length_take]; omega
  rcases h.2 with ⟨hv, _⟩ | ⟨g', c, cur, hv, hb, hg, hc, hm, hs, ht⟩
  · cases hv
  · cases hv
    refine ⟨by rw [cellsOf_length, flat_length (hd.take k)]; omega, .inr ⟨g, cap, cur, by rw [hlk], hb, hg, by omega, hm, hs, ?_⟩⟩
    rw [hlk, flat_take hd]
    have : cellsOf (l.flatten.take (32 * k)) = (cellsOf l.flatten).take (32 * k) := by unfold cellsOf; rw [List.map_take]
    rw [this, ← ht, List.take_take]
    congr 1
    omega

set_option maxHeartbeats 4000000 in
theorem refAdd_any (n : Nat) (a : Option Addr) (len cap : Nat) (ps : List (List UInt8)) (d : List UInt8) (w : World) (hR : LReads w a len cap ps) (hn : n ≤ 99999) (hl : len = many n) (hd : d.length = 32) (hK : Table 0 w) (D : Array Value) (HD : Hid (D = (cellsOf d).toArray)) :
    Calls Tryd.prog 16 #[.int .i64 n, .slice a len cap, .agg D] w fun e w' => ∃ y cy, e = .returned (.slice y (addP n ps d).length cy) ∧ LReads w' y (addP n ps d).length cy (addP n ps d) ∧ Below w.heap.size w w' := by
  have hlen := hR.1
  have hl1 : len ≤ 100000 := by rw [hl]; have := many_le n; omega
  have HT : Hid (∀ W, Below w.heap.size w W → Table 0 W) := fun W hb => hK.keep hb
  have hb0 : Below w.heap.size w (w.alloc (.cells D 29)) := (Below.refl _ _).alloc (Nat.le_refl _) _
  obtain ⟨v1, w1, hr1, ho1, hb1⟩ := append_any (w.alloc (.cells D 29)) (w.heap.size + 1) (.slice none 0 0) [] ps (World.ownsRow_nil _ _ _ _) a len cap (hR.keep hb0) (by simp) (by simp; omega)
  rw [List.nil_append] at ho1
  have hg1 : w1.heap[w.heap.size]? = some (.cells D 29 (0, 0)) := (hb1.block _ (by omega)).trans (heap_alloc_new w _)
  have hs1 : w.heap.size + 1 ≤ w1.heap.size := by have := hb1.size; simpa using this
  have hb2 : Below w1.heap.size w1 (w1.alloc (.cells D 29)) := (Below.refl _ _).alloc (Nat.le_refl _) _
  have hnew : LReads (w1.alloc (.cells D 29)) (some ⟨w1.heap.size, 0, none⟩) 1 1 [d] := LReads.new w1 [d] 1 rfl (.one hd) (by omega) D (by show _ = _; rw [HD.out]; simp)
  obtain ⟨v2, w2, hr2, ho2, hb3⟩ := append_any (w1.alloc (.cells D 29)) (w.heap.size + 1) v1 ps [d] (own_below ho1 hb2) (some ⟨w1.heap.size, 0, none⟩) 1 1 hnew (by simp; omega) (by omega)
  have HB := hidk (build_one w1 d hd D HD)
  have HR1 := hidk hr1
  have HR2 := hidk hr2
  have HG1 := hidk hg1
  have HSD : Hid ((Tryd.prog.info? 29).map (·.size) = some D.size) := by show _ = _; rw [size23, HD.out]; simp [cellsOf_length, hd]
  have HX : Hid (∃ r e, w2.ownsRow (w.heap.size + 1) 29 32 v2 (r.reverse ++ [e]).length (cellsOf (r.reverse ++ [e]).flatten) ∧ Digs32 r ∧ e.length = 32 ∧ r.length = many (n + 1 - 1) ∧ (carry (tz (n + 1)) r e).reverse = addP n ps d ∧ Below w.heap.size w w2) := by
    refine ⟨ps.reverse, d, by rw [List.reverse_reverse]; exact ho2, hR.2.1.reverse, hd, by rw [List.length_reverse, hlen, hl]; rfl, rfl, ((hb0.trans (hb1.mono (by omega))).trans (hb2.mono (by omega))).trans (hb3.mono (by omega))⟩
  have e0 := wrap_int ((n : Int) + 1) (by omega) (by omega)
  clear hR hb0 hr1 ho1 hb1 hg1 hs1 hb2 hnew hr2 ho2 hb3 hK hlen hl hl1
  go_enter Tryd.func16, Tryd.ntmps16
  go_wp2_with (first
    | (refine wpList_append_run rfl (.tmp 11) (.tmp 12) 22 22 rfl _ _ _ w1 rfl rfl HR1.out ?_; try simp only [Act.put, List.setIfInBounds_toArray, List.set_cons_zero, List.set_cons_succ])
    | (refine wpList_load_row rfl 29 (.tmp 5) rfl w.heap.size rfl 29 D (0, 0) _ HG1.out Tryd.underlying29 rfl HSD.out ?_; try simp only [Act.put, List.setIfInBounds_toArray, List.set_cons_zero, List.set_cons_succ])
    | (refine wpList_build_run rfl 22 1 _ rfl #[(0, .agg D)] rfl _ _ HB.out ?_; try simp only [Act.put, List.setIfInBounds_toArray, List.set_cons_zero, List.set_cons_succ])
    | (refine wpList_append_run rfl (.tmp 14) (.tmp 16) 22 22 rfl _ _ _ w2 rfl rfl HR2.out ?_; try simp only [Act.put, List.setIfInBounds_toArray, List.set_cons_zero, List.set_cons_succ])
    | fail)
  clear HR1 HR2 HB HG1
  go_loopw [7, 8] (fun u v wr => ∃ m : Nat, v = .int .i64 m ∧ 1 ≤ m ∧ m ≤ 100000 ∧ Hid (∃ r e, wr.ownsRow (w.heap.size + 1) 29 32 u (r.reverse ++ [e]).length (cellsOf (r.reverse ++ [e]).flatten) ∧ Digs32 r ∧ e.length = 32 ∧ r.length = many (m - 1) ∧ (carry (tz m) r e).reverse = addP n ps d ∧ Below w.heap.size w wr)) (fun _ v _ => (intOf v).toNat)
  case atStart => exact ⟨n + 1, by go_num, by omega, by omega, HX⟩
  case round =>
    clear HX
    obtain ⟨m, rfl, hm1, hm2, HI⟩ := hrel
    by_cases h2 : m % 2 = 0
    · have hz : ((m : Int) % 2 == 0) = true := by rw [beq_iff_eq]; omega
      obtain ⟨r0, q, h1, h3, h4, h5, h6, h7⟩ := HI.out
      obtain ⟨p, r, rfl⟩ : ∃ p r, r0 = p :: r := by
        cases r0 with
        | nil => rw [many_step (m - 1)] at h5; simp at h5; omega
        | cons p r => exact ⟨p, r, rfl⟩
      have hL : (p :: r).reverse ++ [q] = r.reverse ++ [p, q] := by simp
      rw [hL] at h1
      have hdL : Digs32 (r.reverse ++ [p, q]) := by
        refine (Digs32.reverse (fun x hx => h3 x (List.mem_cons_of_mem _ hx))).append (fun x hx => ?_)
        simp only [List.mem_cons, List.not_mem_nil, or_false] at hx
        rcases hx with rfl | rfl
        · exact h3 _ (List.mem_cons_self ..)
        · exact h4
      obtain ⟨s, HSr⟩ : ∃ s, Hid (s = r.length) := ⟨_, (rfl : r.length = _)⟩
      have hlL : (r.reverse ++ [p, q]).length = s + 2 := by rw [List.length_append, List.length_reverse, ← HSr.out]; rfl
      have hs17 : s + 2 ≤ 100001 := by
        have := many_le (m - 1)
        rw [List.length_cons, ← HSr.out] at h5
        omega
      obtain ⟨go, cc, hv⟩ := own_form h1 (by omega)
      have hgo : go < wr.heap.size := (h1.lt go (by rw [hv]; rfl)).2
      have hgB : w.heap.size + 1 ≤ go := (h1.lt go (by rw [hv]; rfl)).1
      obtain ⟨y, cy, hv2, hy, _⟩ := LReads.own h1 hdL
      rw [hv] at hv2 h1
      cases hv2
      rw [hlL] at hy
      obtain ⟨LP, HLP⟩ : ∃ LP, Hid (LP = cellsOf p) := ⟨_, (rfl : cellsOf p = _)⟩
      obtain ⟨LQ, HLQ⟩ : ∃ LQ, Hid (LQ = cellsOf q) := ⟨_, (rfl : cellsOf q = _)⟩
      have hp32 : p.length = 32 := h3 _ (List.mem_cons_self ..)
      have zP : (Tryd.prog.info? 29).map (·.size) = some LP.length := by rw [size23, HLP.out, cellsOf_length, hp32]
      have zQ : (Tryd.prog.info? 29).map (·.size) = some LQ.length := by rw [size23, HLQ.out, cellsOf_length, h4]
      have hS : wr.rangeAt go (32 * s) LP ∧ wr.rangeAt go (32 * (s + 1)) LQ := by
        have g1 := hy.range s (by omega)
        have g2 := hy.range (s + 1) (by omega)
        have q1 : (r.reverse ++ [p, q])[s]'(by omega) = p := by simp [HSr.out]
        have q2 : (r.reverse ++ [p, q])[s + 1]'(by omega) = q := by simp [HSr.out]
        rw [q1, Nat.zero_add] at g1
        rw [q2, Nat.zero_add] at g2
        rw [HLP.out, HLQ.out]
        exact ⟨g1, g2⟩
      obtain ⟨KD, HKD, HSK, H1K, H32K⟩ := dig_row' (knotD p q) (sumD_length _)
      obtain ⟨Z, HZ, HAZ, HSZ, H1Z, H32Z⟩ := noughts27
      have HZK : Hid (Z.size = KD.size) := by show _ = _; rw [H32Z.out, H32K.out]
      have KN : Hid (∀ W, Below w.heap.size w W → Calls Tryd.prog 25 #[.agg LP.toArray, .agg LQ.toArray] W fun e w' => e = .returned (.agg KD) ∧ Below W.heap.size W w') := fun W hb => by
        rw [HLP.out, HLQ.out]
        exact refKnot_any p q hp32 h4 W (HT.out W hb) KD (by show _ = _; rw [HKD.out]; rfl)
      have HBK : Hid (∀ W, (Instr.buildSlice 22 1 #[(0, .agg KD)]).run Tryd.prog W = .ok (.slice (some ⟨W.heap.size, 0, none⟩) 1 1) (W.alloc (.cells KD 29))) := fun W => build_one W _ (sumD_length _) KD HKD
      have hcc : s + 2 ≤ cc := hy.2.2.1
      have AP : Hid (∀ W, Below wr.heap.size wr W → ∃ v' w', (Builtin.append_ #[22, 22] 22 #[.slice (some ⟨go, 0, none⟩) s cc, .slice (some ⟨W.heap.size, 0, none⟩) 1 1]).run Tryd.prog (W.alloc (.cells KD 29)) = .ok v' w' ∧
          ∃ r e, w'.ownsRow (w.heap.size + 1) 29 32 v' (r.reverse ++ [e]).length (cellsOf (r.reverse ++ [e]).flatten) ∧ Digs32 r ∧ e.length = 32 ∧ r.length = many (m / 2 - 1) ∧ (carry (tz (m / 2)) r e).reverse = addP n ps d ∧ Below w.heap.size w w') := fun W hbW => by
        have hal : Below wr.heap.size wr (W.alloc (.cells KD 29)) := hbW.alloc hbW.size _
        have hcut := own_cut (own_below h1 hal) hdL s (by omega)
        rw [List.take_left' (by rw [List.length_reverse, HSr.out])] at hcut
        have hnew : LReads (W.alloc (.cells KD 29)) (some ⟨W.heap.size, 0, none⟩) 1 1 [knotD p q] := LReads.new W [knotD p q] 1 rfl (.one (sumD_length _)) (by omega) KD (by show _ = _; rw [HKD.out]; simp)
        have hwB : w.heap.size + 1 ≤ (W.alloc (.cells KD 29)).heap.size := by have := hal.size; omega
        obtain ⟨v', w', hr, ho, hbw⟩ := append_any (W.alloc (.cells KD 29)) (w.heap.size + 1) _ r.reverse [knotD p q] hcut _ 1 1 hnew hwB (by rw [List.length_reverse, ← HSr.out]; omega)
        refine ⟨v', w', hr, r, knotD p q, ho, (fun x hx => h3 x (List.mem_cons_of_mem _ hx)), sumD_length _, ?_, ?_, (h7.trans (hal.mono h7.size)).trans (hbw.mono (by omega))⟩
        · rw [many_step (m - 1), List.length_cons] at h5
          rw [show m / 2 - 1 = (m - 1) / 2 by omega]
          omega
        · rw [← h6, tz_even m hm1 h2, Nat.add_comm 1]
          rfl
      have HB7 := hidk h7
      have ix1 := fun W => index_list W go 0 (s + 2) cc s .i64 (by omega)
      have slc := fun W => slice_left W go 0 (s + 2) cc s (by omega)
      simp only [Nat.zero_add] at ix1
      have ix2 : ∀ W, (Instr.indexAt 22 (.slice (some ⟨go, 0, none⟩) (s + 2) cc) (.int .i64 ((s : Int) + 1))).run Tryd.prog W = .ok (.pointer (some ⟨go, 32 * (s + 1), none⟩)) W := fun W => by
        have := index_list W go 0 (s + 2) cc (s + 1) .i64 (by omega)
        rw [Nat.zero_add, show ((s + 1 : Nat) : Int) = (s : Int) + 1 by omega] at this
        exact this
      have e1 := wrap_int ((s : Int) + 2 - 2) (by omega) (by omega)
      have e2 := wrap_int ((s : Int) + 2 - 1) (by omega) (by omega)
      rw [hv, hlL]
      clear HI h1 h3 h4 h5 h6 h7 hdL hlL hy HLP HLQ hL HKD hv HSr
      go_wp2
      refine wp_region_held_drew (S := (fun W => W.rangeAt go (32 * s) LP ∧ W.rangeAt go (32 * (s + 1)) LQ)) (by kernel_rfl) hS (fun hHeld => ?_)
      refine wpAnyH_take (i := 0) (oi := { dst := some 25, op := Op.move (Operand.tmp 7), type := 22, pos := "ref.go:47", after := #[], guard := none }) (v := .slice (some ⟨go, 0, none⟩) (s + 2) cc) rfl (by kernel_rfl) (by kernel_rfl) (by kernel_rfl) (fun _ _ _ h => h) (Or.inl ⟨by rfl, by intro W hSw; go_simp⟩) hHeld ?_
      try simp only [Act.put, List.setIfInBounds_toArray, List.set_cons_zero, List.set_cons_succ]
      refine wpAnyH_take (i := 1) (oi := { dst := some 26, op := Op.move (Operand.tmp 9), type := 3, pos := "ref.go:47", after := #[], guard := none }) (v := .int .i64 ((s : Int) + 2)) rfl (by kernel_rfl) (by kernel_rfl) (by kernel_rfl) (fun _ _ _ h => h) (Or.inl ⟨by rfl, by intro W hSw; go_simp⟩) hHeld ?_
      try simp only [Act.put, List.setIfInBounds_toArray, List.set_cons_zero, List.set_cons_succ]
      refine wpAnyH_take (i := 2) (oi := { dst := some 27, op := Op.binOp BinOp.sub 3 (Operand.tmp 26) (Operand.const (Value.int IntKind.i64 2)) 3, type := 3, pos := "ref.go:47", after := #[{ on := 1, ground := Ground.data }], guard := none }) (v := .int .i64 s) rfl (by kernel_rfl) (by kernel_rfl) (by kernel_rfl) (fun _ _ _ h => h) (Or.inl ⟨by rfl, by intro W hSw; go_simp; exact wrap_int _ (by omega) (by omega)⟩) hHeld ?_
      try simp only [Act.put, List.setIfInBounds_toArray, List.set_cons_zero, List.set_cons_succ]
      refine wpAnyH_take (i := 3) (oi := { dst := some 28, op := Op.indexAddr 22 (Operand.tmp 25) (Operand.tmp 27), type := 0, pos := "ref.go:47", after := #[{ on := 0, ground := Ground.data }, { on := 2, ground := Ground.data }], guard := none }) (v := .pointer (some ⟨go, 32 * s, none⟩)) rfl (by kernel_rfl) (by kernel_rfl) (by kernel_rfl) (fun _ _ _ h => h) (Or.inl ⟨by rfl, by intro W hSw; have := ix1 W; go_simp⟩) hHeld ?_
      try simp only [Act.put, List.setIfInBounds_toArray, List.set_cons_zero, List.set_cons_succ]
      refine wpAnyH_take (i := 4) (oi := { dst := some 29, op := Op.load 29 (Operand.tmp 28), type := 29, pos := "ref.go:47", after := #[{ on := 3, ground := Ground.data }], guard := none }) (v := .agg LP.toArray) rfl (by kernel_rfl) (by kernel_rfl) (by kernel_rfl) (fun _ _ _ h => h) (yieldsIf_load_mid (by rfl) 29 (.tmp 28) rfl _ _ rfl LP _ (fun _ h => h.1) Tryd.underlying29 rfl zP) hHeld ?_
      try simp only [Act.put, List.setIfInBounds_toArray, List.set_cons_zero, List.set_cons_succ]
      refine wpAnyH_take (i := 5) (oi := { dst := some 30, op := Op.move (Operand.tmp 7), type := 22, pos := "ref.go:47", after := #[], guard := none }) (v := .slice (some ⟨go, 0, none⟩) (s + 2) cc) rfl (by kernel_rfl) (by kernel_rfl) (by kernel_rfl) (fun _ _ _ h => h) (Or.inl ⟨by rfl, by intro W hSw; go_simp⟩) hHeld ?_
      try simp only [Act.put, List.setIfInBounds_toArray, List.set_cons_zero, List.set_cons_succ]
      refine wpAnyH_take (i := 6) (oi := { dst := some 31, op := Op.move (Operand.tmp 9), type := 3, pos := "ref.go:47", after := #[], guard := none }) (v := .int .i64 ((s : Int) + 2)) rfl (by kernel_rfl) (by kernel_rfl) (by kernel_rfl) (fun _ _ _ h => h) (Or.inl ⟨by rfl, by intro W hSw; go_simp⟩) hHeld ?_
      try simp only [Act.put, List.setIfInBounds_toArray, List.set_cons_zero, List.set_cons_succ]
      refine wpAnyH_take (i := 7) (oi := { dst := some 32, op := Op.binOp BinOp.sub 3 (Operand.tmp 31) (Operand.const (Value.int IntKind.i64 1)) 3, type := 3, pos := "ref.go:47", after := #[{ on := 6, ground := Ground.data }], guard := none }) (v := .int .i64 ((s : Int) + 1)) rfl (by kernel_rfl) (by kernel_rfl) (by kernel_rfl) (fun _ _ _ h => h) (Or.inl ⟨by rfl, by intro W hSw; go_simp; omega⟩) hHeld ?_
      try simp only [Act.put, List.setIfInBounds_toArray, List.set_cons_zero, List.set_cons_succ]
      refine wpAnyH_take (i := 8) (oi := { dst := some 33, op := Op.indexAddr 22 (Operand.tmp 30) (Operand.tmp 32), type := 0, pos := "ref.go:47", after := #[{ on := 5, ground := Ground.data }, { on := 7, ground := Ground.data }], guard := none }) (v := .pointer (some ⟨go, 32 * (s + 1), none⟩)) rfl (by kernel_rfl) (by kernel_rfl) (by kernel_rfl) (fun _ _ _ h => h) (Or.inl ⟨by rfl, by intro W hSw; have := ix2 W; go_simp⟩) hHeld ?_
      try simp only [Act.put, List.setIfInBounds_toArray, List.set_cons_zero, List.set_cons_succ]
      refine wpAnyH_take (i := 9) (oi := { dst := some 34, op := Op.load 29 (Operand.tmp 33), type := 29, pos := "ref.go:47", after := #[{ on := 8, ground := Ground.data }], guard := none }) (v := .agg LQ.toArray) rfl (by kernel_rfl) (by kernel_rfl) (by kernel_rfl) (fun _ _ _ h => h) (yieldsIf_load_mid (by rfl) 29 (.tmp 33) rfl _ _ rfl LQ _ (fun _ h => h.2) Tryd.underlying29 rfl zQ) hHeld ?_
      try simp only [Act.put, List.setIfInBounds_toArray, List.set_cons_zero, List.set_cons_succ]
      refine wpAnyH_ready (rs := [10, 11]) (by kernel_rfl) (by simp) ?_
      refine (AllReadyH.cons (o := { dst := some 35, op := Op.call { callee := Callee.value (Operand.func 25), args := #[Operand.tmp 29, Operand.tmp 34], argTypes := #[29, 29] }, type := 29, pos := "ref.go:47", after := #[{ on := 4, ground := Ground.data }, { on := 9, ground := Ground.data }], guard := none }) rfl (fun K hK => ?_) (AllReadyH.cons (o := { dst := some 10, op := Op.alloc 29, type := 0, pos := "ref.go:47", after := #[], guard := none }) rfl (fun K hK => ?_) AllReadyH.nil))
      · go_simp
        refine (KN.out _ (by first | exact HB7.out.drew | exact HB7.out.drew.alloc HB7.out.size _)).mono ?_
        rintro e w10 ⟨rfl, hb10⟩
        go_wp2_with fail
        refine hK.out _ _ ⟨range_keep hb10 hHeld.1, range_keep hb10 hHeld.2⟩ (fun hHeld => ?_)
        clear hK K
        try simp only [Act.put, List.setIfInBounds_toArray, List.set_cons_zero, List.set_cons_succ]
        refine wpAnyH_ready (rs := [11]) (by kernel_rfl) (by simp) ?_
        refine (AllReadyH.cons (o := { dst := some 10, op := Op.alloc 29, type := 0, pos := "ref.go:47", after := #[], guard := none }) rfl (fun K hK => ?_) AllReadyH.nil)
        refine step_alloc_row (by rfl) 29 rfl Z HAZ.out ?_
        refine hK.out _ _ ⟨range_keep ((Below.refl _ _).alloc (Nat.le_refl _) _) hHeld.1, range_keep ((Below.refl _ _).alloc (Nat.le_refl _) _) hHeld.2⟩ (fun hHeld => ?_)
        clear hK K
        try simp only [Act.put, List.setIfInBounds_toArray, List.set_cons_zero, List.set_cons_succ]
        refine wpAnyH_ready (rs := [12]) (by kernel_rfl) (by simp) ?_
        refine (AllReadyH.cons (o := { dst := none, op := Op.store 29 (Operand.tmp 10) (Operand.tmp 35), type := 0, pos := "ref.go:47", after := #[{ on := 11, ground := Ground.data }, { on := 10, ground := Ground.data }, { on := 10, ground := Ground.chain }, { on := 0, ground := Ground.phase }, { on := 1, ground := Ground.phase }, { on := 2, ground := Ground.phase }, { on := 3, ground := Ground.phase }, { on := 4, ground := Ground.phase }, { on := 5, ground := Ground.phase }, { on := 6, ground := Ground.phase }, { on := 7, ground := Ground.phase }, { on := 8, ground := Ground.phase }, { on := 9, ground := Ground.phase }, { on := 10, ground := Ground.phase }, { on := 11, ground := Ground.phase }], guard := none }) rfl (fun K hK => ?_) AllReadyH.nil)
        first | (have HPOST : Below wr.heap.size wr ((w10.alloc (.cells Z 29)).setRow w10.heap.size KD) := below_var ((Below.refl _ _).drew.trans hb10) hb10.size _ _; have HGD : Hid (((w10.alloc (.cells Z 29)).setRow w10.heap.size KD).heap[w10.heap.size]? = some (.cells KD 29 (0, 0))) := new_var w10 Z KD 29; have hne : go ≠ w10.heap.size := Nat.ne_of_lt (Nat.lt_of_lt_of_le hgo hb10.size); refine step_store_row (by rfl) 29 (.tmp 10) (.tmp 35) rfl w10.heap.size KD rfl rfl 29 Z (heap_alloc_new w10 _) HSK.out HZK.out H1K.out ?_) | (have HZ10 : Hid (w10.heap[wr.heap.size]? = some (.cells Z 29 (0, 0))) := (hb10.block _ (by simp)).trans (heap_alloc_new wr.drew _); have HPOST : Below wr.heap.size wr (w10.setRow wr.heap.size KD) := below_setRow (((Below.refl _ _).drew.alloc (Nat.le_refl _) _).trans (hb10.mono (by simp))) (Nat.le_refl _) _; have HGD : Hid ((w10.setRow wr.heap.size KD).heap[wr.heap.size]? = some (.cells KD 29 (0, 0))) := setRow_heap _ _ _ _ 29 _ HZ10.out; have hne : go ≠ wr.heap.size := Nat.ne_of_lt hgo; refine step_store_row (by rfl) 29 (.tmp 10) (.tmp 35) rfl wr.heap.size KD rfl rfl 29 Z HZ10.out HSK.out HZK.out H1K.out ?_)
        refine hK.out _ _ ⟨range_other hHeld.1 hne, range_other hHeld.2 hne⟩ (fun hHeld => ?_)
        clear hK K
        try simp only [Act.put, List.setIfInBounds_toArray, List.set_cons_zero, List.set_cons_succ]
        refine wpAnyH_done (by kernel_rfl) ?_ _
        obtain ⟨v', w12, hr, HN⟩ := AP.out _ HPOST
        replace hr := hidk hr
        replace HN := hidk HN
        go_wp2_with (first | (refine wpList_load_row rfl 29 (.tmp 10) rfl _ rfl 29 KD (0, 0) _ HGD.out Tryd.underlying29 rfl HSK.out ?_; try simp only [Act.put, List.setIfInBounds_toArray, List.set_cons_zero, List.set_cons_succ]) | (refine wpList_build_run rfl 22 1 _ rfl #[(0, .agg KD)] rfl _ _ (HBK.out _) ?_; try simp only [Act.put, List.setIfInBounds_toArray, List.set_cons_zero, List.set_cons_succ]) | (refine wpList_append_run rfl (.tmp 40) (.tmp 42) 22 22 rfl _ _ v' w12 rfl rfl hr.out ?_; try simp only [Act.put, List.setIfInBounds_toArray, List.set_cons_zero, List.set_cons_succ]) | fail)
        go_roundw
        case rel => exact ⟨m / 2, by go_num, by omega, by omega, HN⟩
        case measure => simp [intOf]; omega
      · refine step_alloc_row (by rfl) 29 rfl Z HAZ.out ?_
        refine hK.out _ _ ⟨range_keep ((Below.refl _ _).alloc (Nat.le_refl _) _) hHeld.1, range_keep ((Below.refl _ _).alloc (Nat.le_refl _) _) hHeld.2⟩ (fun hHeld => ?_)
        clear hK K
        try simp only [Act.put, List.setIfInBounds_toArray, List.set_cons_zero, List.set_cons_succ]
        refine wpAnyH_ready (rs := [10]) (by kernel_rfl) (by simp) ?_
        refine (AllReadyH.cons (o := { dst := some 35, op := Op.call { callee := Callee.value (Operand.func 25), args := #[Operand.tmp 29, Operand.tmp 34], argTypes := #[29, 29] }, type := 29, pos := "ref.go:47", after := #[{ on := 4, ground := Ground.data }, { on := 9, ground := Ground.data }], guard := none }) rfl (fun K hK => ?_) AllReadyH.nil)
        go_simp
        refine (KN.out _ (by first | exact HB7.out.drew | exact HB7.out.drew.alloc HB7.out.size _)).mono ?_
        rintro e w10 ⟨rfl, hb10⟩
        go_wp2_with fail
        refine hK.out _ _ ⟨range_keep hb10 hHeld.1, range_keep hb10 hHeld.2⟩ (fun hHeld => ?_)
        clear hK K
        try simp only [Act.put, List.setIfInBounds_toArray, List.set_cons_zero, List.set_cons_succ]
        refine wpAnyH_ready (rs := [12]) (by kernel_rfl) (by simp) ?_
        refine (AllReadyH.cons (o := { dst := none, op := Op.store 29 (Operand.tmp 10) (Operand.tmp 35), type := 0, pos := "ref.go:47", after := #[{ on := 11, ground := Ground.data }, { on := 10, ground := Ground.data }, { on := 10, ground := Ground.chain }, { on := 0, ground := Ground.phase }, { on := 1, ground := Ground.phase }, { on := 2, ground := Ground.phase }, { on := 3, ground := Ground.phase }, { on := 4, ground := Ground.phase }, { on := 5, ground := Ground.phase }, { on := 6, ground := Ground.phase }, { on := 7, ground := Ground.phase }, { on := 8, ground := Ground.phase }, { on := 9, ground := Ground.phase }, { on := 10, ground := Ground.phase }, { on := 11, ground := Ground.phase }], guard := none }) rfl (fun K hK => ?_) AllReadyH.nil)
        first | (have HPOST : Below wr.heap.size wr ((w10.alloc (.cells Z 29)).setRow w10.heap.size KD) := below_var ((Below.refl _ _).drew.trans hb10) hb10.size _ _; have HGD : Hid (((w10.alloc (.cells Z 29)).setRow w10.heap.size KD).heap[w10.heap.size]? = some (.cells KD 29 (0, 0))) := new_var w10 Z KD 29; have hne : go ≠ w10.heap.size := Nat.ne_of_lt (Nat.lt_of_lt_of_le hgo hb10.size); refine step_store_row (by rfl) 29 (.tmp 10) (.tmp 35) rfl w10.heap.size KD rfl rfl 29 Z (heap_alloc_new w10 _) HSK.out HZK.out H1K.out ?_) | (have HZ10 : Hid (w10.heap[wr.heap.size]? = some (.cells Z 29 (0, 0))) := (hb10.block _ (by simp)).trans (heap_alloc_new wr.drew _); have HPOST : Below wr.heap.size wr (w10.setRow wr.heap.size KD) := below_setRow (((Below.refl _ _).drew.alloc (Nat.le_refl _) _).trans (hb10.mono (by simp))) (Nat.le_refl _) _; have HGD : Hid ((w10.setRow wr.heap.size KD).heap[wr.heap.size]? = some (.cells KD 29 (0, 0))) := setRow_heap _ _ _ _ 29 _ HZ10.out; have hne : go ≠ wr.heap.size := Nat.ne_of_lt hgo; refine step_store_row (by rfl) 29 (.tmp 10) (.tmp 35) rfl wr.heap.size KD rfl rfl 29 Z HZ10.out HSK.out HZK.out H1K.out ?_)
        refine hK.out _ _ ⟨range_other hHeld.1 hne, range_other hHeld.2 hne⟩ (fun hHeld => ?_)
        clear hK K
        try simp only [Act.put, List.setIfInBounds_toArray, List.set_cons_zero, List.set_cons_succ]
        refine wpAnyH_done (by kernel_rfl) ?_ _
        obtain ⟨v', w12, hr, HN⟩ := AP.out _ HPOST
        replace hr := hidk hr
        replace HN := hidk HN
        go_wp2_with (first | (refine wpList_load_row rfl 29 (.tmp 10) rfl _ rfl 29 KD (0, 0) _ HGD.out Tryd.underlying29 rfl HSK.out ?_; try simp only [Act.put, List.setIfInBounds_toArray, List.set_cons_zero, List.set_cons_succ]) | (refine wpList_build_run rfl 22 1 _ rfl #[(0, .agg KD)] rfl _ _ (HBK.out _) ?_; try simp only [Act.put, List.setIfInBounds_toArray, List.set_cons_zero, List.set_cons_succ]) | (refine wpList_append_run rfl (.tmp 40) (.tmp 42) 22 22 rfl _ _ v' w12 rfl rfl hr.out ?_; try simp only [Act.put, List.setIfInBounds_toArray, List.set_cons_zero, List.set_cons_succ]) | fail)
        go_roundw
        case rel => exact ⟨m / 2, by go_num, by omega, by omega, HN⟩
        case measure => simp [intOf]; omega
    · have hz : ((m : Int) % 2 == 0) = false := by rw [beq_eq_false_iff_ne]; omega
      obtain ⟨r, q, h1, h3, h4, h5, h6, h7⟩ := HI.out
      rw [tz_odd m (by omega)] at h6
      have h8 : r.reverse ++ [q] = addP n ps d := by rw [← h6]; simp [carry]
      rw [h8] at h1
      obtain ⟨y, cy, hv, hy, _⟩ := LReads.own h1 (by
        rw [← h8]
        exact h3.reverse.append (.one h4))
      have HY : Hid (LReads wr y (addP n ps d).length cy (addP n ps d) ∧ Below w.heap.size w wr) := ⟨hy, h7⟩
      subst hv
      clear HI h1 h3 h4 h5 h6 h7 h8 hy
      go_wp2
      go_ret
      exact ⟨y, cy, rfl, HY.out⟩
end Go.Proofs.YtmpmhfagbcknnaaDoor
