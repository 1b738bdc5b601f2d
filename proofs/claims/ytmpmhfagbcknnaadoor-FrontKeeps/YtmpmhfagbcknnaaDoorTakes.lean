/- A leaf comes to a front. -/
import Derived.Test.YtmpmhfagbcknnaaDoorJoins
namespace Go.Proofs.YtmpmhfagbcknnaaDoor
open Go.RowKit Sums
set_option linter.unusedVariables false
set_option linter.unusedSimpArgs false

theorem tz_many (n : Nat) : tz (n + 1) ≤ many n := by
  induction n using Nat.strongRecOn with
  | _ n ih =>
    by_cases h : n % 2 = 0
    · rw [tz_odd (n + 1) (by omega)]; exact Nat.zero_le _
    · rw [tz_even (n + 1) (by omega) (by omega), show (n + 1) / 2 = n / 2 + 1 by omega, many_step n]
      have := ih (n / 2) (by omega)
      omega

theorem grow_append {B gp : Nat} {x v : Value} {l : List (List UInt8)} {w : World} (h : Grow B gp x v l w) (hB : B ≤ w.heap.size) (hlen : l.length + 1 ≤ 1000000) (d : List UInt8) (hd : d.length = 32) (D : Array Value) (HD : Hid (D = (cellsOf d).toArray)) :
    ∃ gn cn w', (Builtin.append_ #[22, 22] 22 #[v, .slice (some ⟨w.heap.size, 0, none⟩) 1 1]).run Tryd.prog (w.alloc (.cells D 29)) = .ok (.slice (some ⟨gn, 0, none⟩) (l.length + 1) cn) w' ∧
      w'.heap[gp]? = some (.cells #[x, v] 50 (0, 0)) ∧ w'.ownsRow B 29 32 (.slice (some ⟨gn, 0, none⟩) (l.length + 1) cn) (l ++ [d]).length (cellsOf (l ++ [d]).flatten) ∧ Below B w w' := by
  obtain ⟨v', w', h1, h2, h3, h4⟩ := h.append hB hlen d hd D HD
  obtain ⟨gn, cn, hv⟩ := own_form h3 (by simp)
  have e : (l ++ [d]).length = l.length + 1 := by simp
  rw [e] at hv
  subst hv
  exact ⟨gn, cn, w', h1, h2, h3, h4⟩

set_option maxHeartbeats 4000000 in
theorem take_any (B gp n : Nat) (v : Value) (l : List (List UInt8)) (d : List UInt8) (w : World) (hG : Grow B gp (.int .i64 n) v l w) (hd : Digs32 l) (hl : l.length = many n) (hn : n ≤ 99999) (hd32 : d.length = 32) (hB : B ≤ gp) (hK : TabF w) (hT : 1 < B ∧ 3 < B) (D : Array Value) (HD : Hid (D = (cellsOf d).toArray)) :
    Calls Tryd.prog 27 #[.pointer (some ⟨gp, 0, none⟩), .agg D] w fun e w' => e = .returned (.tuple #[]) ∧ (∃ v', Grow B gp (.int .i64 ((n : Int) + 1)) v' (addP n l d) w') ∧ Below B w w' := by
  have hBw : B ≤ w.heap.size := Nat.le_of_lt (Nat.lt_of_le_of_lt hB (heap_lt hG.var))
  have hll : l.length ≤ 99999 := by rw [hl]; have := many_le n; omega
  obtain ⟨T, HT⟩ : ∃ T, Hid (T = tz (n + 1)) := ⟨_, (rfl : tz (n + 1) = _)⟩
  have hTl : T ≤ l.length := by rw [HT.out, hl]; exact tz_many n
  have TZ : Hid (∀ W, Below B w W → Calls Tryd.prog 36 #[.int .u64 ((n : Int) + 1)] W fun e w' => e = .returned (.int .i64 T) ∧ W = w') := fun W hb => by
    rw [HT.out]
    exact tz_any (n + 1) (by omega) (by omega) W (hK.2.low hb hT.2)
  have JN : Hid (∀ (v : Value) (r : List (List UInt8)) (p q : List UInt8) (W : World), Grow B gp (.int .i64 ((n : Int) + 1)) v (r ++ [p, q]) W → Digs32 (r ++ [p, q]) → r.length ≤ 100000 → Below B w W →
      Calls Tryd.prog 37 #[.pointer (some ⟨gp, 0, none⟩)] W fun e w' => e = .returned (.tuple #[]) ∧ (∃ v', Grow B gp (.int .i64 ((n : Int) + 1)) v' (r ++ [knotD p q]) w') ∧ Below B W w') := fun v r p q W h1 h2 h3 h4 =>
    join_any B gp _ v r p q W h1 h2 h3 hB (table_low hK.1 h4 hT.1)
  have HSD : Hid ((Tryd.prog.info? 29).map (·.size) = some D.size) := by show _ = _; rw [size23, HD.out]; simp [cellsOf_length, hd32]
  have HX : Hid (Digs32 l ∧ (carry T l.reverse d).reverse = addP n l d) := ⟨hd, by rw [HT.out]; rfl⟩
  have hb0 : Below w.heap.size w (w.alloc (.cells D 29)) := (Below.refl _ _).alloc (Nat.le_refl _) _
  have hG0 := hG.keep hb0
  have HA : Hid (Grow B gp (.int .i64 ((n : Int) + 1)) v l ((w.alloc (.cells D 29)).setCell ⟨gp, 0, none⟩ (.int .i64 ((n : Int) + 1))) ∧ ((w.alloc (.cells D 29)).setCell ⟨gp, 0, none⟩ (.int .i64 ((n : Int) + 1))).heap[w.heap.size]? = some (.cells D 29 (0, 0)) ∧ Below B w ((w.alloc (.cells D 29)).setCell ⟨gp, 0, none⟩ (.int .i64 ((n : Int) + 1)))) :=
    ⟨hG0.size _, (heap_setCell_other _ _ _ _ (by have := heap_lt hG.var; show w.heap.size ≠ gp; omega)).trans (heap_alloc_new w _), (hb0.mono hBw).setCell (by simpa using hB) _⟩
  have hc0 := hG0.two.1
  have hf0 := hG0.free 0
  have w1 := wrap_int ((n : Int) + 1) (by omega) (by omega)
  have w2 : IntKind.u64.wrap ((n : Int) + 1) = (n : Int) + 1 := by rw [IntKind.wrap_u64]; omega
  clear hG hd hl hK hT HT hG0 hb0
  go_enter Tryd.func27, Tryd.ntmps27
  go_wp2
  clear hc0 hf0
  generalize (w.alloc (.cells D 29)).setCell ⟨gp, 0, none⟩ (.int .i64 ((n : Int) + 1)) = wa at HA ⊢
  generalize w.heap.size = gl at HA ⊢
  have HG := hidk HA.out.1.drew
  have hB0 : Below B w wa.drew := HA.out.2.2.drew
  have HL : Hid (wa.drew.heap[gl]? = some (.cells D 29 (0, 0))) := HA.out.2.1
  have hBa : B ≤ wa.drew.heap.size := Nat.le_of_lt (Nat.lt_of_le_of_lt hB (heap_lt HG.out.var))
  clear HA
  refine wp_region_held_drew (S := (fun _ => True)) (by kernel_rfl) trivial (fun hHeld => ?_)
  refine wpAnyH_take (i := 0) (oi := { dst := some 13, op := Op.move (Operand.tmp 0), type := 65, pos := "front.go:32", after := #[], guard := none }) (v := .pointer (some ⟨gp, 0, none⟩)) rfl (by kernel_rfl) (by kernel_rfl) (by kernel_rfl) (fun _ _ _ h => h) (Or.inl ⟨by rfl, by intro W hSw; go_simp⟩) hHeld ?_
  try simp only [Act.put, List.setIfInBounds_toArray, List.set_cons_zero, List.set_cons_succ]
  refine wpAnyH_take (i := 1) (oi := { dst := some 14, op := Op.move (Operand.tmp 0), type := 65, pos := "front.go:32", after := #[], guard := none }) (v := .pointer (some ⟨gp, 0, none⟩)) rfl (by kernel_rfl) (by kernel_rfl) (by kernel_rfl) (fun _ _ _ h => h) (Or.inl ⟨by rfl, by intro W hSw; go_simp⟩) hHeld ?_
  try simp only [Act.put, List.setIfInBounds_toArray, List.set_cons_zero, List.set_cons_succ]
  refine wpAnyH_take (i := 2) (oi := { dst := some 15, op := Op.nilCheck (Operand.tmp 14), type := 0, pos := "front.go:32", after := #[{ on := 1, ground := Ground.data }], guard := none }) (v := .pointer (some ⟨gp, 0, none⟩)) rfl (by kernel_rfl) (by kernel_rfl) (by kernel_rfl) (fun _ _ _ h => h) (Or.inl ⟨by rfl, by intro W hSw; go_simp⟩) hHeld ?_
  try simp only [Act.put, List.setIfInBounds_toArray, List.set_cons_zero, List.set_cons_succ]
  refine wpAnyH_take (i := 3) (oi := { dst := some 16, op := Op.fieldAddr 50 (Operand.tmp 15) 0, type := 0, pos := "front.go:32", after := #[{ on := 2, ground := Ground.data }], guard := none }) (v := .pointer (some ⟨gp, 0, none⟩)) rfl (by kernel_rfl) (by kernel_rfl) (by kernel_rfl) (fun _ _ _ h => h) (Or.inl ⟨by rfl, by intro W hSw; go_simp⟩) hHeld ?_
  try simp only [Act.put, List.setIfInBounds_toArray, List.set_cons_zero, List.set_cons_succ]
  refine wpAnyH_take (i := 4) (oi := { dst := some 17, op := Op.fieldAddr 25 (Operand.tmp 16) 1, type := 0, pos := "front.go:32", after := #[{ on := 3, ground := Ground.data }], guard := none }) (v := .pointer (some ⟨gp, 1, none⟩)) rfl (by kernel_rfl) (by kernel_rfl) (by kernel_rfl) (fun _ _ _ h => h) (Or.inl ⟨by rfl, by intro W hSw; go_simp⟩) hHeld ?_
  try simp only [Act.put, List.setIfInBounds_toArray, List.set_cons_zero, List.set_cons_succ]
  refine wpAnyH_ready (rs := [5, 6]) (by kernel_rfl) (by simp) ?_
  refine (AllReadyH.cons (o := { dst := some 18, op := Op.load 22 (Operand.tmp 17), type := 22, pos := "front.go:32", after := #[{ on := 4, ground := Ground.data }], guard := none }) rfl (fun K hK => ?_) (AllReadyH.cons (o := { dst := some 19, op := Op.load 29 (Operand.tmp 3), type := 29, pos := "front.go:32", after := #[], guard := none }) rfl (fun K hK => ?_) AllReadyH.nil))
  · have hc := HG.out.two.2
    try (have hc3 : (wa.alloc (.cells D 29)).cell? ⟨gp, 1, none⟩ = some v := hc)
    go_simp
    clear hc
    refine hK.out _ _ trivial (fun hHeld => ?_)
    clear hK K
    try simp only [Act.put, List.setIfInBounds_toArray, List.set_cons_zero, List.set_cons_succ]
    refine wpAnyH_ready (rs := [6]) (by kernel_rfl) (by simp) ?_
    refine (AllReadyH.cons (o := { dst := some 19, op := Op.load 29 (Operand.tmp 3), type := 29, pos := "front.go:32", after := #[], guard := none }) rfl (fun K hK => ?_) AllReadyH.nil)
    refine step_load_row (by rfl) 29 (.tmp 3) rfl gl rfl 29 D (0, 0) _ HL.out Tryd.underlying29 rfl HSD.out ?_
    refine hK.out _ _ trivial (fun hHeld => ?_)
    clear hK K
    try simp only [Act.put, List.setIfInBounds_toArray, List.set_cons_zero, List.set_cons_succ]
    refine wpAnyH_ready (rs := [7]) (by kernel_rfl) (by simp) ?_
    refine (AllReadyH.cons (o := { dst := some 20, op := Op.buildSlice 22 1 #[(0, Operand.tmp 19)], type := 22, pos := "front.go:32", after := #[{ on := 6, ground := Ground.data }], guard := none }) rfl (fun K hK => ?_) AllReadyH.nil)
    refine step_build_run (by rfl) 22 1 _ rfl #[(0, .agg D)] rfl _ _ (build_one _ _ hd32 D HD) ?_
    obtain ⟨gn, cn, w8, hrun, q1, q2, q3⟩ := grow_append HG.out hBa (by omega) _ hd32 D HD
    replace HG := hidk (HG.out.keep ((Below.refl _ _).alloc (Nat.le_refl _) (.cells D 29)))
    refine hK.out _ _ trivial (fun hHeld => ?_)
    clear hK K
    try simp only [Act.put, List.setIfInBounds_toArray, List.set_cons_zero, List.set_cons_succ]
    refine wpAnyH_ready (rs := [8]) (by kernel_rfl) (by simp) ?_
    refine (AllReadyH.cons (o := { dst := some 21, op := Op.call { callee := Callee.builtin Builtin.append, args := #[Operand.tmp 18, Operand.tmp 20], argTypes := #[22, 22] }, type := 22, pos := "front.go:32", after := #[{ on := 5, ground := Ground.data }, { on := 7, ground := Ground.data }], guard := none }) rfl (fun K hK => ?_) AllReadyH.nil)
    refine step_append_run rfl (.tmp 18) (.tmp 20) 22 22 rfl v _ _ w8 rfl rfl hrun ?_
    refine hK.out _ _ trivial (fun hHeld => ?_)
    clear hK K
    try simp only [Act.put, List.setIfInBounds_toArray, List.set_cons_zero, List.set_cons_succ]
    refine wpAnyH_take (i := 9) (oi := { dst := some 22, op := Op.nilCheck (Operand.tmp 13), type := 0, pos := "front.go:32", after := #[{ on := 0, ground := Ground.data }, { on := 0, ground := Ground.phase }, { on := 1, ground := Ground.phase }, { on := 2, ground := Ground.phase }, { on := 3, ground := Ground.phase }, { on := 4, ground := Ground.phase }, { on := 5, ground := Ground.phase }, { on := 6, ground := Ground.phase }, { on := 7, ground := Ground.phase }, { on := 8, ground := Ground.phase }], guard := none }) (v := .pointer (some ⟨gp, 0, none⟩)) rfl (by kernel_rfl) (by kernel_rfl) (by kernel_rfl) (fun _ _ _ h => h) (Or.inl ⟨by rfl, by intro W hSw; go_simp⟩) hHeld ?_
    try simp only [Act.put, List.setIfInBounds_toArray, List.set_cons_zero, List.set_cons_succ]
    refine wpAnyH_take (i := 10) (oi := { dst := some 23, op := Op.fieldAddr 50 (Operand.tmp 22) 0, type := 0, pos := "front.go:32", after := #[{ on := 9, ground := Ground.data }, { on := 0, ground := Ground.phase }, { on := 1, ground := Ground.phase }, { on := 2, ground := Ground.phase }, { on := 3, ground := Ground.phase }, { on := 4, ground := Ground.phase }, { on := 5, ground := Ground.phase }, { on := 6, ground := Ground.phase }, { on := 7, ground := Ground.phase }, { on := 8, ground := Ground.phase }], guard := none }) (v := .pointer (some ⟨gp, 0, none⟩)) rfl (by kernel_rfl) (by kernel_rfl) (by kernel_rfl) (fun _ _ _ h => h) (Or.inl ⟨by rfl, by intro W hSw; go_simp⟩) hHeld ?_
    try simp only [Act.put, List.setIfInBounds_toArray, List.set_cons_zero, List.set_cons_succ]
    refine wpAnyH_take (i := 11) (oi := { dst := some 24, op := Op.fieldAddr 25 (Operand.tmp 23) 1, type := 0, pos := "front.go:32", after := #[{ on := 10, ground := Ground.data }, { on := 0, ground := Ground.phase }, { on := 1, ground := Ground.phase }, { on := 2, ground := Ground.phase }, { on := 3, ground := Ground.phase }, { on := 4, ground := Ground.phase }, { on := 5, ground := Ground.phase }, { on := 6, ground := Ground.phase }, { on := 7, ground := Ground.phase }, { on := 8, ground := Ground.phase }], guard := none }) (v := .pointer (some ⟨gp, 1, none⟩)) rfl (by kernel_rfl) (by kernel_rfl) (by kernel_rfl) (fun _ _ _ h => h) (Or.inl ⟨by rfl, by intro W hSw; go_simp⟩) hHeld ?_
    try simp only [Act.put, List.setIfInBounds_toArray, List.set_cons_zero, List.set_cons_succ]
    refine wpAnyH_ready (rs := [12]) (by kernel_rfl) (by simp) ?_
    refine (AllReadyH.cons (o := { dst := none, op := Op.store 22 (Operand.tmp 24) (Operand.tmp 21), type := 0, pos := "front.go:32", after := #[{ on := 11, ground := Ground.data }, { on := 8, ground := Ground.data }, { on := 8, ground := Ground.chain }, { on := 0, ground := Ground.phase }, { on := 1, ground := Ground.phase }, { on := 2, ground := Ground.phase }, { on := 3, ground := Ground.phase }, { on := 4, ground := Ground.phase }, { on := 5, ground := Ground.phase }, { on := 6, ground := Ground.phase }, { on := 7, ground := Ground.phase }, { on := 8, ground := Ground.phase }], guard := none }) rfl (fun K hK => ?_) AllReadyH.nil)
    have hc : w8.cell? ⟨gp, 1, none⟩ = some v := (by rw [cell_of_row _ _ 1 _ 50 (0, 0) q1]; rfl)
    have hfz := frozen_of_row _ gp 1 _ 50 q1
    go_simp
    clear hc hfz
    refine hK.out _ _ trivial (fun hHeld => ?_)
    clear hK K
    try simp only [Act.put, List.setIfInBounds_toArray, List.set_cons_zero, List.set_cons_succ]
    refine wpAnyH_done (by kernel_rfl) ?_ _
    have HW : Hid (Grow B gp (.int .i64 ((n : Int) + 1)) (.slice (some ⟨gn, 0, none⟩) (l.length + 1) cn) (l ++ [d]) (w8.setCell ⟨gp, 1, none⟩ (.slice (some ⟨gn, 0, none⟩) (l.length + 1) cn)) ∧ Below B w (w8.setCell ⟨gp, 1, none⟩ (.slice (some ⟨gn, 0, none⟩) (l.length + 1) cn))) := ⟨grow_put q1 q2, (hB0.trans q3).setCell (by simpa using hB) _⟩
    clear hHeld q1 q2 q3 hrun HG HL hB0 hBa
    generalize w8.setCell ⟨gp, 1, none⟩ (.slice (some ⟨gn, 0, none⟩) (l.length + 1) cn) = wb at HW ⊢
    have hc0 := HW.out.1.two.1
    go_wp2_with fail
    refine (TZ.out _ HW.out.2).mono ?_
    rintro e w9 ⟨rfl, rfl⟩
    clear hc0 TZ
    go_wp2
    go_loopw [32] (fun u wr => ∃ i : Nat, i ≤ T ∧ u = .int .i64 i ∧ Hid (∃ v r e, Grow B gp (.int .i64 ((n : Int) + 1)) v (r.reverse ++ [e]) wr ∧ T - i ≤ r.length ∧ r.length ≤ 100000 ∧ Digs32 r ∧ e.length = 32 ∧ (carry (T - i) r e).reverse = addP n l d ∧ Below B w wr)) (fun u _ => T - (intOf u).toNat)
    case atStart => exact ⟨0, by omega, rfl, (.slice (some ⟨gn, 0, none⟩) (l.length + 1) cn), l.reverse, d, by rw [List.reverse_reverse]; exact HW.out.1, by rw [List.length_reverse]; omega, by rw [List.length_reverse]; omega, HX.out.1.reverse, hd32, HX.out.2, HW.out.2⟩
    case round =>
      clear HW
      obtain ⟨i, hi, rfl, HI⟩ := hrel
      by_cases hlt : i < T
      · have hdi : decide ((i : Int) < (T : Int)) = true := by rw [decide_eq_true_eq]; omega
        have hwi := wrap_int ((i : Int) + 1) (by omega) (by omega)
        obtain ⟨v1, r, e, k1, k2, k3, k4, k5, k6, k7⟩ := HI.out
        obtain ⟨p, r, rfl⟩ : ∃ p r', r = p :: r' := by
          cases r with
          | nil => simp at k2; omega
          | cons p r => exact ⟨p, r, rfl⟩
        have el : (p :: r).reverse ++ [e] = r.reverse ++ [p, e] := by simp
        rw [el] at k1
        have kd : Digs32 (r.reverse ++ [p, e]) := by rw [← el]; exact k4.reverse.append (.one k5)
        have J := hidk (JN.out v1 r.reverse p e wr k1 kd (by rw [List.length_reverse]; simp at k3; omega) k7)
        have N : Hid (∀ w', (∃ v', Grow B gp (.int .i64 ((n : Int) + 1)) v' (r.reverse ++ [knotD p e]) w') → Below B wr w' → ∃ v r e, Grow B gp (.int .i64 ((n : Int) + 1)) v (r.reverse ++ [e]) w' ∧ T - (i + 1) ≤ r.length ∧ r.length ≤ 100000 ∧ Digs32 r ∧ e.length = 32 ∧ (carry (T - (i + 1)) r e).reverse = addP n l d ∧ Below B w w') := fun w' ⟨v', h1⟩ h2 =>
          ⟨v', r, knotD p e, h1, by simp at k2; omega, by simp at k3; omega, (fun z hz => k4 z (List.mem_cons_of_mem _ hz)), sumD_length _, by rw [← k6, show T - i = T - (i + 1) + 1 by omega]; rfl, k7.trans h2⟩
        clear HI k1 k2 k3 k4 k5 k6 k7 el kd JN
        go_wp2_with fail
        refine J.out.mono ?_
        rintro e w10 ⟨rfl, h1, h2⟩
        have HN := hidk (N.out w10 h1 h2)
        clear N J h1 h2
        go_wp2
        go_roundw
        case rel => exact ⟨i + 1, by omega, by go_num, HN⟩
        case measure => simp [intOf]; omega
      · obtain rfl : T = i := by omega
        have HN : Hid ((∃ v', Grow B gp (.int .i64 ((n : Int) + 1)) v' (addP n l d) wr) ∧ Below B w wr) := by
          obtain ⟨v1, r, e, k1, k2, k3, k4, k5, k6, k7⟩ := HI.out
          rw [Nat.sub_self] at k6
          rw [← k6]
          exact ⟨⟨v1, by simpa [carry] using k1⟩, k7⟩
        clear HI JN
        go_wp2
        first | go_end0 | (refine bodyPost_ret (results_none rfl _ _ _) rfl ?_)
        exact ⟨rfl, HN.out⟩
  · refine step_load_row (by rfl) 29 (.tmp 3) rfl gl rfl 29 D (0, 0) _ HL.out Tryd.underlying29 rfl HSD.out ?_
    refine hK.out _ _ trivial (fun hHeld => ?_)
    clear hK K
    try simp only [Act.put, List.setIfInBounds_toArray, List.set_cons_zero, List.set_cons_succ]
    refine wpAnyH_ready (rs := [5, 7]) (by kernel_rfl) (by simp) ?_
    refine (AllReadyH.cons (o := { dst := some 18, op := Op.load 22 (Operand.tmp 17), type := 22, pos := "front.go:32", after := #[{ on := 4, ground := Ground.data }], guard := none }) rfl (fun K hK => ?_) (AllReadyH.cons (o := { dst := some 20, op := Op.buildSlice 22 1 #[(0, Operand.tmp 19)], type := 22, pos := "front.go:32", after := #[{ on := 6, ground := Ground.data }], guard := none }) rfl (fun K hK => ?_) AllReadyH.nil))
    · have hc := HG.out.two.2
      try (have hc3 : (wa.alloc (.cells D 29)).cell? ⟨gp, 1, none⟩ = some v := hc)
      go_simp
      clear hc
      refine hK.out _ _ trivial (fun hHeld => ?_)
      clear hK K
      try simp only [Act.put, List.setIfInBounds_toArray, List.set_cons_zero, List.set_cons_succ]
      refine wpAnyH_ready (rs := [7]) (by kernel_rfl) (by simp) ?_
      refine (AllReadyH.cons (o := { dst := some 20, op := Op.buildSlice 22 1 #[(0, Operand.tmp 19)], type := 22, pos := "front.go:32", after := #[{ on := 6, ground := Ground.data }], guard := none }) rfl (fun K hK => ?_) AllReadyH.nil)
      refine step_build_run (by rfl) 22 1 _ rfl #[(0, .agg D)] rfl _ _ (build_one _ _ hd32 D HD) ?_
      obtain ⟨gn, cn, w8, hrun, q1, q2, q3⟩ := grow_append HG.out hBa (by omega) _ hd32 D HD
      replace HG := hidk (HG.out.keep ((Below.refl _ _).alloc (Nat.le_refl _) (.cells D 29)))
      refine hK.out _ _ trivial (fun hHeld => ?_)
      clear hK K
      try simp only [Act.put, List.setIfInBounds_toArray, List.set_cons_zero, List.set_cons_succ]
      refine wpAnyH_ready (rs := [8]) (by kernel_rfl) (by simp) ?_
      refine (AllReadyH.cons (o := { dst := some 21, op := Op.call { callee := Callee.builtin Builtin.append, args := #[Operand.tmp 18, Operand.tmp 20], argTypes := #[22, 22] }, type := 22, pos := "front.go:32", after := #[{ on := 5, ground := Ground.data }, { on := 7, ground := Ground.data }], guard := none }) rfl (fun K hK => ?_) AllReadyH.nil)
      refine step_append_run rfl (.tmp 18) (.tmp 20) 22 22 rfl v _ _ w8 rfl rfl hrun ?_
      refine hK.out _ _ trivial (fun hHeld => ?_)
      clear hK K
      try simp only [Act.put, List.setIfInBounds_toArray, List.set_cons_zero, List.set_cons_succ]
      refine wpAnyH_take (i := 9) (oi := { dst := some 22, op := Op.nilCheck (Operand.tmp 13), type := 0, pos := "front.go:32", after := #[{ on := 0, ground := Ground.data }, { on := 0, ground := Ground.phase }, { on := 1, ground := Ground.phase }, { on := 2, ground := Ground.phase }, { on := 3, ground := Ground.phase }, { on := 4, ground := Ground.phase }, { on := 5, ground := Ground.phase }, { on := 6, ground := Ground.phase }, { on := 7, ground := Ground.phase }, { on := 8, ground := Ground.phase }], guard := none }) (v := .pointer (some ⟨gp, 0, none⟩)) rfl (by kernel_rfl) (by kernel_rfl) (by kernel_rfl) (fun _ _ _ h => h) (Or.inl ⟨by rfl, by intro W hSw; go_simp⟩) hHeld ?_
      try simp only [Act.put, List.setIfInBounds_toArray, List.set_cons_zero, List.set_cons_succ]
      refine wpAnyH_take (i := 10) (oi := { dst := some 23, op := Op.fieldAddr 50 (Operand.tmp 22) 0, type := 0, pos := "front.go:32", after := #[{ on := 9, ground := Ground.data }, { on := 0, ground := Ground.phase }, { on := 1, ground := Ground.phase }, { on := 2, ground := Ground.phase }, { on := 3, ground := Ground.phase }, { on := 4, ground := Ground.phase }, { on := 5, ground := Ground.phase }, { on := 6, ground := Ground.phase }, { on := 7, ground := Ground.phase }, { on := 8, ground := Ground.phase }], guard := none }) (v := .pointer (some ⟨gp, 0, none⟩)) rfl (by kernel_rfl) (by kernel_rfl) (by kernel_rfl) (fun _ _ _ h => h) (Or.inl ⟨by rfl, by intro W hSw; go_simp⟩) hHeld ?_
      try simp only [Act.put, List.setIfInBounds_toArray, List.set_cons_zero, List.set_cons_succ]
      refine wpAnyH_take (i := 11) (oi := { dst := some 24, op := Op.fieldAddr 25 (Operand.tmp 23) 1, type := 0, pos := "front.go:32", after := #[{ on := 10, ground := Ground.data }, { on := 0, ground := Ground.phase }, { on := 1, ground := Ground.phase }, { on := 2, ground := Ground.phase }, { on := 3, ground := Ground.phase }, { on := 4, ground := Ground.phase }, { on := 5, ground := Ground.phase }, { on := 6, ground := Ground.phase }, { on := 7, ground := Ground.phase }, { on := 8, ground := Ground.phase }], guard := none }) (v := .pointer (some ⟨gp, 1, none⟩)) rfl (by kernel_rfl) (by kernel_rfl) (by kernel_rfl) (fun _ _ _ h => h) (Or.inl ⟨by rfl, by intro W hSw; go_simp⟩) hHeld ?_
      try simp only [Act.put, List.setIfInBounds_toArray, List.set_cons_zero, List.set_cons_succ]
      refine wpAnyH_ready (rs := [12]) (by kernel_rfl) (by simp) ?_
      refine (AllReadyH.cons (o := { dst := none, op := Op.store 22 (Operand.tmp 24) (Operand.tmp 21), type := 0, pos := "front.go:32", after := #[{ on := 11, ground := Ground.data }, { on := 8, ground := Ground.data }, { on := 8, ground := Ground.chain }, { on := 0, ground := Ground.phase }, { on := 1, ground := Ground.phase }, { on := 2, ground := Ground.phase }, { on := 3, ground := Ground.phase }, { on := 4, ground := Ground.phase }, { on := 5, ground := Ground.phase }, { on := 6, ground := Ground.phase }, { on := 7, ground := Ground.phase }, { on := 8, ground := Ground.phase }], guard := none }) rfl (fun K hK => ?_) AllReadyH.nil)
      have hc : w8.cell? ⟨gp, 1, none⟩ = some v := (by rw [cell_of_row _ _ 1 _ 50 (0, 0) q1]; rfl)
      have hfz := frozen_of_row _ gp 1 _ 50 q1
      go_simp
      clear hc hfz
      refine hK.out _ _ trivial (fun hHeld => ?_)
      clear hK K
      try simp only [Act.put, List.setIfInBounds_toArray, List.set_cons_zero, List.set_cons_succ]
      refine wpAnyH_done (by kernel_rfl) ?_ _
      have HW : Hid (Grow B gp (.int .i64 ((n : Int) + 1)) (.slice (some ⟨gn, 0, none⟩) (l.length + 1) cn) (l ++ [d]) (w8.setCell ⟨gp, 1, none⟩ (.slice (some ⟨gn, 0, none⟩) (l.length + 1) cn)) ∧ Below B w (w8.setCell ⟨gp, 1, none⟩ (.slice (some ⟨gn, 0, none⟩) (l.length + 1) cn))) := ⟨grow_put q1 q2, (hB0.trans q3).setCell (by simpa using hB) _⟩
      clear hHeld q1 q2 q3 hrun HG HL hB0 hBa
      generalize w8.setCell ⟨gp, 1, none⟩ (.slice (some ⟨gn, 0, none⟩) (l.length + 1) cn) = wb at HW ⊢
      have hc0 := HW.out.1.two.1
      go_wp2_with fail
      refine (TZ.out _ HW.out.2).mono ?_
      rintro e w9 ⟨rfl, rfl⟩
      clear hc0 TZ
      go_wp2
      go_loopw [32] (fun u wr => ∃ i : Nat, i ≤ T ∧ u = .int .i64 i ∧ Hid (∃ v r e, Grow B gp (.int .i64 ((n : Int) + 1)) v (r.reverse ++ [e]) wr ∧ T - i ≤ r.length ∧ r.length ≤ 100000 ∧ Digs32 r ∧ e.length = 32 ∧ (carry (T - i) r e).reverse = addP n l d ∧ Below B w wr)) (fun u _ => T - (intOf u).toNat)
      case atStart => exact ⟨0, by omega, rfl, (.slice (some ⟨gn, 0, none⟩) (l.length + 1) cn), l.reverse, d, by rw [List.reverse_reverse]; exact HW.out.1, by rw [List.length_reverse]; omega, by rw [List.length_reverse]; omega, HX.out.1.reverse, hd32, HX.out.2, HW.out.2⟩
      case round =>
        clear HW
        obtain ⟨i, hi, rfl, HI⟩ := hrel
        by_cases hlt : i < T
        · have hdi : decide ((i : Int) < (T : Int)) = true := by rw [decide_eq_true_eq]; omega
          have hwi := wrap_int ((i : Int) + 1) (by omega) (by omega)
          obtain ⟨v1, r, e, k1, k2, k3, k4, k5, k6, k7⟩ := HI.out
          obtain ⟨p, r, rfl⟩ : ∃ p r', r = p :: r' := by
            cases r with
            | nil => simp at k2; omega
            | cons p r => exact ⟨p, r, rfl⟩
          have el : (p :: r).reverse ++ [e] = r.reverse ++ [p, e] := by simp
          rw [el] at k1
          have kd : Digs32 (r.reverse ++ [p, e]) := by rw [← el]; exact k4.reverse.append (.one k5)
          have J := hidk (JN.out v1 r.reverse p e wr k1 kd (by rw [List.length_reverse]; simp at k3; omega) k7)
          have N : Hid (∀ w', (∃ v', Grow B gp (.int .i64 ((n : Int) + 1)) v' (r.reverse ++ [knotD p e]) w') → Below B wr w' → ∃ v r e, Grow B gp (.int .i64 ((n : Int) + 1)) v (r.reverse ++ [e]) w' ∧ T - (i + 1) ≤ r.length ∧ r.length ≤ 100000 ∧ Digs32 r ∧ e.length = 32 ∧ (carry (T - (i + 1)) r e).reverse = addP n l d ∧ Below B w w') := fun w' ⟨v', h1⟩ h2 =>
            ⟨v', r, knotD p e, h1, by simp at k2; omega, by simp at k3; omega, (fun z hz => k4 z (List.mem_cons_of_mem _ hz)), sumD_length _, by rw [← k6, show T - i = T - (i + 1) + 1 by omega]; rfl, k7.trans h2⟩
          clear HI k1 k2 k3 k4 k5 k6 k7 el kd JN
          go_wp2_with fail
          refine J.out.mono ?_
          rintro e w10 ⟨rfl, h1, h2⟩
          have HN := hidk (N.out w10 h1 h2)
          clear N J h1 h2
          go_wp2
          go_roundw
          case rel => exact ⟨i + 1, by omega, by go_num, HN⟩
          case measure => simp [intOf]; omega
        · obtain rfl : T = i := by omega
          have HN : Hid ((∃ v', Grow B gp (.int .i64 ((n : Int) + 1)) v' (addP n l d) wr) ∧ Below B w wr) := by
            obtain ⟨v1, r, e, k1, k2, k3, k4, k5, k6, k7⟩ := HI.out
            rw [Nat.sub_self] at k6
            rw [← k6]
            exact ⟨⟨v1, by simpa [carry] using k1⟩, k7⟩
          clear HI JN
          go_wp2
          first | go_end0 | (refine bodyPost_ret (results_none rfl _ _ _) rfl ?_)
          exact ⟨rfl, HN.out⟩
    · refine step_build_run (by rfl) 22 1 _ rfl #[(0, .agg D)] rfl _ _ (build_one _ _ hd32 D HD) ?_
      obtain ⟨gn, cn, w8, hrun, q1, q2, q3⟩ := grow_append HG.out hBa (by omega) _ hd32 D HD
      replace HG := hidk (HG.out.keep ((Below.refl _ _).alloc (Nat.le_refl _) (.cells D 29)))
      refine hK.out _ _ trivial (fun hHeld => ?_)
      clear hK K
      try simp only [Act.put, List.setIfInBounds_toArray, List.set_cons_zero, List.set_cons_succ]
      refine wpAnyH_ready (rs := [5]) (by kernel_rfl) (by simp) ?_
      refine (AllReadyH.cons (o := { dst := some 18, op := Op.load 22 (Operand.tmp 17), type := 22, pos := "front.go:32", after := #[{ on := 4, ground := Ground.data }], guard := none }) rfl (fun K hK => ?_) AllReadyH.nil)
      have hc := HG.out.two.2
      try (have hc3 : (wa.alloc (.cells D 29)).cell? ⟨gp, 1, none⟩ = some v := hc)
      go_simp
      clear hc
      refine hK.out _ _ trivial (fun hHeld => ?_)
      clear hK K
      try simp only [Act.put, List.setIfInBounds_toArray, List.set_cons_zero, List.set_cons_succ]
      refine wpAnyH_ready (rs := [8]) (by kernel_rfl) (by simp) ?_
      refine (AllReadyH.cons (o := { dst := some 21, op := Op.call { callee := Callee.builtin Builtin.append, args := #[Operand.tmp 18, Operand.tmp 20], argTypes := #[22, 22] }, type := 22, pos := "front.go:32", after := #[{ on := 5, ground := Ground.data }, { on := 7, ground := Ground.data }], guard := none }) rfl (fun K hK => ?_) AllReadyH.nil)
      refine step_append_run rfl (.tmp 18) (.tmp 20) 22 22 rfl v _ _ w8 rfl rfl hrun ?_
      refine hK.out _ _ trivial (fun hHeld => ?_)
      clear hK K
      try simp only [Act.put, List.setIfInBounds_toArray, List.set_cons_zero, List.set_cons_succ]
      refine wpAnyH_take (i := 9) (oi := { dst := some 22, op := Op.nilCheck (Operand.tmp 13), type := 0, pos := "front.go:32", after := #[{ on := 0, ground := Ground.data }, { on := 0, ground := Ground.phase }, { on := 1, ground := Ground.phase }, { on := 2, ground := Ground.phase }, { on := 3, ground := Ground.phase }, { on := 4, ground := Ground.phase }, { on := 5, ground := Ground.phase }, { on := 6, ground := Ground.phase }, { on := 7, ground := Ground.phase }, { on := 8, ground := Ground.phase }], guard := none }) (v := .pointer (some ⟨gp, 0, none⟩)) rfl (by kernel_rfl) (by kernel_rfl) (by kernel_rfl) (fun _ _ _ h => h) (Or.inl ⟨by rfl, by intro W hSw; go_simp⟩) hHeld ?_
      try simp only [Act.put, List.setIfInBounds_toArray, List.set_cons_zero, List.set_cons_succ]
      refine wpAnyH_take (i := 10) (oi := { dst := some 23, op := Op.fieldAddr 50 (Operand.tmp 22) 0, type := 0, pos := "front.go:32", after := #[{ on := 9, ground := Ground.data }, { on := 0, ground := Ground.phase }, { on := 1, ground := Ground.phase }, { on := 2, ground := Ground.phase }, { on := 3, ground := Ground.phase }, { on := 4, ground := Ground.phase }, { on := 5, ground := Ground.phase }, { on := 6, ground := Ground.phase }, { on := 7, ground := Ground.phase }, { on := 8, ground := Ground.phase }], guard := none }) (v := .pointer (some ⟨gp, 0, none⟩)) rfl (by kernel_rfl) (by kernel_rfl) (by kernel_rfl) (fun _ _ _ h => h) (Or.inl ⟨by rfl, by intro W hSw; go_simp⟩) hHeld ?_
      try simp only [Act.put, List.setIfInBounds_toArray, List.set_cons_zero, List.set_cons_succ]
      refine wpAnyH_take (i := 11) (oi := { dst := some 24, op := Op.fieldAddr 25 (Operand.tmp 23) 1, type := 0, pos := "front.go:32", after := #[{ on := 10, ground := Ground.data }, { on := 0, ground := Ground.phase }, { on := 1, ground := Ground.phase }, { on := 2, ground := Ground.phase }, { on := 3, ground := Ground.phase }, { on := 4, ground := Ground.phase }, { on := 5, ground := Ground.phase }, { on := 6, ground := Ground.phase }, { on := 7, ground := Ground.phase }, { on := 8, ground := Ground.phase }], guard := none }) (v := .pointer (some ⟨gp, 1, none⟩)) rfl (by kernel_rfl) (by kernel_rfl) (by kernel_rfl) (fun _ _ _ h => h) (Or.inl ⟨by rfl, by intro W hSw; go_simp⟩) hHeld ?_
      try simp only [Act.put, List.setIfInBounds_toArray, List.set_cons_zero, List.set_cons_succ]
      refine wpAnyH_ready (rs := [12]) (by kernel_rfl) (by simp) ?_
      refine (AllReadyH.cons (o := { dst := none, op := Op.store 22 (Operand.tmp 24) (Operand.tmp 21), type := 0, pos := "front.go:32", after := #[{ on := 11, ground := Ground.data }, { on := 8, ground := Ground.data }, { on := 8, ground := Ground.chain }, { on := 0, ground := Ground.phase }, { on := 1, ground := Ground.phase }, { on := 2, ground := Ground.phase }, { on := 3, ground := Ground.phase }, { on := 4, ground := Ground.phase }, { on := 5, ground := Ground.phase }, { on := 6, ground := Ground.phase }, { on := 7, ground := Ground.phase }, { on := 8, ground := Ground.phase }], guard := none }) rfl (fun K hK => ?_) AllReadyH.nil)
      have hc : w8.cell? ⟨gp, 1, none⟩ = some v := (by rw [cell_of_row _ _ 1 _ 50 (0, 0) q1]; rfl)
      have hfz := frozen_of_row _ gp 1 _ 50 q1
      go_simp
      clear hc hfz
      refine hK.out _ _ trivial (fun hHeld => ?_)
      clear hK K
      try simp only [Act.put, List.setIfInBounds_toArray, List.set_cons_zero, List.set_cons_succ]
      refine wpAnyH_done (by kernel_rfl) ?_ _
      have HW : Hid (Grow B gp (.int .i64 ((n : Int) + 1)) (.slice (some ⟨gn, 0, none⟩) (l.length + 1) cn) (l ++ [d]) (w8.setCell ⟨gp, 1, none⟩ (.slice (some ⟨gn, 0, none⟩) (l.length + 1) cn)) ∧ Below B w (w8.setCell ⟨gp, 1, none⟩ (.slice (some ⟨gn, 0, none⟩) (l.length + 1) cn))) := ⟨grow_put q1 q2, (hB0.trans q3).setCell (by simpa using hB) _⟩
      clear hHeld q1 q2 q3 hrun HG HL hB0 hBa
      generalize w8.setCell ⟨gp, 1, none⟩ (.slice (some ⟨gn, 0, none⟩) (l.length + 1) cn) = wb at HW ⊢
      have hc0 := HW.out.1.two.1
      go_wp2_with fail
      refine (TZ.out _ HW.out.2).mono ?_
      rintro e w9 ⟨rfl, rfl⟩
      clear hc0 TZ
      go_wp2
      go_loopw [32] (fun u wr => ∃ i : Nat, i ≤ T ∧ u = .int .i64 i ∧ Hid (∃ v r e, Grow B gp (.int .i64 ((n : Int) + 1)) v (r.reverse ++ [e]) wr ∧ T - i ≤ r.length ∧ r.length ≤ 100000 ∧ Digs32 r ∧ e.length = 32 ∧ (carry (T - i) r e).reverse = addP n l d ∧ Below B w wr)) (fun u _ => T - (intOf u).toNat)
      case atStart => exact ⟨0, by omega, rfl, (.slice (some ⟨gn, 0, none⟩) (l.length + 1) cn), l.reverse, d, by rw [List.reverse_reverse]; exact HW.out.1, by rw [List.length_reverse]; omega, by rw [List.length_reverse]; omega, HX.out.1.reverse, hd32, HX.out.2, HW.out.2⟩
      case round =>
        clear HW
        obtain ⟨i, hi, rfl, HI⟩ := hrel
        by_cases hlt : i < T
        · have hdi : decide ((i : Int) < (T : Int)) = true := by rw [decide_eq_true_eq]; omega
          have hwi := wrap_int ((i : Int) + 1) (by omega) (by omega)
          obtain ⟨v1, r, e, k1, k2, k3, k4, k5, k6, k7⟩ := HI.out
          obtain ⟨p, r, rfl⟩ : ∃ p r', r = p :: r' := by
            cases r with
            | nil => simp at k2; omega
            | cons p r => exact ⟨p, r, rfl⟩
          have el : (p :: r).reverse ++ [e] = r.reverse ++ [p, e] := by simp
          rw [el] at k1
          have kd : Digs32 (r.reverse ++ [p, e]) := by rw [← el]; exact k4.reverse.append (.one k5)
          have J := hidk (JN.out v1 r.reverse p e wr k1 kd (by rw [List.length_reverse]; simp at k3; omega) k7)
          have N : Hid (∀ w', (∃ v', Grow B gp (.int .i64 ((n : Int) + 1)) v' (r.reverse ++ [knotD p e]) w') → Below B wr w' → ∃ v r e, Grow B gp (.int .i64 ((n : Int) + 1)) v (r.reverse ++ [e]) w' ∧ T - (i + 1) ≤ r.length ∧ r.length ≤ 100000 ∧ Digs32 r ∧ e.length = 32 ∧ (carry (T - (i + 1)) r e).reverse = addP n l d ∧ Below B w w') := fun w' ⟨v', h1⟩ h2 =>
            ⟨v', r, knotD p e, h1, by simp at k2; omega, by simp at k3; omega, (fun z hz => k4 z (List.mem_cons_of_mem _ hz)), sumD_length _, by rw [← k6, show T - i = T - (i + 1) + 1 by omega]; rfl, k7.trans h2⟩
          clear HI k1 k2 k3 k4 k5 k6 k7 el kd JN
          go_wp2_with fail
          refine J.out.mono ?_
          rintro e w10 ⟨rfl, h1, h2⟩
          have HN := hidk (N.out w10 h1 h2)
          clear N J h1 h2
          go_wp2
          go_roundw
          case rel => exact ⟨i + 1, by omega, by go_num, HN⟩
          case measure => simp [intOf]; omega
        · obtain rfl : T = i := by omega
          have HN : Hid ((∃ v', Grow B gp (.int .i64 ((n : Int) + 1)) v' (addP n l d) wr) ∧ Below B w wr) := by
            obtain ⟨v1, r, e, k1, k2, k3, k4, k5, k6, k7⟩ := HI.out
            rw [Nat.sub_self] at k6
            rw [← k6]
            exact ⟨⟨v1, by simpa [carry] using k1⟩, k7⟩
          clear HI JN
          go_wp2
          first | go_end0 | (refine bodyPost_ret (results_none rfl _ _ _) rfl ?_)
          exact ⟨rfl, HN.out⟩
end Go.Proofs.YtmpmhfagbcknnaaDoor
