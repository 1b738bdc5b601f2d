/- What check.Included answers. -/
import Derived.Test.YtehfoeedlchphaaDoorLeafm
import Derived.Test.YtehfoeedlchphaaDoorHelds
namespace Go.Proofs.YtehfoeedlchphaaDoor
open Go.RowKit Sums
set_option linter.unusedVariables false
set_option linter.unusedSimpArgs false

/-- What the closure's variables hold. -/
structure Five (gr gs gi gl gp : Nat) (R : Array Value) (s i : Int) (X : Array Value) (a : Option Addr) (len cap : Nat) (W : World) : Prop where
  root : W.heap[gr]? = some (.cells R 23 (0, 0))
  size : W.heap[gs]? = some (.cells #[.int .i64 s] 3 (0, 0))
  index : W.heap[gi]? = some (.cells #[.int .i64 i] 3 (0, 0))
  leaf : W.heap[gl]? = some (.cells X 23 (0, 0))
  proof : W.heap[gp]? = some (.cells #[.slice a len cap] 24 (0, 0))
theorem Five.keep {gr gs gi gl gp : Nat} {R : Array Value} {s i : Int} {X : Array Value} {a : Option Addr} {len cap : Nat} {W W' : World} (h : Five gr gs gi gl gp R s i X a len cap W) (hb : Below W.heap.size W W') : Five gr gs gi gl gp R s i X a len cap W' :=
  ⟨(hb.block _ (heap_lt h.root)).trans h.root, (hb.block _ (heap_lt h.size)).trans h.size, (hb.block _ (heap_lt h.index)).trans h.index, (hb.block _ (heap_lt h.leaf)).trans h.leaf, (hb.block _ (heap_lt h.proof)).trans h.proof⟩

set_option maxHeartbeats 1000000 in
theorem incl1_no (S I : Nat) (x : List UInt8) (p : List (List UInt8)) (a : Option Addr) (len cap gr gs gi gl gp : Nat) (w : World) (R X : Array Value) (HX : Hid (X = (cellsOf x).toArray)) (hx : x.length = 32) (hS1 : 1 ≤ S) (hS : S ≤ 100000) (hI : I < S) (hF : Five gr gs gi gl gp R S I X a len cap w) (hR : LReads w a len cap p) (hm : (mkR p.reverse S I x).2 = false) :
    Calls Tryd.prog 23 #[.pointer (some ⟨gs, 0, none⟩), .pointer (some ⟨gi, 0, none⟩), .pointer (some ⟨gl, 0, none⟩), .pointer (some ⟨gp, 0, none⟩), .pointer (some ⟨gr, 0, none⟩)] w fun e w' => (∃ u p, e = .panicked [{ v := .iface u p, recovered := false }]) ∧ Below w.heap.size w w' := by
  have HSX : Hid ((Tryd.prog.info? 23).map (·.size) = some X.size) := by show _ = _; rw [size23, HX.out]; simp [cellsOf_length, hx]
  have LM : Hid (Calls Tryd.prog 24 #[.int .i64 S, .int .i64 I, .agg X, .slice a len cap] w fun e w' => (∃ u p, e = .panicked [{ v := .iface u p, recovered := false }]) ∧ Below w.heap.size w w') := leafMakes_no S I x p a len cap w X hS1 hS hI hR hm
  have hc0 := cell_of_one hF.size
  have hc1 := cell_of_one hF.index
  have hc3 := cell_of_one hF.proof
  have HL := hidk hF.leaf
  clear hm hR hF
  go_enter Tryd.func23, Tryd.ntmps23
  go_wp2_with (first
    | (show wpList _ _ _ ({ dst := some 11, op := _, type := _, pos := _, after := _, guard := _ } :: _) _ _; refine wpList_load_row rfl 23 (.tmp 2) rfl gl rfl 23 X (0, 0) _ HL.out Tryd.underlying23 rfl HSX.out ?_; try simp only [Act.put, List.setIfInBounds_toArray, List.set_cons_zero, List.set_cons_succ])
    | fail)
  refine LM.out.mono ?_
  rintro e w2 ⟨⟨u, q, rfl⟩, hb2⟩
  exact ⟨rfl, ⟨_, _, rfl⟩, hb2⟩
set_option maxHeartbeats 1000000 in
theorem incl1_ok (root : List UInt8) (S I : Nat) (x : List UInt8) (p : List (List UInt8)) (a : Option Addr) (len cap gr gs gi gl gp : Nat) (w : World) (R X : Array Value) (HR : Hid (R = (cellsOf root).toArray)) (hr : root.length = 32) (HX : Hid (X = (cellsOf x).toArray)) (hx : x.length = 32) (hS1 : 1 ≤ S) (hS : S ≤ 100000) (hI : I < S) (hF : Five gr gs gi gl gp R S I X a len cap w) (hR : LReads w a len cap p) (hK : Table 0 w) (hm : (mkR p.reverse S I x).2 = true) :
    Calls Tryd.prog 23 #[.pointer (some ⟨gs, 0, none⟩), .pointer (some ⟨gi, 0, none⟩), .pointer (some ⟨gl, 0, none⟩), .pointer (some ⟨gp, 0, none⟩), .pointer (some ⟨gr, 0, none⟩)] w fun e w' => e = .returned (.bool (decide ((mkR p.reverse S I x).1 = root))) ∧ Below w.heap.size w w' := by
  obtain ⟨Z, HZ, HA, HS, H1, H32⟩ := noughts27
  have HSX : Hid ((Tryd.prog.info? 23).map (·.size) = some X.size) := by show _ = _; rw [size23, HX.out]; simp [cellsOf_length, hx]
  have HSR : Hid ((Tryd.prog.info? 23).map (·.size) = some R.size) := by show _ = _; rw [size23, HR.out]; simp [cellsOf_length, hr]
  obtain ⟨M, HM, HSM, H1M, H32M⟩ := dig_row' (mkR p.reverse S I x).1 (mkR_length sumD_length _ _ _ _ hx)
  have HZM : Hid (Z.size = M.size) := by show _ = _; rw [H32.out, H32M.out]
  obtain ⟨b, hb⟩ : ∃ b, decide ((mkR p.reverse S I x).1 = root) = b := ⟨_, rfl⟩
  have hq : ∀ W, (binOp .eql 23 (.agg M) (.agg R)).run Tryd.prog W = .ok (.bool b) W := fun W => eqDigV _ _ (mkR_length sumD_length _ _ _ _ hx) hr M R HM HR b hb W
  have LM : Hid (Calls Tryd.prog 24 #[.int .i64 S, .int .i64 I, .agg X, .slice a len cap] w fun e w' => ∃ v, e = .returned (.tuple #[.agg M, v]) ∧ w'.ownsRow w.heap.size 57 64 v (kn p.reverse S I x).length (cellsOf (kn p.reverse S I x).flatten) ∧ Below w.heap.size w w') := leafMakes_ok S I x p a len cap w X HX hx hS1 hS hI hR hK hm M HM
  have hc0 := cell_of_one hF.size
  have hc1 := cell_of_one hF.index
  have hc3 := cell_of_one hF.proof
  have HL := hidk hF.leaf
  have HRT := hidk hF.root
  rw [hb]
  clear hm hR hF hK hb
  go_enter Tryd.func23, Tryd.ntmps23
  go_wp2_with (first
    | (show wpList _ _ _ ({ dst := some 11, op := _, type := _, pos := _, after := _, guard := _ } :: _) _ _; refine wpList_load_row rfl 23 (.tmp 2) rfl gl rfl 23 X (0, 0) _ HL.out Tryd.underlying23 rfl HSX.out ?_; try simp only [Act.put, List.setIfInBounds_toArray, List.set_cons_zero, List.set_cons_succ])
    | fail)
  refine LM.out.mono ?_
  rintro e w2 ⟨v, rfl, _, hb2⟩
  have HR2 := hidk ((hb2.block _ (heap_lt HRT.out)).trans HRT.out)
  clear HL HRT LM hc0 hc1 hc3
  go_wp2_with (first
    | (show wpList _ _ _ ({ dst := some 6, op := _, type := _, pos := _, after := _, guard := _ } :: _) _ _; refine wpList_new_var rfl 23 rfl Z HA.out ?_; intro g6 w3 HM6; try simp only [Act.put, List.setIfInBounds_toArray, List.set_cons_zero, List.set_cons_succ])
    | (refine wpList_set_var rfl 23 (.tmp 6) (.tmp 14) rfl g6 M rfl rfl 23 Z HM6.out.row HSM.out HZM.out H1M.out ?_; intro w4 HW6; have HR4 := hidk ((HW6.out.other gr (by have := HM6.out.new; have := heap_lt HR2.out; omega)).trans ((HM6.out.below.block _ (heap_lt HR2.out)).trans HR2.out)); try simp only [Act.put, List.setIfInBounds_toArray, List.set_cons_zero, List.set_cons_succ])
    | (show wpList _ _ _ ({ dst := some 16, op := _, type := _, pos := _, after := _, guard := _ } :: _) _ _; refine wpList_load_row rfl 23 (.tmp 6) rfl g6 rfl 23 M (0, 0) _ HW6.out.row Tryd.underlying23 rfl HSM.out ?_; try simp only [Act.put, List.setIfInBounds_toArray, List.set_cons_zero, List.set_cons_succ])
    | (show wpList _ _ _ ({ dst := some 17, op := _, type := _, pos := _, after := _, guard := _ } :: _) _ _; refine wpList_load_row rfl 23 (.tmp 4) rfl gr rfl 23 R (0, 0) _ HR4.out Tryd.underlying23 rfl HSR.out ?_; try simp only [Act.put, List.setIfInBounds_toArray, List.set_cons_zero, List.set_cons_succ])
    | fail)
  go_ret
  refine ⟨rfl, HW6.out.below w.heap.size w (hb2.trans (HM6.out.below.mono hb2.size)) ?_⟩
  rw [HM6.out.new]
  exact hb2.size

theorem five_new (w : World) (R X : Array Value) (size index : Int) (a : Option Addr) (len cap : Nat) : Five w.heap.size (w.heap.size + 1) (w.heap.size + 2) (w.heap.size + 3) (w.heap.size + 4) R size index X a len cap (((((w.alloc (.cells R 23)).alloc (.cells #[.int .i64 size] 3)).alloc (.cells #[.int .i64 index] 3)).alloc (.cells X 23)).alloc (.cells #[.slice a len cap] 24)) ∧ Below w.heap.size w (((((w.alloc (.cells R 23)).alloc (.cells #[.int .i64 size] 3)).alloc (.cells #[.int .i64 index] 3)).alloc (.cells X 23)).alloc (.cells #[.slice a len cap] 24)) := by
  refine ⟨⟨heap_keep (heap_keep (heap_keep (heap_keep (heap_alloc_new w _)))), heap_keep (heap_keep (heap_keep ?_)), heap_keep (heap_keep ?_), heap_keep ?_, ?_⟩, ?_⟩
  · have := heap_alloc_new (w.alloc (.cells R 23)) (.cells #[.int .i64 size] 3)
    simpa using this
  · have := heap_alloc_new ((w.alloc (.cells R 23)).alloc (.cells #[.int .i64 size] 3)) (.cells #[.int .i64 index] 3)
    simpa using this
  · have := heap_alloc_new (((w.alloc (.cells R 23)).alloc (.cells #[.int .i64 size] 3)).alloc (.cells #[.int .i64 index] 3)) (.cells X 23)
    simpa using this
  · have := heap_alloc_new ((((w.alloc (.cells R 23)).alloc (.cells #[.int .i64 size] 3)).alloc (.cells #[.int .i64 index] 3)).alloc (.cells X 23)) (.cells #[.slice a len cap] 24)
    simpa using this
  · exact ((((((Below.refl _ _).alloc (Nat.le_refl _) _).alloc (by simp) _).alloc (by simp; omega) _).alloc (by simp; omega) _).alloc (by simp; omega) _)
set_option maxHeartbeats 1000000 in
theorem included_out (root : List UInt8) (size index : Int) (a : Option Addr) (len cap : Nat) (w : World) (R X : Array Value) (h : ¬ (1 ≤ size ∧ size ≤ 100000 ∧ 0 ≤ index ∧ index < size)) :
    Calls Tryd.prog 10 #[.agg R, .int .i64 size, .int .i64 index, .agg X, .slice a len cap] w fun e w' => e = .returned (.int .i64 40) ∧ Below w.heap.size w w' := by
  have HB := hidk (five_new w R X size index a len cap).2
  have hF := (five_new w R X size index a len cap).1
  have hc1 := cell_of_one hF.size
  have hc2 := cell_of_one hF.index
  clear hF
  by_cases h1 : size < 1
  · have d1 : decide (size < 1) = true := by rw [decide_eq_true_eq]; exact h1
    clear h h1
    go_enter Tryd.func10, Tryd.ntmps10
    go_wp2
    go_ret
    exact ⟨rfl, HB.out⟩
  · have d1 : decide (size < 1) = false := by rw [decide_eq_false_iff_not]; exact h1
    by_cases h2 : 100000 < size
    · have d2 : decide (100000 < size) = true := by rw [decide_eq_true_eq]; exact h2
      clear h h1 h2
      go_enter Tryd.func10, Tryd.ntmps10
      go_wp2
      go_ret
      exact ⟨rfl, HB.out⟩
    · have d2 : decide (100000 < size) = false := by rw [decide_eq_false_iff_not]; exact h2
      by_cases h3 : index < 0
      · have d3 : decide (index < 0) = true := by rw [decide_eq_true_eq]; exact h3
        clear h h1 h2 h3
        go_enter Tryd.func10, Tryd.ntmps10
        go_wp2
        go_ret
        exact ⟨rfl, HB.out⟩
      · have d3 : decide (index < 0) = false := by rw [decide_eq_false_iff_not]; exact h3
        have d4 : decide (size ≤ index) = true := by rw [decide_eq_true_eq]; omega
        clear h h1 h2 h3
        go_enter Tryd.func10, Tryd.ntmps10
        go_wp2
        go_ret
        exact ⟨rfl, HB.out⟩
set_option maxHeartbeats 1000000 in
theorem included_in (root : List UInt8) (S I : Nat) (x : List UInt8) (p : List (List UInt8)) (a : Option Addr) (len cap : Nat) (w : World) (R X : Array Value) (HR : Hid (R = (cellsOf root).toArray)) (hr : root.length = 32) (HX : Hid (X = (cellsOf x).toArray)) (hx : x.length = 32) (hS1 : 1 ≤ S) (hS : S ≤ 100000) (hI : I < S) (hR : LReads w a len cap p) (hK : Table 0 w) :
    Calls Tryd.prog 10 #[.agg R, .int .i64 S, .int .i64 I, .agg X, .slice a len cap] w fun e w' => e = .returned (.int .i64 (incE root S I x p)) ∧ Below w.heap.size w w' := by
  have hmf : ∀ (fn : Fn) (first cap : Array Value) (w : World), (Instr.makeFunc fn first cap).run Tryd.prog w = .ok (.func fn first cap) w := fun _ _ _ _ => rfl
  have HF := hidk (five_new w R X S I a len cap)
  have hc1 := cell_of_one HF.out.1.size
  have hc2 := cell_of_one HF.out.1.index
  have HD : Hid (∀ W, (((((w.alloc (.cells R 23)).alloc (.cells #[.int .i64 S] 3)).alloc (.cells #[.int .i64 (I : Int)] 3)).alloc (.cells X 23)).alloc (.cells #[.slice a len cap] 24)) = W → Calls Tryd.prog 22 #[.func (.func 23) #[] #[.pointer (some ⟨(w.heap.size + 1), 0, none⟩), .pointer (some ⟨(w.heap.size + 2), 0, none⟩), .pointer (some ⟨(w.heap.size + 3), 0, none⟩), .pointer (some ⟨(w.heap.size + 4), 0, none⟩), .pointer (some ⟨w.heap.size, 0, none⟩)]] W fun e w' => e = .returned (.int .i64 (incE root S I x p)) ∧ Below W.heap.size W w') := fun W hW => by
    subst hW
    rw [incE_in root S I x p hS1 hS hI]
    by_cases hm : (mkR p.reverse S I x).2 = true
    · rw [if_pos hm]
      have := held_ok 23 _ _ (decide ((mkR p.reverse S I x).1 = root)) (fun _ => by simp [go_sem]) (fun W' hb => incl1_ok root S I x p a len cap _ _ _ _ _ W' R X HR hr HX hx hS1 hS hI (HF.out.1.keep hb) ((hR.keep HF.out.2).keep hb) ((hK.keep HF.out.2).keep hb) hm)
      simpa using this
    · rw [if_neg hm]
      exact held_no 23 _ _ (fun _ => by simp [go_sem]) (fun W' hb => incl1_no S I x p a len cap _ _ _ _ _ W' R X HX hx hS1 hS hI (HF.out.1.keep hb) ((hR.keep HF.out.2).keep hb) (by simpa using hm))
  have d1 : decide ((S : Int) < 1) = false := by rw [decide_eq_false_iff_not]; omega
  have d1' : decide (S < 1) = false := by rw [decide_eq_false_iff_not]; omega
  have d2 : decide (100000 < (S : Int)) = false := by rw [decide_eq_false_iff_not]; omega
  have d2' : decide (100000 < S) = false := by rw [decide_eq_false_iff_not]; omega
  have d3 : decide ((I : Int) < 0) = false := by rw [decide_eq_false_iff_not]; omega
  have d4 : decide ((S : Int) ≤ (I : Int)) = false := by rw [decide_eq_false_iff_not]; omega
  have d4' : decide (S ≤ I) = false := by rw [decide_eq_false_iff_not]; omega
  obtain ⟨E, hE⟩ : ∃ E, E = incE root S I x p := ⟨_, rfl⟩
  rw [← hE] at HD ⊢
  have HB := hidk HF.out.2
  clear hK hR HF hE
  go_enter Tryd.func10, Tryd.ntmps10
  go_wp2_with fail
  refine (HD.out _ rfl).mono ?_
  rintro e w2 ⟨rfl, hb2⟩
  have HB2 := hidk (HB.out.trans (hb2.mono HB.out.size))
  clear hb2 HD
  go_wp2
  go_ret
  exact ⟨rfl, HB2.out⟩
end Go.Proofs.YtehfoeedlchphaaDoor
