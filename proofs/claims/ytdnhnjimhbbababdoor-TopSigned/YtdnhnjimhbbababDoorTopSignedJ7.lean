/- Texts of our own that the row of TopSigned leans on, part 7. -/
import Derived.Test.YtdnhnjimhbbababDoorTopSignedJ6
import Derived.SliceStrings

/- What check.Consistent answers. -/
namespace Go.Proofs.YtdnhnjimhbbababDoor
open Go.RowKit Sums
set_option maxRecDepth 100000
set_option linter.unusedVariables false
set_option linter.unusedSimpArgs false

attribute [local go_sem] store_func
set_option maxHeartbeats 1000000 in
theorem growthMakes_no (M N : Nat) (x : List UInt8) (p : List (List UInt8)) (a : Option Addr) (len cap : Nat) (w : World) (X : Array Value) (hM1 : 1 ≤ M) (hMN : M ≤ N) (hN : N ≤ 100000) (hR : LReads w a len cap p) (hm : (bothR p.reverse M N x true).2.2 = false) :
    Calls Tryd.prog 49 #[.int .i64 M, .int .i64 N, .agg X, .slice a len cap] w fun e w' => (∃ u p, e = .panicked [{ v := .iface u p, recovered := false }]) ∧ Below w.heap.size w w' := by
  have hmf : ∀ (fn : Fn) (first cap : Array Value) (w : World), (Instr.makeFunc fn first cap).run Tryd.prog w = .ok (.func fn first cap) w := fun _ _ _ _ => rfl
  obtain ⟨Z, HZ, HA, HS, H1, H32⟩ := noughts27
  have DN : Hid (∀ W gf, Below w.heap.size w W → W.heap[gf]? = some (.cells #[.func (.func 74) #[] #[.pointer (some ⟨w.heap.size, 0, none⟩), .pointer (some ⟨gf, 0, none⟩)]] 136 (0, 0)) → Calls Tryd.prog 74 #[.int .i64 M, .int .i64 N, .bool true, .slice a len cap, .pointer (some ⟨w.heap.size, 0, none⟩), .pointer (some ⟨gf, 0, none⟩)] W fun e w' => (∃ u p, e = .panicked [{ v := .iface u p, recovered := false }]) ∧ Below W.heap.size W w') := fun W gf hb hf =>
    growm_no p.reverse M N x true a len cap w.heap.size gf W hM1 hMN hN (by rw [List.reverse_reverse]; exact hR.keep hb) hf hm
  clear hm hR
  go_enter Tryd.func49, Tryd.ntmps49
  go_wp2_with (first
    | (show wpList _ _ _ ({ dst := some 8, op := _, type := _, pos := _, after := _, guard := _ } :: _) _ _; refine wpList_new_var rfl 30 rfl Z HA.out ?_; intro g8 w1 HM8; try simp only [Act.put, List.setIfInBounds_toArray, List.set_cons_zero, List.set_cons_succ])
    | (show wpList _ _ _ ({ dst := some 9, op := _, type := _, pos := _, after := _, guard := _ } :: _) _ _; refine wpList_new_var rfl 30 rfl Z HA.out ?_; intro g9 w2 HM9; try simp only [Act.put, List.setIfInBounds_toArray, List.set_cons_zero, List.set_cons_succ])
    | fail)
  have h8a : w.heap.size < g8 := by have e := HM8.out.new; simp at e; omega
  have h9a : g8 < g9 := by rw [HM9.out.new]; exact heap_lt HM8.out.row
  have h9b : g9 < w2.heap.size := heap_lt HM9.out.row
  have HL1 := hidk ((HM8.out.below.block _ (by simp)).trans (heap_alloc_new w (.cells X 30)))
  have HL2 := hidk ((HM9.out.below.block _ (heap_lt HL1.out)).trans HL1.out)
  have HB1 : Hid (Below w.heap.size w w1) := ((Below.refl _ _).alloc (Nat.le_refl _) _).trans (HM8.out.below.mono (by simp))
  have HB2 : Hid (Below w.heap.size w w2) := HB1.out.trans (HM9.out.below.mono HB1.out.size)
  have HB3 : Hid (Below w.heap.size w (w2.alloc (.cells #[.func (.func 74) #[] #[.pointer (some ⟨w.heap.size, 0, none⟩), .pointer (some ⟨w2.heap.size, 0, none⟩)]] 136))) := HB2.out.alloc (by omega) _
  have HF3 : Hid ((w2.alloc (.cells #[.func (.func 74) #[] #[.pointer (some ⟨w.heap.size, 0, none⟩), .pointer (some ⟨w2.heap.size, 0, none⟩)]] 136)).heap[w2.heap.size]? = some (.cells #[.func (.func 74) #[] #[.pointer (some ⟨w.heap.size, 0, none⟩), .pointer (some ⟨w2.heap.size, 0, none⟩)]] 136 (0, 0))) := heap_alloc_new w2 _
  have HL3 : Hid ((w2.alloc (.cells #[.func (.func 74) #[] #[.pointer (some ⟨w.heap.size, 0, none⟩), .pointer (some ⟨w2.heap.size, 0, none⟩)]] 136)).heap[w.heap.size]? = some (.cells X 30 (0, 0))) := heap_keep HL2.out
  refine (DN.out _ _ HB3.out HF3.out).mono ?_
  rintro e w3 ⟨⟨u, q, rfl⟩, hb3⟩
  exact ⟨rfl, ⟨_, _, rfl⟩, HB3.out.trans (hb3.mono HB3.out.size)⟩
set_option maxHeartbeats 1000000 in
theorem growthMakes_ok (M N : Nat) (x : List UInt8) (p : List (List UInt8)) (a : Option Addr) (len cap : Nat) (w : World) (X : Array Value) (HX : Hid (X = (cellsOf x).toArray)) (hx : x.length = 32) (hM1 : 1 ≤ M) (hMN : M ≤ N) (hN : N ≤ 100000) (hR : LReads w a len cap p) (hK : Table 0 w) (hm : (bothR p.reverse M N x true).2.2 = true)
    (M1 : Array Value) (HM1 : Hid (M1 = (cellsOf (bothR p.reverse M N x true).1).toArray)) (M2 : Array Value) (HM2 : Hid (M2 = (cellsOf (bothR p.reverse M N x true).2.1).toArray)) :
    Calls Tryd.prog 49 #[.int .i64 M, .int .i64 N, .agg X, .slice a len cap] w fun e w' => e = .returned (.tuple #[.agg M1, .agg M2]) ∧ Below w.heap.size w w' := by
  have hmf : ∀ (fn : Fn) (first cap : Array Value) (w : World), (Instr.makeFunc fn first cap).run Tryd.prog w = .ok (.func fn first cap) w := fun _ _ _ _ => rfl
  obtain ⟨Z, HZ, HA, HS, H1, H32⟩ := noughts27
  have hlt := bothR_length sumD_length p.reverse M N x true hx (fun z hz => hR.2.1 z (List.mem_reverse.1 hz))
  have HSM1 : Hid ((Tryd.prog.info? 30).map (·.size) = some M1.size) := by show _ = _; rw [size23, HM1.out]; simp [cellsOf_length, hlt.1]
  have H1M1 : Hid (M1.all (·.oneCell') = true) := by show _ = _; rw [HM1.out]; exact cellsOf_all _
  have HZM1 : Hid (Z.size = M1.size) := by show _ = _; rw [H32.out, HM1.out]; simp [cellsOf_length, hlt.1]
  have HSM2 : Hid ((Tryd.prog.info? 30).map (·.size) = some M2.size) := by show _ = _; rw [size23, HM2.out]; simp [cellsOf_length, hlt.2]
  have H1M2 : Hid (M2.all (·.oneCell') = true) := by show _ = _; rw [HM2.out]; exact cellsOf_all _
  have HZM2 : Hid (Z.size = M2.size) := by show _ = _; rw [H32.out, HM2.out]; simp [cellsOf_length, hlt.2]
  have DN : Hid (∀ W gf, Below w.heap.size w W → W.heap[gf]? = some (.cells #[.func (.func 74) #[] #[.pointer (some ⟨w.heap.size, 0, none⟩), .pointer (some ⟨gf, 0, none⟩)]] 136 (0, 0)) → W.heap[w.heap.size]? = some (.cells X 30 (0, 0)) → Calls Tryd.prog 74 #[.int .i64 M, .int .i64 N, .bool true, .slice a len cap, .pointer (some ⟨w.heap.size, 0, none⟩), .pointer (some ⟨gf, 0, none⟩)] W fun e w' => e = .returned (.tuple #[.agg M1, .agg M2]) ∧ Below W.heap.size W w') := fun W gf hb hf hl =>
    growm_ok p.reverse M N x true a len cap w.heap.size gf W X HX hx hM1 hMN hN (by rw [List.reverse_reverse]; exact hR.keep hb) hf hl (hK.keep hb) hm M1 HM1 M2 HM2
  clear hm hR hK HM1 HM2 hlt
  go_enter Tryd.func49, Tryd.ntmps49
  go_wp2_with (first
    | (show wpList _ _ _ ({ dst := some 8, op := _, type := _, pos := _, after := _, guard := _ } :: _) _ _; refine wpList_new_var rfl 30 rfl Z HA.out ?_; intro g8 w1 HM8; try simp only [Act.put, List.setIfInBounds_toArray, List.set_cons_zero, List.set_cons_succ])
    | (show wpList _ _ _ ({ dst := some 9, op := _, type := _, pos := _, after := _, guard := _ } :: _) _ _; refine wpList_new_var rfl 30 rfl Z HA.out ?_; intro g9 w2 HM9; try simp only [Act.put, List.setIfInBounds_toArray, List.set_cons_zero, List.set_cons_succ])
    | fail)
  have h8a : w.heap.size < g8 := by have e := HM8.out.new; simp at e; omega
  have h9a : g8 < g9 := by rw [HM9.out.new]; exact heap_lt HM8.out.row
  have h9b : g9 < w2.heap.size := heap_lt HM9.out.row
  have HL1 := hidk ((HM8.out.below.block _ (by simp)).trans (heap_alloc_new w (.cells X 30)))
  have HL2 := hidk ((HM9.out.below.block _ (heap_lt HL1.out)).trans HL1.out)
  have HB1 : Hid (Below w.heap.size w w1) := ((Below.refl _ _).alloc (Nat.le_refl _) _).trans (HM8.out.below.mono (by simp))
  have HB2 : Hid (Below w.heap.size w w2) := HB1.out.trans (HM9.out.below.mono HB1.out.size)
  have HB3 : Hid (Below w.heap.size w (w2.alloc (.cells #[.func (.func 74) #[] #[.pointer (some ⟨w.heap.size, 0, none⟩), .pointer (some ⟨w2.heap.size, 0, none⟩)]] 136))) := HB2.out.alloc (by omega) _
  have HF3 : Hid ((w2.alloc (.cells #[.func (.func 74) #[] #[.pointer (some ⟨w.heap.size, 0, none⟩), .pointer (some ⟨w2.heap.size, 0, none⟩)]] 136)).heap[w2.heap.size]? = some (.cells #[.func (.func 74) #[] #[.pointer (some ⟨w.heap.size, 0, none⟩), .pointer (some ⟨w2.heap.size, 0, none⟩)]] 136 (0, 0))) := heap_alloc_new w2 _
  have HL3 : Hid ((w2.alloc (.cells #[.func (.func 74) #[] #[.pointer (some ⟨w.heap.size, 0, none⟩), .pointer (some ⟨w2.heap.size, 0, none⟩)]] 136)).heap[w.heap.size]? = some (.cells X 30 (0, 0))) := heap_keep HL2.out
  have HR8 : Hid ((w2.alloc (.cells #[.func (.func 74) #[] #[.pointer (some ⟨w.heap.size, 0, none⟩), .pointer (some ⟨w2.heap.size, 0, none⟩)]] 136)).heap[g8]? = some (.cells Z 30 (0, 0))) := heap_keep ((HM9.out.below.block _ (heap_lt HM8.out.row)).trans HM8.out.row)
  have HR9 : Hid ((w2.alloc (.cells #[.func (.func 74) #[] #[.pointer (some ⟨w.heap.size, 0, none⟩), .pointer (some ⟨w2.heap.size, 0, none⟩)]] 136)).heap[g9]? = some (.cells Z 30 (0, 0))) := heap_keep HM9.out.row
  refine (DN.out _ _ HB3.out HF3.out HL3.out).mono ?_
  rintro e w3 ⟨rfl, hb3⟩
  have HR83 := hidk ((hb3.block _ (heap_lt HR8.out)).trans HR8.out)
  have HR93 := hidk ((hb3.block _ (heap_lt HR9.out)).trans HR9.out)
  have HB4 := hidk (HB3.out.trans (hb3.mono HB3.out.size))
  clear hb3 HR8 HR9 DN HB3 HF3 HL3
  go_wp2_with (first
    | (refine wpList_set_var rfl 30 (.tmp 8) (.tmp 17) rfl g8 M1 rfl rfl 30 Z HR83.out HSM1.out HZM1.out H1M1.out ?_; intro w4 HW8; have HR94 := hidk ((HW8.out.other g9 (by omega)).trans HR93.out); try simp only [Act.put, List.setIfInBounds_toArray, List.set_cons_zero, List.set_cons_succ])
    | (refine wpList_set_var rfl 30 (.tmp 9) (.tmp 18) rfl g9 M2 rfl rfl 30 Z HR94.out HSM2.out HZM2.out H1M2.out ?_; intro w5 HW9; try simp only [Act.put, List.setIfInBounds_toArray, List.set_cons_zero, List.set_cons_succ])
    | fail)
  refine bodyPost_ret (v := .tuple #[.agg M1, .agg M2]) ?_ rfl ⟨rfl, HW9.out.below w.heap.size w (HW8.out.below w.heap.size w HB4.out (by omega)) (by omega)⟩
  exact results_row_row (p1 := 8) (p2 := 9) (ty := 30) rfl _ _ g8 g9 30 30 M1 M2 (0, 0) (0, 0) _ rfl rfl ((HW9.out.other g8 (by omega)).trans HW8.out.row) HW9.out.row Tryd.underlying30 rfl HSM1.out HSM2.out
/-- What the closure's variables hold. -/
structure FiveC (gm go gn gr gp : Nat) (m : Int) (O : Array Value) (n : Int) (R : Array Value) (a : Option Addr) (len cap : Nat) (W : World) : Prop where
  first : W.heap[gm]? = some (.cells #[.int .i64 m] 3 (0, 0))
  old : W.heap[go]? = some (.cells O 30 (0, 0))
  all : W.heap[gn]? = some (.cells #[.int .i64 n] 3 (0, 0))
  root : W.heap[gr]? = some (.cells R 30 (0, 0))
  proof : W.heap[gp]? = some (.cells #[.slice a len cap] 26 (0, 0))
theorem FiveC.keep {gm go gn gr gp : Nat} {m n : Int} {O R : Array Value} {a : Option Addr} {len cap : Nat} {W W' : World} (h : FiveC gm go gn gr gp m O n R a len cap W) (hb : Below W.heap.size W W') : FiveC gm go gn gr gp m O n R a len cap W' :=
  ⟨(hb.block _ (heap_lt h.first)).trans h.first, (hb.block _ (heap_lt h.old)).trans h.old, (hb.block _ (heap_lt h.all)).trans h.all, (hb.block _ (heap_lt h.root)).trans h.root, (hb.block _ (heap_lt h.proof)).trans h.proof⟩
set_option maxHeartbeats 1000000 in
theorem cons1_no (M N : Nat) (x : List UInt8) (p : List (List UInt8)) (a : Option Addr) (len cap gm go gn gr gp : Nat) (w : World) (R X : Array Value) (HX : Hid (X = (cellsOf x).toArray)) (hx : x.length = 32) (hM1 : 1 ≤ M) (hMN : M ≤ N) (hN : N ≤ 100000) (hF : FiveC gm go gn gr gp M X N R a len cap w) (hR : LReads w a len cap p) (hm : (bothR p.reverse M N x true).2.2 = false) :
    Calls Tryd.prog 48 #[.pointer (some ⟨gm, 0, none⟩), .pointer (some ⟨gn, 0, none⟩), .pointer (some ⟨go, 0, none⟩), .pointer (some ⟨gp, 0, none⟩), .pointer (some ⟨gr, 0, none⟩)] w fun e w' => (∃ u p, e = .panicked [{ v := .iface u p, recovered := false }]) ∧ Below w.heap.size w w' := by
  have HSX : Hid ((Tryd.prog.info? 30).map (·.size) = some X.size) := by show _ = _; rw [size23, HX.out]; simp [cellsOf_length, hx]
  have LM : Hid (Calls Tryd.prog 49 #[.int .i64 M, .int .i64 N, .agg X, .slice a len cap] w fun e w' => (∃ u p, e = .panicked [{ v := .iface u p, recovered := false }]) ∧ Below w.heap.size w w') := growthMakes_no M N x p a len cap w X hM1 hMN hN hR hm
  have hc0 := cell_of_one hF.first
  have hc1 := cell_of_one hF.all
  have hc3 := cell_of_one hF.proof
  have HL := hidk hF.old
  clear hm hR hF
  go_enter Tryd.func48, Tryd.ntmps48
  go_wp2_with (first
    | (show wpList _ _ _ ({ dst := some 11, op := _, type := _, pos := _, after := _, guard := _ } :: _) _ _; refine wpList_load_row rfl 30 (.tmp 2) rfl go rfl 30 X (0, 0) _ HL.out Tryd.underlying30 rfl HSX.out ?_; try simp only [Act.put, List.setIfInBounds_toArray, List.set_cons_zero, List.set_cons_succ])
    | fail)
  refine LM.out.mono ?_
  rintro e w2 ⟨⟨u, q, rfl⟩, hb2⟩
  exact ⟨rfl, ⟨_, _, rfl⟩, hb2⟩
set_option maxHeartbeats 1000000 in
theorem cons1_ok (root : List UInt8) (M N : Nat) (x : List UInt8) (p : List (List UInt8)) (a : Option Addr) (len cap gm go gn gr gp : Nat) (w : World) (R X : Array Value) (HR : Hid (R = (cellsOf root).toArray)) (hr : root.length = 32) (HX : Hid (X = (cellsOf x).toArray)) (hx : x.length = 32) (hM1 : 1 ≤ M) (hMN : M ≤ N) (hN : N ≤ 100000) (hF : FiveC gm go gn gr gp M X N R a len cap w) (hR : LReads w a len cap p) (hK : Table 0 w) (hm : (bothR p.reverse M N x true).2.2 = true) :
    Calls Tryd.prog 48 #[.pointer (some ⟨gm, 0, none⟩), .pointer (some ⟨gn, 0, none⟩), .pointer (some ⟨go, 0, none⟩), .pointer (some ⟨gp, 0, none⟩), .pointer (some ⟨gr, 0, none⟩)] w fun e w' => e = .returned (.bool (decide ((bothR p.reverse M N x true).1 = x ∧ (bothR p.reverse M N x true).2.1 = root))) ∧ Below w.heap.size w w' := by
  obtain ⟨Z, HZ, HA, HS, H1, H32⟩ := noughts27
  have HSX : Hid ((Tryd.prog.info? 30).map (·.size) = some X.size) := by show _ = _; rw [size23, HX.out]; simp [cellsOf_length, hx]
  have HSR : Hid ((Tryd.prog.info? 30).map (·.size) = some R.size) := by show _ = _; rw [size23, HR.out]; simp [cellsOf_length, hr]
  have hlt := bothR_length sumD_length p.reverse M N x true hx (fun z hz => hR.2.1 z (List.mem_reverse.1 hz))
  obtain ⟨M1, HM1, HSM1, H1M1, H32M1⟩ := dig_row' (bothR p.reverse M N x true).1 hlt.1
  obtain ⟨M2, HM2, HSM2, H1M2, H32M2⟩ := dig_row' (bothR p.reverse M N x true).2.1 hlt.2
  have HZM1 : Hid (Z.size = M1.size) := by show _ = _; rw [H32.out, H32M1.out]
  have HZM2 : Hid (Z.size = M2.size) := by show _ = _; rw [H32.out, H32M2.out]
  obtain ⟨b1, hb1⟩ : ∃ b, decide ((bothR p.reverse M N x true).1 = x) = b := ⟨_, rfl⟩
  obtain ⟨b2, hb2⟩ : ∃ b, decide ((bothR p.reverse M N x true).2.1 = root) = b := ⟨_, rfl⟩
  have hq1 : ∀ W, (binOp .eql 30 (.agg M1) (.agg X)).run Tryd.prog W = .ok (.bool b1) W := fun W => eqDigV _ _ hlt.1 hx M1 X HM1 HX b1 hb1 W
  have hq2 : ∀ W, (binOp .eql 30 (.agg M2) (.agg R)).run Tryd.prog W = .ok (.bool b2) W := fun W => eqDigV _ _ hlt.2 hr M2 R HM2 HR b2 hb2 W
  have LM : Hid (Calls Tryd.prog 49 #[.int .i64 M, .int .i64 N, .agg X, .slice a len cap] w fun e w' => e = .returned (.tuple #[.agg M1, .agg M2]) ∧ Below w.heap.size w w') := growthMakes_ok M N x p a len cap w X HX hx hM1 hMN hN hR hK hm M1 HM1 M2 HM2
  have hc0 := cell_of_one hF.first
  have hc1 := cell_of_one hF.all
  have hc3 := cell_of_one hF.proof
  have HL := hidk hF.old
  have HRT := hidk hF.root
  have hbb : decide ((bothR p.reverse M N x true).1 = x ∧ (bothR p.reverse M N x true).2.1 = root) = (b1 && b2) := by rw [← hb1, ← hb2]; simp
  rw [hbb]
  clear hm hR hF hK hb1 hb2 hbb HM1 HM2 hlt
  cases b1
  · skip
    go_enter Tryd.func48, Tryd.ntmps48
    go_wp2_with (first
      | (show wpList _ _ _ ({ dst := some 11, op := _, type := _, pos := _, after := _, guard := _ } :: _) _ _; refine wpList_load_row rfl 30 (.tmp 2) rfl go rfl 30 X (0, 0) _ HL.out Tryd.underlying30 rfl HSX.out ?_; try simp only [Act.put, List.setIfInBounds_toArray, List.set_cons_zero, List.set_cons_succ])
      | fail)
    refine LM.out.mono ?_
    rintro e w2 ⟨rfl, hb2⟩
    have HR2 := hidk ((hb2.block _ (heap_lt HRT.out)).trans HRT.out)
    have HL2 := hidk ((hb2.block _ (heap_lt HL.out)).trans HL.out)
    have hlr := heap_lt HR2.out
    have hll := heap_lt HL2.out
    clear HL HRT LM hc0 hc1 hc3
    go_wp2_with (first
      | (show wpList _ _ _ ({ dst := some 6, op := _, type := _, pos := _, after := _, guard := _ } :: _) _ _; refine wpList_new_var rfl 30 rfl Z HA.out ?_; intro g6 w3 HM6; try simp only [Act.put, List.setIfInBounds_toArray, List.set_cons_zero, List.set_cons_succ])
      | (show wpList _ _ _ ({ dst := some 7, op := _, type := _, pos := _, after := _, guard := _ } :: _) _ _; refine wpList_new_var rfl 30 rfl Z HA.out ?_; intro g7 w4 HM7; have HK6 := hidk ((HM7.out.below.block _ (heap_lt HM6.out.row)).trans HM6.out.row); have h67 : g6 < g7 := by { rw [HM7.out.new]; exact heap_lt HM6.out.row }; have h26 : w2.heap.size ≤ g6 := Nat.le_of_eq HM6.out.new.symm; try simp only [Act.put, List.setIfInBounds_toArray, List.set_cons_zero, List.set_cons_succ])
      | (refine wpList_set_var rfl 30 (.tmp 6) (.tmp 14) rfl g6 M1 rfl rfl 30 Z HK6.out HSM1.out HZM1.out H1M1.out ?_; intro w5 HW6; have HK7 := hidk ((HW6.out.other g7 (by omega)).trans HM7.out.row); try simp only [Act.put, List.setIfInBounds_toArray, List.set_cons_zero, List.set_cons_succ])
      | (refine wpList_set_var rfl 30 (.tmp 7) (.tmp 15) rfl g7 M2 rfl rfl 30 Z HK7.out HSM2.out HZM2.out H1M2.out ?_; intro w6 HW7; have HB6 := hidk (HW7.out.below w2.heap.size w2 (HW6.out.below w2.heap.size w2 (HM6.out.below.trans (HM7.out.below.mono HM6.out.below.size)) (by omega)) (by omega)); have HR6 := hidk ((HB6.out.block _ hlr).trans HR2.out); have HL6 := hidk ((HB6.out.block _ hll).trans HL2.out); have HR66 := hidk ((HW7.out.other g6 (by omega)).trans HW6.out.row); try simp only [Act.put, List.setIfInBounds_toArray, List.set_cons_zero, List.set_cons_succ])
      | (show wpList _ _ _ ({ dst := some 16, op := _, type := _, pos := _, after := _, guard := _ } :: _) _ _; refine wpList_load_row rfl 30 (.tmp 6) rfl g6 rfl 30 M1 (0, 0) _ HR66.out Tryd.underlying30 rfl HSM1.out ?_; try simp only [Act.put, List.setIfInBounds_toArray, List.set_cons_zero, List.set_cons_succ])
      | (show wpList _ _ _ ({ dst := some 17, op := _, type := _, pos := _, after := _, guard := _ } :: _) _ _; refine wpList_load_row rfl 30 (.tmp 2) rfl go rfl 30 X (0, 0) _ HL6.out Tryd.underlying30 rfl HSX.out ?_; try simp only [Act.put, List.setIfInBounds_toArray, List.set_cons_zero, List.set_cons_succ])
      | (show wpList _ _ _ ({ dst := some 20, op := _, type := _, pos := _, after := _, guard := _ } :: _) _ _; refine wpList_load_row_w (by rfl) 30 (.tmp 7) rfl g7 rfl 30 M2 (0, 0) _ HW7.out.row Tryd.underlying30 rfl HSM2.out ?_; try simp only [Act.put, List.setIfInBounds_toArray, List.set_cons_zero, List.set_cons_succ])
      | (show wpList _ _ _ ({ dst := some 21, op := _, type := _, pos := _, after := _, guard := _ } :: _) _ _; refine wpList_load_row_w (by rfl) 30 (.tmp 4) rfl gr rfl 30 R (0, 0) _ HR6.out Tryd.underlying30 rfl HSR.out ?_; try simp only [Act.put, List.setIfInBounds_toArray, List.set_cons_zero, List.set_cons_succ])
      | fail)
    go_ret
    exact ⟨rfl, hb2.trans (HB6.out.mono hb2.size)⟩
  · skip
    go_enter Tryd.func48, Tryd.ntmps48
    go_wp2_with (first
      | (show wpList _ _ _ ({ dst := some 11, op := _, type := _, pos := _, after := _, guard := _ } :: _) _ _; refine wpList_load_row rfl 30 (.tmp 2) rfl go rfl 30 X (0, 0) _ HL.out Tryd.underlying30 rfl HSX.out ?_; try simp only [Act.put, List.setIfInBounds_toArray, List.set_cons_zero, List.set_cons_succ])
      | fail)
    refine LM.out.mono ?_
    rintro e w2 ⟨rfl, hb2⟩
    have HR2 := hidk ((hb2.block _ (heap_lt HRT.out)).trans HRT.out)
    have HL2 := hidk ((hb2.block _ (heap_lt HL.out)).trans HL.out)
    have hlr := heap_lt HR2.out
    have hll := heap_lt HL2.out
    clear HL HRT LM hc0 hc1 hc3
    go_wp2_with (first
      | (show wpList _ _ _ ({ dst := some 6, op := _, type := _, pos := _, after := _, guard := _ } :: _) _ _; refine wpList_new_var rfl 30 rfl Z HA.out ?_; intro g6 w3 HM6; try simp only [Act.put, List.setIfInBounds_toArray, List.set_cons_zero, List.set_cons_succ])
      | (show wpList _ _ _ ({ dst := some 7, op := _, type := _, pos := _, after := _, guard := _ } :: _) _ _; refine wpList_new_var rfl 30 rfl Z HA.out ?_; intro g7 w4 HM7; have HK6 := hidk ((HM7.out.below.block _ (heap_lt HM6.out.row)).trans HM6.out.row); have h67 : g6 < g7 := by { rw [HM7.out.new]; exact heap_lt HM6.out.row }; have h26 : w2.heap.size ≤ g6 := Nat.le_of_eq HM6.out.new.symm; try simp only [Act.put, List.setIfInBounds_toArray, List.set_cons_zero, List.set_cons_succ])
      | (refine wpList_set_var rfl 30 (.tmp 6) (.tmp 14) rfl g6 M1 rfl rfl 30 Z HK6.out HSM1.out HZM1.out H1M1.out ?_; intro w5 HW6; have HK7 := hidk ((HW6.out.other g7 (by omega)).trans HM7.out.row); try simp only [Act.put, List.setIfInBounds_toArray, List.set_cons_zero, List.set_cons_succ])
      | (refine wpList_set_var rfl 30 (.tmp 7) (.tmp 15) rfl g7 M2 rfl rfl 30 Z HK7.out HSM2.out HZM2.out H1M2.out ?_; intro w6 HW7; have HB6 := hidk (HW7.out.below w2.heap.size w2 (HW6.out.below w2.heap.size w2 (HM6.out.below.trans (HM7.out.below.mono HM6.out.below.size)) (by omega)) (by omega)); have HR6 := hidk ((HB6.out.block _ hlr).trans HR2.out); have HL6 := hidk ((HB6.out.block _ hll).trans HL2.out); have HR66 := hidk ((HW7.out.other g6 (by omega)).trans HW6.out.row); try simp only [Act.put, List.setIfInBounds_toArray, List.set_cons_zero, List.set_cons_succ])
      | (show wpList _ _ _ ({ dst := some 16, op := _, type := _, pos := _, after := _, guard := _ } :: _) _ _; refine wpList_load_row rfl 30 (.tmp 6) rfl g6 rfl 30 M1 (0, 0) _ HR66.out Tryd.underlying30 rfl HSM1.out ?_; try simp only [Act.put, List.setIfInBounds_toArray, List.set_cons_zero, List.set_cons_succ])
      | (show wpList _ _ _ ({ dst := some 17, op := _, type := _, pos := _, after := _, guard := _ } :: _) _ _; refine wpList_load_row rfl 30 (.tmp 2) rfl go rfl 30 X (0, 0) _ HL6.out Tryd.underlying30 rfl HSX.out ?_; try simp only [Act.put, List.setIfInBounds_toArray, List.set_cons_zero, List.set_cons_succ])
      | (show wpList _ _ _ ({ dst := some 20, op := _, type := _, pos := _, after := _, guard := _ } :: _) _ _; refine wpList_load_row_w (by rfl) 30 (.tmp 7) rfl g7 rfl 30 M2 (0, 0) _ HW7.out.row Tryd.underlying30 rfl HSM2.out ?_; try simp only [Act.put, List.setIfInBounds_toArray, List.set_cons_zero, List.set_cons_succ])
      | (show wpList _ _ _ ({ dst := some 21, op := _, type := _, pos := _, after := _, guard := _ } :: _) _ _; refine wpList_load_row_w (by rfl) 30 (.tmp 4) rfl gr rfl 30 R (0, 0) _ HR6.out Tryd.underlying30 rfl HSR.out ?_; try simp only [Act.put, List.setIfInBounds_toArray, List.set_cons_zero, List.set_cons_succ])
      | fail)
    go_ret
    exact ⟨rfl, hb2.trans (HB6.out.mono hb2.size)⟩
set_option maxHeartbeats 2000000 in
theorem empty_from (old : List UInt8) (n : Int) (root : List UInt8) (p : List (List UInt8)) (a : Option Addr) (len cap : Nat) (w : World) (O R : Array Value) (HO : Hid (O = (cellsOf old).toArray)) (HR : Hid (R = (cellsOf root).toArray)) (ho : old.length = 32) (hr : root.length = 32) (hn : 0 ≤ n ∧ n ≤ 100000) (hR : LReads w a len cap p) (hK : Table 0 w) :
    Calls Tryd.prog 47 #[.agg O, .int .i64 n, .agg R, .slice a len cap] w fun e w' => e = .returned (.int .i64 (conE 0 old n root p)) ∧ Below w.heap.size w w' := by
  rw [conE_none old n root p hn]
  have HSO : Hid ((Tryd.prog.info? 30).map (·.size) = some O.size) := by show _ = _; rw [size23, HO.out]; simp [cellsOf_length, ho]
  have HSR : Hid ((Tryd.prog.info? 30).map (·.size) = some R.size) := by show _ = _; rw [size23, HR.out]; simp [cellsOf_length, hr]
  have hml : len ≤ 9223372036854775807 := by have := hR.2.2.2.1; unfold maxLen at this; omega
  have HW : Hid (((w.alloc (.cells O 30)).alloc (.cells R 30)).heap[w.heap.size]? = some (.cells O 30 (0, 0)) ∧ ((w.alloc (.cells O 30)).alloc (.cells R 30)).heap[w.heap.size + 1]? = some (.cells R 30 (0, 0)) ∧ Below w.heap.size w ((w.alloc (.cells O 30)).alloc (.cells R 30))) := ⟨heap_alloc2_old w _ _, heap_alloc2_new w _ _, ((Below.refl _ _).alloc (Nat.le_refl _) _).alloc (by simp) _⟩
  by_cases h0 : len = 0
  · subst h0
    obtain rfl : p = [] := List.eq_nil_of_length_eq_zero hR.1
    rw [if_pos rfl]
    obtain ⟨E, HE, HSE, H1E, H32E⟩ := dig_row' (sumD []) (sumD_length _)
    have EM : Hid (∀ W, Below w.heap.size w W → Calls Tryd.prog 17 #[] W fun e w' => e = .returned (.agg E) ∧ Below W.heap.size W w') := fun W hb => empty_any W (hK.keep hb) E HE
    by_cases hoe : old = sumD []
    · have nq : ∀ W, (binOp .neq 30 (.agg O) (.agg E)).run Tryd.prog W = .ok (.bool false) W := fun W => neqDigV _ _ ho (sumD_length _) O E HO HE false (by simp [hoe]) W
      by_cases hn0 : n = 0
      · subst hn0
        obtain ⟨bb, hbb⟩ : ∃ b, (!decide (root = old)) = b := ⟨_, rfl⟩
        have nq2 : ∀ W, (binOp .neq 30 (.agg R) (.agg O)).run Tryd.prog W = .ok (.bool bb) W := fun W => neqDigV _ _ hr ho R O HR HO bb hbb W
        obtain ⟨V, hV⟩ : ∃ V : Int, (if old = sumD [] ∧ (0 = (0 : Int) → root = old) then (0 : Int) else 41) = V := ⟨_, rfl⟩
        have HBF : Hid (bb = false → V = 0) := fun e => by rw [← hV, if_pos]; rw [e] at hbb; exact ⟨hoe, fun _ => by simpa using hbb⟩
        have HBT : Hid (bb = true → V = 41) := fun e => by rw [← hV, if_neg]; rw [e] at hbb; rintro ⟨_, h⟩; simp [h rfl] at hbb
        rw [hV]
        clear hR hK hbb hoe hn HO HR HE hV
        go_enter Tryd.func47, Tryd.ntmps47
        go_wp2
        refine wp_region_held_drew (S := (fun W => W.heap[w.heap.size]? = some (.cells O 30 (0, 0)) ∧ W.heap[w.heap.size + 1]? = some (.cells R 30 (0, 0)))) (by kernel_rfl) ⟨HW.out.1, HW.out.2.1⟩ (fun hHeld => ?_)
        refine wpAnyH_take (i := 0) (oi := { dst := some 12, op := Op.load 30 (Operand.tmp 4), type := 30, pos := "check.go:43", after := #[], guard := none }) (v := .agg O) rfl (by kernel_rfl) (by kernel_rfl) (by kernel_rfl) (fun _ _ _ h => h) (yieldsIf_row (by rfl) 30 (.tmp 4) rfl w.heap.size rfl 30 O (0, 0) _ (fun _ h => h.1) Tryd.underlying30 rfl HSO.out) hHeld ?_
        try simp only [Act.put, List.setIfInBounds_toArray, List.set_cons_zero, List.set_cons_succ]
        refine wpAnyH_ready (rs := [1]) (by kernel_rfl) (by simp) ?_
        refine (AllReadyH.cons (o := { dst := some 13, op := Op.call { callee := Callee.value (Operand.func 17), args := #[], argTypes := #[] }, type := 30, pos := "check.go:43", after := #[], guard := none }) rfl (fun K hK => ?_) AllReadyH.nil)
        go_simp
        refine (EM.out _ HW.out.2.2.drew).mono ?_
        rintro e w1 ⟨rfl, hb1⟩
        have HB1 := hidk (HW.out.2.2.drew.trans (hb1.mono HW.out.2.2.size))
        go_wp2_with fail
        refine hK.out _ _ ⟨(hb1.block _ (heap_lt hHeld.1)).trans hHeld.1, (hb1.block _ (heap_lt hHeld.2)).trans hHeld.2⟩ (fun hHeld => ?_)
        clear hK K
        try simp only [Act.put, List.setIfInBounds_toArray, List.set_cons_zero, List.set_cons_succ]
        refine wpAnyH_take (i := 2) (oi := { dst := some 14, op := Op.binOp BinOp.neq 30 (Operand.tmp 12) (Operand.tmp 13) 30, type := 4, pos := "check.go:43", after := #[{ on := 0, ground := Ground.data }, { on := 1, ground := Ground.data }], guard := none }) (v := .bool false) rfl (by kernel_rfl) (by kernel_rfl) (by kernel_rfl) (fun _ _ _ h => h) (Or.inl ⟨by rfl, by intro W hSw; have := nq W; go_simp⟩) hHeld ?_
        try simp only [Act.put, List.setIfInBounds_toArray, List.set_cons_zero, List.set_cons_succ]
        refine wpAnyH_take (i := 3) (oi := { dst := some 15, op := Op.move (Operand.tmp 14), type := 4, pos := "check.go:43", after := #[{ on := 2, ground := Ground.data }, { on := 1, ground := Ground.chain }], guard := none }) (v := .bool false) rfl (by kernel_rfl) (by kernel_rfl) (by kernel_rfl) (fun _ _ _ h => h) (Or.inl ⟨by rfl, by intro W hSw; go_simp⟩) hHeld ?_
        try simp only [Act.put, List.setIfInBounds_toArray, List.set_cons_zero, List.set_cons_succ]
        refine wpAnyH_take (i := 4) (oi := { dst := some 16, op := Op.move (Operand.tmp 1), type := 3, pos := "check.go:43", after := #[{ on := 3, ground := Ground.guard }], guard := some (3, false) }) (v := .int .i64 0) rfl (by kernel_rfl) (by kernel_rfl) (by kernel_rfl) (fun _ _ _ h => h) (Or.inl ⟨by rfl, by intro W hSw; go_simp⟩) hHeld ?_
        try simp only [Act.put, List.setIfInBounds_toArray, List.set_cons_zero, List.set_cons_succ]
        refine wpAnyH_take (i := 5) (oi := { dst := some 17, op := Op.binOp BinOp.eql 3 (Operand.tmp 16) (Operand.const (Value.int IntKind.i64 0)) 3, type := 4, pos := "check.go:43", after := #[{ on := 4, ground := Ground.data }, { on := 3, ground := Ground.guard }], guard := some (3, false) }) (v := .bool true) rfl (by kernel_rfl) (by kernel_rfl) (by kernel_rfl) (fun _ _ _ h => h) (Or.inl ⟨by rfl, by intro W hSw; go_simp⟩) hHeld ?_
        try simp only [Act.put, List.setIfInBounds_toArray, List.set_cons_zero, List.set_cons_succ]
        refine wpAnyH_take (i := 6) (oi := { dst := some 18, op := Op.move (Operand.tmp 17), type := 4, pos := "check.go:43", after := #[{ on := 5, ground := Ground.data }, { on := 3, ground := Ground.chain }, { on := 3, ground := Ground.guard }], guard := some (3, false) }) (v := .bool true) rfl (by kernel_rfl) (by kernel_rfl) (by kernel_rfl) (fun _ _ _ h => h) (Or.inl ⟨by rfl, by intro W hSw; go_simp⟩) hHeld ?_
        try simp only [Act.put, List.setIfInBounds_toArray, List.set_cons_zero, List.set_cons_succ]
        refine wpAnyH_take (i := 7) (oi := { dst := some 19, op := Op.load 30 (Operand.tmp 6), type := 30, pos := "check.go:43", after := #[{ on := 6, ground := Ground.guard }], guard := some (6, true) }) (v := .agg R) rfl (by kernel_rfl) (by kernel_rfl) (by kernel_rfl) (fun _ _ _ h => h) (yieldsIf_row (by rfl) 30 (.tmp 6) rfl (w.heap.size + 1) rfl 30 R (0, 0) _ (fun _ h => h.2) Tryd.underlying30 rfl HSR.out) hHeld ?_
        try simp only [Act.put, List.setIfInBounds_toArray, List.set_cons_zero, List.set_cons_succ]
        refine wpAnyH_take (i := 8) (oi := { dst := some 20, op := Op.load 30 (Operand.tmp 4), type := 30, pos := "check.go:43", after := #[{ on := 6, ground := Ground.guard }], guard := some (6, true) }) (v := .agg O) rfl (by kernel_rfl) (by kernel_rfl) (by kernel_rfl) (fun _ _ _ h => h) (yieldsIf_row (by rfl) 30 (.tmp 4) rfl w.heap.size rfl 30 O (0, 0) _ (fun _ h => h.1) Tryd.underlying30 rfl HSO.out) hHeld ?_
        try simp only [Act.put, List.setIfInBounds_toArray, List.set_cons_zero, List.set_cons_succ]
        refine wpAnyH_take (i := 9) (oi := { dst := some 21, op := Op.binOp BinOp.neq 30 (Operand.tmp 19) (Operand.tmp 20) 30, type := 4, pos := "check.go:43", after := #[{ on := 7, ground := Ground.data }, { on := 8, ground := Ground.data }, { on := 6, ground := Ground.guard }], guard := some (6, true) }) (v := .bool bb) rfl (by kernel_rfl) (by kernel_rfl) (by kernel_rfl) (fun _ _ _ h => h) (Or.inl ⟨by rfl, by intro W hSw; have := nq2 W; go_simp⟩) hHeld ?_
        try simp only [Act.put, List.setIfInBounds_toArray, List.set_cons_zero, List.set_cons_succ]
        refine wpAnyH_take (i := 10) (oi := { dst := some 22, op := Op.pick (Operand.tmp 18) (Operand.tmp 21) (Operand.const (Value.bool false)), type := 4, pos := "check.go:43", after := #[{ on := 6, ground := Ground.data }, { on := 9, ground := Ground.data }, { on := 3, ground := Ground.guard }], guard := some (3, false) }) (v := .bool bb) rfl (by kernel_rfl) (by kernel_rfl) (by kernel_rfl) (fun _ _ _ h => h) (Or.inl ⟨by rfl, by intro W hSw; go_simp⟩) hHeld ?_
        try simp only [Act.put, List.setIfInBounds_toArray, List.set_cons_zero, List.set_cons_succ]
        refine wpAnyH_take (i := 11) (oi := { dst := some 23, op := Op.pick (Operand.tmp 15) (Operand.const (Value.bool true)) (Operand.tmp 22), type := 4, pos := "check.go:43", after := #[{ on := 3, ground := Ground.data }, { on := 10, ground := Ground.data }], guard := none }) (v := .bool bb) rfl (by kernel_rfl) (by kernel_rfl) (by kernel_rfl) (fun _ _ _ h => h) (Or.inl ⟨by rfl, by intro W hSw; go_simp⟩) hHeld ?_
        try simp only [Act.put, List.setIfInBounds_toArray, List.set_cons_zero, List.set_cons_succ]
        refine wpAnyH_done (by kernel_rfl) ?_ _
        cases bb
        · go_wp2
          go_ret
          exact ⟨by rw [HBF.out (by trivial)]; rfl, HB1.out⟩
        · go_wp2
          go_ret
          exact ⟨by rw [HBT.out (by trivial)]; rfl, HB1.out⟩
      · have c5 : (n == 0) = false := by rw [beq_eq_false_iff_ne]; exact hn0
        rw [if_pos ⟨hoe, fun e => absurd e hn0⟩]
        clear hR hK hoe hn HO HR HE hn0
        go_enter Tryd.func47, Tryd.ntmps47
        go_wp2
        refine wp_region_held_drew (S := (fun W => W.heap[w.heap.size]? = some (.cells O 30 (0, 0)) ∧ W.heap[w.heap.size + 1]? = some (.cells R 30 (0, 0)))) (by kernel_rfl) ⟨HW.out.1, HW.out.2.1⟩ (fun hHeld => ?_)
        refine wpAnyH_take (i := 0) (oi := { dst := some 12, op := Op.load 30 (Operand.tmp 4), type := 30, pos := "check.go:43", after := #[], guard := none }) (v := .agg O) rfl (by kernel_rfl) (by kernel_rfl) (by kernel_rfl) (fun _ _ _ h => h) (yieldsIf_row (by rfl) 30 (.tmp 4) rfl w.heap.size rfl 30 O (0, 0) _ (fun _ h => h.1) Tryd.underlying30 rfl HSO.out) hHeld ?_
        try simp only [Act.put, List.setIfInBounds_toArray, List.set_cons_zero, List.set_cons_succ]
        refine wpAnyH_ready (rs := [1]) (by kernel_rfl) (by simp) ?_
        refine (AllReadyH.cons (o := { dst := some 13, op := Op.call { callee := Callee.value (Operand.func 17), args := #[], argTypes := #[] }, type := 30, pos := "check.go:43", after := #[], guard := none }) rfl (fun K hK => ?_) AllReadyH.nil)
        go_simp
        refine (EM.out _ HW.out.2.2.drew).mono ?_
        rintro e w1 ⟨rfl, hb1⟩
        have HB1 := hidk (HW.out.2.2.drew.trans (hb1.mono HW.out.2.2.size))
        go_wp2_with fail
        refine hK.out _ _ ⟨(hb1.block _ (heap_lt hHeld.1)).trans hHeld.1, (hb1.block _ (heap_lt hHeld.2)).trans hHeld.2⟩ (fun hHeld => ?_)
        clear hK K
        try simp only [Act.put, List.setIfInBounds_toArray, List.set_cons_zero, List.set_cons_succ]
        refine wpAnyH_take (i := 2) (oi := { dst := some 14, op := Op.binOp BinOp.neq 30 (Operand.tmp 12) (Operand.tmp 13) 30, type := 4, pos := "check.go:43", after := #[{ on := 0, ground := Ground.data }, { on := 1, ground := Ground.data }], guard := none }) (v := .bool false) rfl (by kernel_rfl) (by kernel_rfl) (by kernel_rfl) (fun _ _ _ h => h) (Or.inl ⟨by rfl, by intro W hSw; have := nq W; go_simp⟩) hHeld ?_
        try simp only [Act.put, List.setIfInBounds_toArray, List.set_cons_zero, List.set_cons_succ]
        refine wpAnyH_take (i := 3) (oi := { dst := some 15, op := Op.move (Operand.tmp 14), type := 4, pos := "check.go:43", after := #[{ on := 2, ground := Ground.data }, { on := 1, ground := Ground.chain }], guard := none }) (v := .bool false) rfl (by kernel_rfl) (by kernel_rfl) (by kernel_rfl) (fun _ _ _ h => h) (Or.inl ⟨by rfl, by intro W hSw; go_simp⟩) hHeld ?_
        try simp only [Act.put, List.setIfInBounds_toArray, List.set_cons_zero, List.set_cons_succ]
        refine wpAnyH_take (i := 4) (oi := { dst := some 16, op := Op.move (Operand.tmp 1), type := 3, pos := "check.go:43", after := #[{ on := 3, ground := Ground.guard }], guard := some (3, false) }) (v := .int .i64 n) rfl (by kernel_rfl) (by kernel_rfl) (by kernel_rfl) (fun _ _ _ h => h) (Or.inl ⟨by rfl, by intro W hSw; go_simp⟩) hHeld ?_
        try simp only [Act.put, List.setIfInBounds_toArray, List.set_cons_zero, List.set_cons_succ]
        refine wpAnyH_take (i := 5) (oi := { dst := some 17, op := Op.binOp BinOp.eql 3 (Operand.tmp 16) (Operand.const (Value.int IntKind.i64 0)) 3, type := 4, pos := "check.go:43", after := #[{ on := 4, ground := Ground.data }, { on := 3, ground := Ground.guard }], guard := some (3, false) }) (v := .bool false) rfl (by kernel_rfl) (by kernel_rfl) (by kernel_rfl) (fun _ _ _ h => h) (Or.inl ⟨by rfl, by intro W hSw; go_simp⟩) hHeld ?_
        try simp only [Act.put, List.setIfInBounds_toArray, List.set_cons_zero, List.set_cons_succ]
        refine wpAnyH_take (i := 6) (oi := { dst := some 18, op := Op.move (Operand.tmp 17), type := 4, pos := "check.go:43", after := #[{ on := 5, ground := Ground.data }, { on := 3, ground := Ground.chain }, { on := 3, ground := Ground.guard }], guard := some (3, false) }) (v := .bool false) rfl (by kernel_rfl) (by kernel_rfl) (by kernel_rfl) (fun _ _ _ h => h) (Or.inl ⟨by rfl, by intro W hSw; go_simp⟩) hHeld ?_
        try simp only [Act.put, List.setIfInBounds_toArray, List.set_cons_zero, List.set_cons_succ]
        refine wpAnyH_take (i := 7) (oi := { dst := some 19, op := Op.load 30 (Operand.tmp 6), type := 30, pos := "check.go:43", after := #[{ on := 6, ground := Ground.guard }], guard := some (6, true) }) (v := undef) rfl (by kernel_rfl) (by kernel_rfl) (by kernel_rfl) (fun _ _ _ h => h) (Or.inr ⟨by rfl, rfl⟩) hHeld ?_
        try simp only [Act.put, List.setIfInBounds_toArray, List.set_cons_zero, List.set_cons_succ]
        refine wpAnyH_take (i := 8) (oi := { dst := some 20, op := Op.load 30 (Operand.tmp 4), type := 30, pos := "check.go:43", after := #[{ on := 6, ground := Ground.guard }], guard := some (6, true) }) (v := undef) rfl (by kernel_rfl) (by kernel_rfl) (by kernel_rfl) (fun _ _ _ h => h) (Or.inr ⟨by rfl, rfl⟩) hHeld ?_
        try simp only [Act.put, List.setIfInBounds_toArray, List.set_cons_zero, List.set_cons_succ]
        refine wpAnyH_take (i := 9) (oi := { dst := some 21, op := Op.binOp BinOp.neq 30 (Operand.tmp 19) (Operand.tmp 20) 30, type := 4, pos := "check.go:43", after := #[{ on := 7, ground := Ground.data }, { on := 8, ground := Ground.data }, { on := 6, ground := Ground.guard }], guard := some (6, true) }) (v := undef) rfl (by kernel_rfl) (by kernel_rfl) (by kernel_rfl) (fun _ _ _ h => h) (Or.inr ⟨by rfl, rfl⟩) hHeld ?_
        try simp only [Act.put, List.setIfInBounds_toArray, List.set_cons_zero, List.set_cons_succ]
        refine wpAnyH_take (i := 10) (oi := { dst := some 22, op := Op.pick (Operand.tmp 18) (Operand.tmp 21) (Operand.const (Value.bool false)), type := 4, pos := "check.go:43", after := #[{ on := 6, ground := Ground.data }, { on := 9, ground := Ground.data }, { on := 3, ground := Ground.guard }], guard := some (3, false) }) (v := .bool false) rfl (by kernel_rfl) (by kernel_rfl) (by kernel_rfl) (fun _ _ _ h => h) (Or.inl ⟨by rfl, by intro W hSw; go_simp⟩) hHeld ?_
        try simp only [Act.put, List.setIfInBounds_toArray, List.set_cons_zero, List.set_cons_succ]
        refine wpAnyH_take (i := 11) (oi := { dst := some 23, op := Op.pick (Operand.tmp 15) (Operand.const (Value.bool true)) (Operand.tmp 22), type := 4, pos := "check.go:43", after := #[{ on := 3, ground := Ground.data }, { on := 10, ground := Ground.data }], guard := none }) (v := .bool false) rfl (by kernel_rfl) (by kernel_rfl) (by kernel_rfl) (fun _ _ _ h => h) (Or.inl ⟨by rfl, by intro W hSw; go_simp⟩) hHeld ?_
        try simp only [Act.put, List.setIfInBounds_toArray, List.set_cons_zero, List.set_cons_succ]
        refine wpAnyH_done (by kernel_rfl) ?_ _
        go_wp2
        go_ret
        exact ⟨rfl, HB1.out⟩
    · have nq : ∀ W, (binOp .neq 30 (.agg O) (.agg E)).run Tryd.prog W = .ok (.bool true) W := fun W => neqDigV _ _ ho (sumD_length _) O E HO HE true (by simp [hoe]) W
      rw [if_neg (fun h => hoe h.1)]
      clear hR hK hoe hn HO HR HE
      go_enter Tryd.func47, Tryd.ntmps47
      go_wp2
      refine wp_region_held_drew (S := (fun W => W.heap[w.heap.size]? = some (.cells O 30 (0, 0)) ∧ W.heap[w.heap.size + 1]? = some (.cells R 30 (0, 0)))) (by kernel_rfl) ⟨HW.out.1, HW.out.2.1⟩ (fun hHeld => ?_)
      refine wpAnyH_take (i := 0) (oi := { dst := some 12, op := Op.load 30 (Operand.tmp 4), type := 30, pos := "check.go:43", after := #[], guard := none }) (v := .agg O) rfl (by kernel_rfl) (by kernel_rfl) (by kernel_rfl) (fun _ _ _ h => h) (yieldsIf_row (by rfl) 30 (.tmp 4) rfl w.heap.size rfl 30 O (0, 0) _ (fun _ h => h.1) Tryd.underlying30 rfl HSO.out) hHeld ?_
      try simp only [Act.put, List.setIfInBounds_toArray, List.set_cons_zero, List.set_cons_succ]
      refine wpAnyH_ready (rs := [1]) (by kernel_rfl) (by simp) ?_
      refine (AllReadyH.cons (o := { dst := some 13, op := Op.call { callee := Callee.value (Operand.func 17), args := #[], argTypes := #[] }, type := 30, pos := "check.go:43", after := #[], guard := none }) rfl (fun K hK => ?_) AllReadyH.nil)
      go_simp
      refine (EM.out _ HW.out.2.2.drew).mono ?_
      rintro e w1 ⟨rfl, hb1⟩
      have HB1 := hidk (HW.out.2.2.drew.trans (hb1.mono HW.out.2.2.size))
      go_wp2_with fail
      refine hK.out _ _ ⟨(hb1.block _ (heap_lt hHeld.1)).trans hHeld.1, (hb1.block _ (heap_lt hHeld.2)).trans hHeld.2⟩ (fun hHeld => ?_)
      clear hK K
      try simp only [Act.put, List.setIfInBounds_toArray, List.set_cons_zero, List.set_cons_succ]
      refine wpAnyH_take (i := 2) (oi := { dst := some 14, op := Op.binOp BinOp.neq 30 (Operand.tmp 12) (Operand.tmp 13) 30, type := 4, pos := "check.go:43", after := #[{ on := 0, ground := Ground.data }, { on := 1, ground := Ground.data }], guard := none }) (v := .bool true) rfl (by kernel_rfl) (by kernel_rfl) (by kernel_rfl) (fun _ _ _ h => h) (Or.inl ⟨by rfl, by intro W hSw; have := nq W; go_simp⟩) hHeld ?_
      try simp only [Act.put, List.setIfInBounds_toArray, List.set_cons_zero, List.set_cons_succ]
      refine wpAnyH_take (i := 3) (oi := { dst := some 15, op := Op.move (Operand.tmp 14), type := 4, pos := "check.go:43", after := #[{ on := 2, ground := Ground.data }, { on := 1, ground := Ground.chain }], guard := none }) (v := .bool true) rfl (by kernel_rfl) (by kernel_rfl) (by kernel_rfl) (fun _ _ _ h => h) (Or.inl ⟨by rfl, by intro W hSw; go_simp⟩) hHeld ?_
      try simp only [Act.put, List.setIfInBounds_toArray, List.set_cons_zero, List.set_cons_succ]
      refine wpAnyH_take (i := 4) (oi := { dst := some 16, op := Op.move (Operand.tmp 1), type := 3, pos := "check.go:43", after := #[{ on := 3, ground := Ground.guard }], guard := some (3, false) }) (v := undef) rfl (by kernel_rfl) (by kernel_rfl) (by kernel_rfl) (fun _ _ _ h => h) (Or.inr ⟨by rfl, rfl⟩) hHeld ?_
      try simp only [Act.put, List.setIfInBounds_toArray, List.set_cons_zero, List.set_cons_succ]
      refine wpAnyH_take (i := 5) (oi := { dst := some 17, op := Op.binOp BinOp.eql 3 (Operand.tmp 16) (Operand.const (Value.int IntKind.i64 0)) 3, type := 4, pos := "check.go:43", after := #[{ on := 4, ground := Ground.data }, { on := 3, ground := Ground.guard }], guard := some (3, false) }) (v := undef) rfl (by kernel_rfl) (by kernel_rfl) (by kernel_rfl) (fun _ _ _ h => h) (Or.inr ⟨by rfl, rfl⟩) hHeld ?_
      try simp only [Act.put, List.setIfInBounds_toArray, List.set_cons_zero, List.set_cons_succ]
      refine wpAnyH_take (i := 6) (oi := { dst := some 18, op := Op.move (Operand.tmp 17), type := 4, pos := "check.go:43", after := #[{ on := 5, ground := Ground.data }, { on := 3, ground := Ground.chain }, { on := 3, ground := Ground.guard }], guard := some (3, false) }) (v := undef) rfl (by kernel_rfl) (by kernel_rfl) (by kernel_rfl) (fun _ _ _ h => h) (Or.inr ⟨by rfl, rfl⟩) hHeld ?_
      try simp only [Act.put, List.setIfInBounds_toArray, List.set_cons_zero, List.set_cons_succ]
      refine wpAnyH_take (i := 7) (oi := { dst := some 19, op := Op.load 30 (Operand.tmp 6), type := 30, pos := "check.go:43", after := #[{ on := 6, ground := Ground.guard }], guard := some (6, true) }) (v := undef) rfl (by kernel_rfl) (by kernel_rfl) (by kernel_rfl) (fun _ _ _ h => h) (Or.inr ⟨by rfl, rfl⟩) hHeld ?_
      try simp only [Act.put, List.setIfInBounds_toArray, List.set_cons_zero, List.set_cons_succ]
      refine wpAnyH_take (i := 8) (oi := { dst := some 20, op := Op.load 30 (Operand.tmp 4), type := 30, pos := "check.go:43", after := #[{ on := 6, ground := Ground.guard }], guard := some (6, true) }) (v := undef) rfl (by kernel_rfl) (by kernel_rfl) (by kernel_rfl) (fun _ _ _ h => h) (Or.inr ⟨by rfl, rfl⟩) hHeld ?_
      try simp only [Act.put, List.setIfInBounds_toArray, List.set_cons_zero, List.set_cons_succ]
      refine wpAnyH_take (i := 9) (oi := { dst := some 21, op := Op.binOp BinOp.neq 30 (Operand.tmp 19) (Operand.tmp 20) 30, type := 4, pos := "check.go:43", after := #[{ on := 7, ground := Ground.data }, { on := 8, ground := Ground.data }, { on := 6, ground := Ground.guard }], guard := some (6, true) }) (v := undef) rfl (by kernel_rfl) (by kernel_rfl) (by kernel_rfl) (fun _ _ _ h => h) (Or.inr ⟨by rfl, rfl⟩) hHeld ?_
      try simp only [Act.put, List.setIfInBounds_toArray, List.set_cons_zero, List.set_cons_succ]
      refine wpAnyH_take (i := 10) (oi := { dst := some 22, op := Op.pick (Operand.tmp 18) (Operand.tmp 21) (Operand.const (Value.bool false)), type := 4, pos := "check.go:43", after := #[{ on := 6, ground := Ground.data }, { on := 9, ground := Ground.data }, { on := 3, ground := Ground.guard }], guard := some (3, false) }) (v := undef) rfl (by kernel_rfl) (by kernel_rfl) (by kernel_rfl) (fun _ _ _ h => h) (Or.inr ⟨by rfl, rfl⟩) hHeld ?_
      try simp only [Act.put, List.setIfInBounds_toArray, List.set_cons_zero, List.set_cons_succ]
      refine wpAnyH_take (i := 11) (oi := { dst := some 23, op := Op.pick (Operand.tmp 15) (Operand.const (Value.bool true)) (Operand.tmp 22), type := 4, pos := "check.go:43", after := #[{ on := 3, ground := Ground.data }, { on := 10, ground := Ground.data }], guard := none }) (v := .bool true) rfl (by kernel_rfl) (by kernel_rfl) (by kernel_rfl) (fun _ _ _ h => h) (Or.inl ⟨by rfl, by intro W hSw; go_simp⟩) hHeld ?_
      try simp only [Act.put, List.setIfInBounds_toArray, List.set_cons_zero, List.set_cons_succ]
      refine wpAnyH_done (by kernel_rfl) ?_ _
      go_wp2
      go_ret
      exact ⟨rfl, HB1.out⟩
  · have hp : p ≠ [] := fun e => by rw [e] at hR; exact h0 (by have := hR.1; simpa using this.symm)
    rw [if_neg hp]
    have d0 : decide (0 < (len : Int)) = true := by rw [decide_eq_true_eq]; omega
    have d0' : decide (0 < len) = true := by rw [decide_eq_true_eq]; omega
    have hpos : 0 < len := by omega
    clear hR hK HO HR hp h0
    go_enter Tryd.func47, Tryd.ntmps47
    go_wp2
    go_ret
    exact ⟨rfl, HW.out.2.2⟩
theorem fiveC_new (w : World) (O R : Array Value) (m n : Int) (a : Option Addr) (len cap : Nat) : FiveC w.heap.size (w.heap.size + 1) (w.heap.size + 2) (w.heap.size + 3) (w.heap.size + 4) m O n R a len cap (((((w.alloc (.cells #[.int .i64 m] 3)).alloc (.cells O 30)).alloc (.cells #[.int .i64 n] 3)).alloc (.cells R 30)).alloc (.cells #[.slice a len cap] 26)) ∧ Below w.heap.size w (((((w.alloc (.cells #[.int .i64 m] 3)).alloc (.cells O 30)).alloc (.cells #[.int .i64 n] 3)).alloc (.cells R 30)).alloc (.cells #[.slice a len cap] 26)) := by
  refine ⟨⟨heap_keep (heap_keep (heap_keep (heap_keep (heap_alloc_new w _)))), heap_keep (heap_keep (heap_keep ?_)), heap_keep (heap_keep ?_), heap_keep ?_, ?_⟩, ?_⟩
  · have := heap_alloc_new (w.alloc (.cells #[.int .i64 m] 3)) (.cells O 30)
    simpa using this
  · have := heap_alloc_new ((w.alloc (.cells #[.int .i64 m] 3)).alloc (.cells O 30)) (.cells #[.int .i64 n] 3)
    simpa using this
  · have := heap_alloc_new (((w.alloc (.cells #[.int .i64 m] 3)).alloc (.cells O 30)).alloc (.cells #[.int .i64 n] 3)) (.cells R 30)
    simpa using this
  · have := heap_alloc_new ((((w.alloc (.cells #[.int .i64 m] 3)).alloc (.cells O 30)).alloc (.cells #[.int .i64 n] 3)).alloc (.cells R 30)) (.cells #[.slice a len cap] 26)
    simpa using this
  · exact ((((((Below.refl _ _).alloc (Nat.le_refl _) _).alloc (by simp) _).alloc (by simp; omega) _).alloc (by simp; omega) _).alloc (by simp; omega) _)
set_option maxHeartbeats 1000000 in
theorem consistent_out (m n : Int) (a : Option Addr) (len cap : Nat) (w : World) (O R : Array Value) (h : ¬ (0 ≤ n ∧ n ≤ 100000 ∧ 0 ≤ m ∧ m ≤ n)) :
    Calls Tryd.prog 15 #[.int .i64 m, .agg O, .int .i64 n, .agg R, .slice a len cap] w fun e w' => e = .returned (.int .i64 40) ∧ Below w.heap.size w w' := by
  have HB := hidk (fiveC_new w O R m n a len cap).2
  have hF := (fiveC_new w O R m n a len cap).1
  have hc1 := cell_of_one hF.first
  have hc2 := cell_of_one hF.all
  clear hF
  by_cases h1 : n < 0
  · have d1 : decide (n < 0) = true := by rw [decide_eq_true_eq]; exact h1
    clear h h1
    go_enter Tryd.func15, Tryd.ntmps15
    go_wp2
    go_ret
    exact ⟨rfl, HB.out⟩
  · have d1 : decide (n < 0) = false := by rw [decide_eq_false_iff_not]; exact h1
    by_cases h2 : 100000 < n
    · have d2 : decide (100000 < n) = true := by rw [decide_eq_true_eq]; exact h2
      clear h h1 h2
      go_enter Tryd.func15, Tryd.ntmps15
      go_wp2
      go_ret
      exact ⟨rfl, HB.out⟩
    · have d2 : decide (100000 < n) = false := by rw [decide_eq_false_iff_not]; exact h2
      by_cases h3 : m < 0
      · have d3 : decide (m < 0) = true := by rw [decide_eq_true_eq]; exact h3
        clear h h1 h2 h3
        go_enter Tryd.func15, Tryd.ntmps15
        go_wp2
        go_ret
        exact ⟨rfl, HB.out⟩
      · have d3 : decide (m < 0) = false := by rw [decide_eq_false_iff_not]; exact h3
        have d4 : decide (n < m) = true := by rw [decide_eq_true_eq]; omega
        clear h h1 h2 h3
        go_enter Tryd.func15, Tryd.ntmps15
        go_wp2
        go_ret
        exact ⟨rfl, HB.out⟩
set_option maxHeartbeats 1000000 in
theorem consistent_none (old : List UInt8) (n : Int) (root : List UInt8) (p : List (List UInt8)) (a : Option Addr) (len cap : Nat) (w : World) (O R : Array Value) (HO : Hid (O = (cellsOf old).toArray)) (HR : Hid (R = (cellsOf root).toArray)) (ho : old.length = 32) (hr : root.length = 32) (hn : 0 ≤ n ∧ n ≤ 100000) (hR : LReads w a len cap p) (hK : Table 0 w) :
    Calls Tryd.prog 15 #[.int .i64 0, .agg O, .int .i64 n, .agg R, .slice a len cap] w fun e w' => e = .returned (.int .i64 (conE 0 old n root p)) ∧ Below w.heap.size w w' := by
  have HSO : Hid ((Tryd.prog.info? 30).map (·.size) = some O.size) := by show _ = _; rw [size23, HO.out]; simp [cellsOf_length, ho]
  have HSR : Hid ((Tryd.prog.info? 30).map (·.size) = some R.size) := by show _ = _; rw [size23, HR.out]; simp [cellsOf_length, hr]
  have HF := hidk (fiveC_new w O R 0 n a len cap)
  have hc1 := cell_of_one HF.out.1.first
  have hc2 := cell_of_one HF.out.1.all
  have hc3 := cell_of_one HF.out.1.proof
  have EM : Hid (∀ W, Below w.heap.size w W → Calls Tryd.prog 47 #[.agg O, .int .i64 n, .agg R, .slice a len cap] W fun e w' => e = .returned (.int .i64 (conE 0 old n root p)) ∧ Below W.heap.size W w') := fun W hb => empty_from old n root p a len cap W O R HO HR ho hr hn (hR.keep hb) (hK.keep hb)
  have d1 : decide (n < 0) = false := by rw [decide_eq_false_iff_not]; omega
  have d2 : decide (100000 < n) = false := by rw [decide_eq_false_iff_not]; omega
  obtain ⟨E, hE⟩ : ∃ E, E = conE 0 old n root p := ⟨_, rfl⟩
  rw [← hE] at EM ⊢
  clear hK hR hE hn HO HR
  go_enter Tryd.func15, Tryd.ntmps15
  go_wp2_with (first
    | (show wpList _ _ _ ({ dst := some 28, op := _, type := _, pos := _, after := _, guard := _ } :: _) _ _; refine wpList_load_row rfl 30 (.tmp 6) rfl (w.heap.size + 1) rfl 30 O (0, 0) _ HF.out.1.old Tryd.underlying30 rfl HSO.out ?_; try simp only [Act.put, List.setIfInBounds_toArray, List.set_cons_zero, List.set_cons_succ])
    | (show wpList _ _ _ ({ dst := some 30, op := _, type := _, pos := _, after := _, guard := _ } :: _) _ _; refine wpList_load_row rfl 30 (.tmp 8) rfl (w.heap.size + 3) rfl 30 R (0, 0) _ HF.out.1.root Tryd.underlying30 rfl HSR.out ?_; try simp only [Act.put, List.setIfInBounds_toArray, List.set_cons_zero, List.set_cons_succ])
    | fail)
  refine (EM.out _ HF.out.2).mono ?_
  rintro e w2 ⟨rfl, hb2⟩
  have HB2 := hidk (HF.out.2.trans (hb2.mono HF.out.2.size))
  clear hb2 EM HF hc1 hc2 hc3
  go_wp2
  go_ret
  exact ⟨rfl, HB2.out⟩
set_option maxHeartbeats 1000000 in
theorem consistent_some (M : Nat) (old : List UInt8) (N : Nat) (root : List UInt8) (p : List (List UInt8)) (a : Option Addr) (len cap : Nat) (w : World) (O R : Array Value) (HO : Hid (O = (cellsOf old).toArray)) (HR : Hid (R = (cellsOf root).toArray)) (ho : old.length = 32) (hr : root.length = 32) (hM1 : 1 ≤ M) (hMN : M ≤ N) (hN : N ≤ 100000) (hR : LReads w a len cap p) (hK : Table 0 w) :
    Calls Tryd.prog 15 #[.int .i64 M, .agg O, .int .i64 N, .agg R, .slice a len cap] w fun e w' => e = .returned (.int .i64 (conE M old N root p)) ∧ Below w.heap.size w w' := by
  have hmf : ∀ (fn : Fn) (first cap : Array Value) (w : World), (Instr.makeFunc fn first cap).run Tryd.prog w = .ok (.func fn first cap) w := fun _ _ _ _ => rfl
  have HF := hidk (fiveC_new w O R M N a len cap)
  have hc1 := cell_of_one HF.out.1.first
  have hc2 := cell_of_one HF.out.1.all
  have HD : Hid (∀ W, (((((w.alloc (.cells #[.int .i64 (M : Int)] 3)).alloc (.cells O 30)).alloc (.cells #[.int .i64 (N : Int)] 3)).alloc (.cells R 30)).alloc (.cells #[.slice a len cap] 26)) = W → Calls Tryd.prog 44 #[.func (.func 48) #[] #[.pointer (some ⟨w.heap.size, 0, none⟩), .pointer (some ⟨(w.heap.size + 2), 0, none⟩), .pointer (some ⟨(w.heap.size + 1), 0, none⟩), .pointer (some ⟨(w.heap.size + 4), 0, none⟩), .pointer (some ⟨(w.heap.size + 3), 0, none⟩)]] W fun e w' => e = .returned (.int .i64 (conE M old N root p)) ∧ Below W.heap.size W w') := fun W hW => by
    subst hW
    rw [conE_in M old N root p hM1 hMN hN]
    by_cases hm : (bothR p.reverse M N old true).2.2 = true
    · rw [if_pos hm]
      have := held_ok 48 _ _ (decide ((bothR p.reverse M N old true).1 = old ∧ (bothR p.reverse M N old true).2.1 = root)) (fun _ => by simp [go_sem]) (fun W' hb => cons1_ok root M N old p a len cap _ _ _ _ _ W' R O HR hr HO ho hM1 hMN hN (HF.out.1.keep hb) ((hR.keep HF.out.2).keep hb) ((hK.keep HF.out.2).keep hb) hm)
      simpa using this
    · rw [if_neg hm]
      exact held_no 48 _ _ (fun _ => by simp [go_sem]) (fun W' hb => cons1_no M N old p a len cap _ _ _ _ _ W' R O HO ho hM1 hMN hN (HF.out.1.keep hb) ((hR.keep HF.out.2).keep hb) (by simpa using hm))
  have d1 : decide ((N : Int) < 0) = false := by rw [decide_eq_false_iff_not]; omega
  have d2 : decide (100000 < (N : Int)) = false := by rw [decide_eq_false_iff_not]; omega
  have d2' : decide (100000 < N) = false := by rw [decide_eq_false_iff_not]; omega
  have d3 : decide ((M : Int) < 0) = false := by rw [decide_eq_false_iff_not]; omega
  have d4 : decide ((N : Int) < (M : Int)) = false := by rw [decide_eq_false_iff_not]; omega
  have d4' : decide (N < M) = false := by rw [decide_eq_false_iff_not]; omega
  have d5 : ((M : Int) == 0) = false := by rw [beq_eq_false_iff_ne]; omega
  obtain ⟨E, hE⟩ : ∃ E, E = conE M old N root p := ⟨_, rfl⟩
  rw [← hE] at HD ⊢
  have HB := hidk HF.out.2
  clear hK hR HF hE
  go_enter Tryd.func15, Tryd.ntmps15
  go_wp2_with fail
  refine (HD.out _ rfl).mono ?_
  rintro e w2 ⟨rfl, hb2⟩
  have HB2 := hidk (HB.out.trans (hb2.mono HB.out.size))
  clear hb2 HD
  go_wp2
  go_ret
  exact ⟨rfl, HB2.out⟩
end Go.Proofs.YtdnhnjimhbbababDoor

/- What the calls of package check answer, where Clash is not reached. -/
namespace Go.Proofs.YtdnhnjimhbbababDoor
open Go.RowKit Sums
set_option maxRecDepth 100000
set_option linter.unusedVariables false
theorem included_any (root : List UInt8) (size index : Int) (x : List UInt8) (p : List (List UInt8)) (a : Option Addr) (len cap : Nat) (w : World) (R X : Array Value) (HR : Hid (R = (cellsOf root).toArray)) (HX : Hid (X = (cellsOf x).toArray)) (hr : root.length = 32) (hx : x.length = 32) (hR : LReads w a len cap p) (hK : Table 0 w) :
    Calls Tryd.prog 14 #[.agg R, .int .i64 size, .int .i64 index, .agg X, .slice a len cap] w fun e w' => e = .returned (.int .i64 (incE root size index x p)) ∧ Below w.heap.size w w' := by
  by_cases h : 1 ≤ size ∧ size ≤ 100000 ∧ 0 ≤ index ∧ index < size
  · obtain ⟨S, rfl⟩ : ∃ S : Nat, size = S := ⟨size.toNat, by omega⟩
    obtain ⟨I, rfl⟩ : ∃ I : Nat, index = I := ⟨index.toNat, by omega⟩
    exact included_in root S I x p a len cap w R X HR hr HX hx (by omega) (by omega) (by omega) hR hK
  · rw [incE_out root size index x p h]
    exact included_out root size index a len cap w R X h
theorem checkC : CheckC where
  included := fun root size index leaf proof a len cap w R X HR HX hr hx hs hi hR hK => included_any root size index leaf proof a len cap w R X HR HX hr hx hR hK.sha
  consistent := fun m old n root proof a len cap w O R HO HR ho hr hm hn hR hK => by
    by_cases h : 0 ≤ n ∧ n ≤ 100000 ∧ 0 ≤ m ∧ m ≤ n
    · by_cases h0 : m = 0
      · subst h0
        exact consistent_none old n root proof a len cap w O R HO HR ho hr (by omega) hR hK.sha
      · obtain ⟨M, rfl⟩ : ∃ M : Nat, m = M := ⟨m.toNat, by omega⟩
        obtain ⟨N, rfl⟩ : ∃ N : Nat, n = N := ⟨n.toNat, by omega⟩
        exact consistent_some M old N root proof a len cap w O R HO HR ho hr (by omega) (by omega) (by omega) hR hK.sha
    · rw [conE_out m old n root proof h]
      exact consistent_out m n a len cap w O R h
end Go.Proofs.YtdnhnjimhbbababDoor

/- The table of math/bits that is laid as its text lays it can be read. -/
namespace Go.Proofs.YtdnhnjimhbbababDoor
open Go.RowKit Sums
set_option maxRecDepth 100000
theorem btab_reads {H : Type} {enc : TypeId × Value → H} {W : World} {sp : Nat → Bool} {held : Bool} {n : String} {g fuel base : Nat} {cs : Array Value} {p : List MemPlace} (hg : Tryd.prog.globalNamed n = some g) (hv : W.var? Tryd.prog n = some cs)
    (hd : DataW.trod enc Tryd.prog W base sp held fuel 143 cs.toList = some (.agg (Lib.deBruijn64tab.map fun z => .lit (.int .u8 (z : Nat))), p)) : BTab g W := by
  obtain ⟨xs, m, rfl, hx, hl, hxl, hall⟩ := DataW.trod_array Tryd.underlying143 hd
  have h1 : Tryd.prog.cellsOf 5 = 1 := by kernel_rfl
  have h64 : Tryd.prog.cellsOf 143 = 64 := by kernel_rfl
  rw [h64] at hl
  rw [h1] at hall
  simp only [Nat.mul_one] at hall
  simp only [Prod.mk.injEq, DataW.agg.injEq] at hx
  have cell : ∀ k, k < 64 → W.cell? ⟨g, k, none⟩ = some (.int .u8 (Lib.deBruijn64tab.getD k 0 : Nat)) := by
    intro k hk
    have hkT : k < Lib.deBruijn64tab.length := hk
    have hk' := hall k hk
    rw [List.getElem?_eq_getElem (by omega)] at hk'
    obtain ⟨z, hz, he, _⟩ := DataW.trod_int Tryd.underlying5 hk'
    have e : (cs.toList.drop k).take 1 = [cs.toList[k]'(by omega)] := by
      rw [List.drop_eq_getElem_cons (by omega)]; rfl
    rw [e] at hz
    simp only [List.cons.injEq, and_true] at hz
    have hk2 : (Lib.deBruijn64tab.map fun (z : Nat) => (DataW.lit (.int .u8 (z : Int)) : DataW H))[k]? = (xs.map (·.1))[k]? := by rw [hx.1]
    rw [List.getElem?_map, List.getElem?_map, List.getElem?_eq_getElem (show k < xs.length by omega), List.getElem?_eq_getElem hkT] at hk2
    simp only [Option.map_some, Option.some.injEq] at hk2
    rw [he] at hk2
    have hzk : ((Lib.deBruijn64tab[k]'hkT : Nat) : Int) = z := (Lit.int.inj (DataW.lit.inj hk2)).2
    rw [World.var?_cell hg hv k]
    have : cs[k]? = some (cs.toList[k]'(by omega)) := by
      rw [← Array.getElem?_toList, List.getElem?_eq_getElem (by omega)]
    rw [this, hz, ← hzk]
    simp [List.getD, List.getElem?_eq_getElem hkT]
  refine ⟨World.block_lt_of_cell? _ _ (cell 0 (by decide)), cell⟩
end Go.Proofs.YtdnhnjimhbbababDoor

/- A slice of texts that came in can be read. -/
namespace Go.Proofs.YtdnhnjimhbbababDoor
open Go.RowKit Go.ChangeShapes Go.WideShapes
set_option maxRecDepth 100000
theorem open_texts {H : Type} {enc : TypeId × Value → H} {W : World} {a : Option Addr} {len cap : Nat} {d : DataW H} {p : List MemPlace} (h : DataW.Trod enc Tryd.prog W 0 (fun _ => true) true 22 (.slice a len cap) d p) :
    ∃ ss : List ByteArray, Texts W a len ss ∧ (∀ s ∈ ss, s.size ≤ maxLen) ∧ len ≤ maxLen := by
  obtain ⟨fuel, hf⟩ := h
  rcases open_strings Tryd.underlying22 Tryd.underlying9 (show Tryd.prog.cellsOf 9 = 1 by kernel_rfl) hf with ⟨hcs, _⟩ | ⟨a', len', cap', ss, hcs, _, hl, hm, hz, _, hcell, hsz⟩
  · simp [Value.cells] at hcs
    obtain ⟨rfl, rfl, rfl⟩ := hcs
    exact ⟨[], ⟨rfl, .inl rfl⟩, fun s hs => by simp at hs, Nat.zero_le _⟩
  · simp [Value.cells] at hcs
    obtain ⟨rfl, rfl, rfl⟩ := hcs
    simp only [if_true] at hz
    obtain ⟨b, off, spot⟩ := a'
    refine ⟨ss.take len, ⟨by simp; omega, ?_⟩, fun s hs => hsz s (List.mem_of_mem_take hs), by omega⟩
    by_cases h0 : len = 0
    · exact .inl h0
    · have hspot : spot = none := by simpa [Addr.add] using World.cell?_spot (hcell 0 (by omega))
      subst hspot
      refine .inr ⟨b, off, rfl, ?_, fun i hi => ?_⟩
      · have := World.block_lt_of_cell? _ _ (hcell 0 (by omega))
        rw [add_plain] at this
        exact this
      · have hi' : i < ss.length := by simp at hi; omega
        have := hcell i hi'
        rw [add_plain] at this
        rw [this]
        simp [List.getD, List.getElem?_eq_getElem hi']
end Go.Proofs.YtdnhnjimhbbababDoor

/- TopSigned over the landed packages, and over the tables that its row lays. -/
namespace Go.Proofs.YtdnhnjimhbbababDoor
open Go.RowKit Sums
set_option maxRecDepth 100000
theorem topSigned_walk (a0 : Option Addr) (len0 cap0 : Nat) (z0 : List ByteArray) (z1 : List UInt8) (a2 a3 : Int) (w : World) (w0 : Texts w a0 len0 z0 ∧ (∀ s ∈ z0, s.size ≤ maxLen) ∧ len0 ≤ maxLen) (w1 : z1.length = 32) (_ : (Lit.int .i64 a2).wf = true) (_ : (Lit.int .i64 a3).wf = true) (_ : True) (hB : BTab 2 w) (hR : Table 0 w) :
    Calls Tryd.prog 3 #[.slice a0 len0 cap0, digV z1, .int .i64 a2, .int .i64 a3] w fun e w' => e = .returned (.bool true) ∧ Below w.heap.size w w' :=
  topSigned_of P7.headC frontC checkC a0 len0 cap0 z0 z1 a2 a3 w w0.1 w0.2.2 w1 ⟨hR, hB⟩
end Go.Proofs.YtdnhnjimhbbababDoor

/- A key that came in is 32 bytes. -/
namespace Go.Proofs.YtdnhnjimhbbababDoor
open Go.RowKit Sums
set_option maxRecDepth 100000
theorem okWide_key {W : World} {base : Nat} {r : Reach} {v : Value} (h : Value.okWide Tryd.prog W r base 24 v) : ∃ cs, v = .agg cs := by
  simp only [Value.okWide, Tryd.underlying24] at h
  obtain ⟨cs, h1, _⟩ := h
  exact ⟨cs, h1⟩
theorem open_key {H : Type} {enc : TypeId × Value → H} {W : World} {base base' : Nat} {r : Reach} {sp : Nat → Bool} {held : Bool} {v : Value} {d : DataW H} {p : List MemPlace}
    (hv : Value.okWide Tryd.prog W r base' 24 v) (h : DataW.Trod enc Tryd.prog W base sp held 24 v d p) : ∃ l : List UInt8, l.length = 32 ∧ v = digV l := by
  obtain ⟨cs, rfl⟩ := okWide_key hv
  obtain ⟨fuel, hf⟩ := h
  obtain ⟨xs, m, rfl, _, hl, hx, hall⟩ := DataW.trod_array Tryd.underlying24 hf
  have h1 : Tryd.prog.cellsOf 5 = 1 := by kernel_rfl
  have h32 : Tryd.prog.cellsOf 24 = 32 := by kernel_rfl
  rw [h32] at hl
  rw [h1] at hall
  simp only [Nat.mul_one] at hall
  have hc : (Value.agg cs).cells.toList = cs.toList := rfl
  rw [hc] at hl hall
  have each : ∀ i, (hi : i < cs.toList.length) → ∃ b : UInt8, cs.toList[i] = .int .u8 b.toNat := by
    intro i hi
    have := hall i (by omega)
    rw [List.getElem?_eq_getElem (by omega)] at this
    obtain ⟨z, hz, _, hwf⟩ := DataW.trod_int Tryd.underlying5 this
    have e : (cs.toList.drop i).take 1 = [cs.toList[i]] := by
      rw [List.drop_eq_getElem_cons hi]; rfl
    rw [e] at hz
    simp at hz
    have hb := bounds_u8 hwf
    refine ⟨UInt8.ofNat z.toNat, ?_⟩
    rw [UInt8.toNat_ofNat', show ((z.toNat % 2 ^ 8 : Nat) : Int) = z by omega]
    simpa using hz
  refine ⟨cs.toList.map fun v => match v with | .int _ n => UInt8.ofNat n.toNat | _ => 0, by simp; simpa using hl, ?_⟩
  unfold digV
  congr 1
  apply Array.ext'
  simp only
  unfold cellsOf
  rw [List.map_map]
  apply List.ext_getElem
  · simp
  · intro i h1 h2
    obtain ⟨b, hb⟩ := each i h1
    rw [List.getElem_map]
    rw [hb]
    simp
end Go.Proofs.YtdnhnjimhbbababDoor
