/- What check.leafMakes answers: what a leaf and a proof make, and the knots on the way; or it gives up. -/
import Derived.Test.YtehfoeedlchphaaDoorDowns
namespace Go.Proofs.YtehfoeedlchphaaDoor
open Go.RowKit Sums
set_option linter.unusedVariables false
set_option linter.unusedSimpArgs false

attribute [local go_sem] store_func

set_option maxHeartbeats 1000000 in
theorem leafMakes_no (S I : Nat) (x : List UInt8) (p : List (List UInt8)) (a : Option Addr) (len cap : Nat) (w : World) (X : Array Value) (hS1 : 1 ≤ S) (hS : S ≤ 100000) (hI : I < S) (hR : LReads w a len cap p) (hm : (mkR p.reverse S I x).2 = false) :
    Calls Tryd.prog 24 #[.int .i64 S, .int .i64 I, .agg X, .slice a len cap] w fun e w' => (∃ u p, e = .panicked [{ v := .iface u p, recovered := false }]) ∧ Below w.heap.size w w' := by
  have hmf : ∀ (fn : Fn) (first cap : Array Value) (w : World), (Instr.makeFunc fn first cap).run Tryd.prog w = .ok (.func fn first cap) w := fun _ _ _ _ => rfl
  obtain ⟨Z, HZ, HA, HS, H1, H32⟩ := noughts27
  have DN : Hid (∀ W gf gk, Below w.heap.size w W → W.heap[gf]? = some (.cells #[.func (.func 42) #[] #[.pointer (some ⟨w.heap.size, 0, none⟩), .pointer (some ⟨gf, 0, none⟩), .pointer (some ⟨gk, 0, none⟩)]] 72 (0, 0)) → Calls Tryd.prog 42 #[.int .i64 S, .int .i64 I, .slice a len cap, .pointer (some ⟨w.heap.size, 0, none⟩), .pointer (some ⟨gf, 0, none⟩), .pointer (some ⟨gk, 0, none⟩)] W fun e w' => (∃ u p, e = .panicked [{ v := .iface u p, recovered := false }]) ∧ Below W.heap.size W w') := fun W gf gk hb hf =>
    down_no p.reverse S I x a len cap w.heap.size gf gk W hS1 hS hI (by rw [List.reverse_reverse]; exact hR.keep hb) hf hm
  clear hm hR
  go_enter Tryd.func24, Tryd.ntmps24
  go_wp2_with (first
    | (show wpList _ _ _ ({ dst := some 8, op := _, type := _, pos := _, after := _, guard := _ } :: _) _ _; refine wpList_new_var rfl 23 rfl Z HA.out ?_; intro g8 w1 HM8; try simp only [Act.put, List.setIfInBounds_toArray, List.set_cons_zero, List.set_cons_succ])
    | fail)
  have h1s : w.heap.size + 1 < w1.heap.size := by have := heap_lt HM8.out.row; have e := HM8.out.new; simp at e; omega
  have h8a : w.heap.size < g8 := by have e := HM8.out.new; simp at e; omega
  have h8b : g8 < w1.heap.size := heap_lt HM8.out.row
  have HL1 := hidk ((HM8.out.below.block _ (by simp)).trans (heap_alloc_new w (.cells X 23)))
  have HB1 : Hid (Below w.heap.size w w1) := ((Below.refl _ _).alloc (Nat.le_refl _) _).trans (HM8.out.below.mono (by simp))
  have HB2 : Hid (Below w.heap.size w ((w1.alloc (.cells #[.slice none 0 0] 43)).alloc (.cells #[.func (.func 42) #[] #[.pointer (some ⟨w.heap.size, 0, none⟩), .pointer (some ⟨w1.heap.size + 1, 0, none⟩), .pointer (some ⟨w1.heap.size, 0, none⟩)]] 72))) := (HB1.out.alloc (by omega) _).alloc (by simp; omega) _
  have HF2 : Hid (((w1.alloc (.cells #[.slice none 0 0] 43)).alloc (.cells #[.func (.func 42) #[] #[.pointer (some ⟨w.heap.size, 0, none⟩), .pointer (some ⟨w1.heap.size + 1, 0, none⟩), .pointer (some ⟨w1.heap.size, 0, none⟩)]] 72)).heap[w1.heap.size + 1]? = some (.cells #[.func (.func 42) #[] #[.pointer (some ⟨w.heap.size, 0, none⟩), .pointer (some ⟨w1.heap.size + 1, 0, none⟩), .pointer (some ⟨w1.heap.size, 0, none⟩)]] 72 (0, 0))) := heap_alloc2_new w1 _ _
  refine (DN.out _ _ _ HB2.out HF2.out).mono ?_
  rintro e w2 ⟨⟨u, q, rfl⟩, hb2⟩
  exact ⟨rfl, ⟨_, _, rfl⟩, HB2.out.trans (hb2.mono HB2.out.size)⟩
set_option maxHeartbeats 2000000 in
theorem leafMakes_ok (S I : Nat) (x : List UInt8) (p : List (List UInt8)) (a : Option Addr) (len cap : Nat) (w : World) (X : Array Value) (HX : Hid (X = (cellsOf x).toArray)) (hx : x.length = 32) (hS1 : 1 ≤ S) (hS : S ≤ 100000) (hI : I < S) (hR : LReads w a len cap p) (hK : Table 0 w) (hm : (mkR p.reverse S I x).2 = true) (M : Array Value) (HM : Hid (M = (cellsOf (mkR p.reverse S I x).1).toArray)) :
    Calls Tryd.prog 24 #[.int .i64 S, .int .i64 I, .agg X, .slice a len cap] w fun e w' => ∃ v, e = .returned (.tuple #[.agg M, v]) ∧ w'.ownsRow w.heap.size 57 64 v (kn p.reverse S I x).length (cellsOf (kn p.reverse S I x).flatten) ∧ Below w.heap.size w w' := by
  have hmf : ∀ (fn : Fn) (first cap : Array Value) (w : World), (Instr.makeFunc fn first cap).run Tryd.prog w = .ok (.func fn first cap) w := fun _ _ _ _ => rfl
  obtain ⟨Z, HZ, HA, HS, H1, H32⟩ := noughts27
  have hsh : p.length ≤ 17 := by
    have := mkR_short 17 p.reverse S I x hS1 (by omega) hm
    rwa [List.length_reverse] at this
  have HSM : Hid ((Tryd.prog.info? 23).map (·.size) = some M.size) := by show _ = _; rw [size23, HM.out]; simp [cellsOf_length, mkR_length sumD_length _ _ _ _ hx]
  have H1M : Hid (M.all (·.oneCell') = true) := by show _ = _; rw [HM.out]; exact cellsOf_all _
  have HZM : Hid (Z.size = M.size) := by show _ = _; rw [H32.out, HM.out]; simp [cellsOf_length, mkR_length sumD_length _ _ _ _ hx]
  have DN : Hid (∀ W gf gk, Below w.heap.size w W → w.heap.size ≤ gk → w.heap.size ≠ gk → gf ≠ gk → KH w.heap.size w.heap.size gf gk X (.func (.func 42) #[] #[.pointer (some ⟨w.heap.size, 0, none⟩), .pointer (some ⟨gf, 0, none⟩), .pointer (some ⟨gk, 0, none⟩)]) (.slice none 0 0) [] W → Calls Tryd.prog 42 #[.int .i64 S, .int .i64 I, .slice a len cap, .pointer (some ⟨w.heap.size, 0, none⟩), .pointer (some ⟨gf, 0, none⟩), .pointer (some ⟨gk, 0, none⟩)] W fun e w' => e = .returned (.agg M) ∧ ∃ v', KH w.heap.size w.heap.size gf gk X (.func (.func 42) #[] #[.pointer (some ⟨w.heap.size, 0, none⟩), .pointer (some ⟨gf, 0, none⟩), .pointer (some ⟨gk, 0, none⟩)]) v' (kn p.reverse S I x) w' ∧ Grew gk (.slice none 0 0) v' W w') := fun W gf gk hb hk1 hk2 hk3 hH => by
    have := down_ok p.reverse S I x [] a len cap w.heap.size w.heap.size gf gk (.slice none 0 0) W X HX hx hS1 hS hI (by rw [List.reverse_reverse]; exact hR.keep hb) hH hk2 hk3 hk1 hb.size (by simp; omega) (hK.keep hb) hK.1 hm M HM
    rwa [List.nil_append] at this
  obtain ⟨KL, HKL⟩ : ∃ y, Hid (y = kn p.reverse S I x) := ⟨_, (rfl : kn p.reverse S I x = _)⟩
  rw [← HKL.out] at DN ⊢
  clear hm hR hK HM HKL hsh
  go_enter Tryd.func24, Tryd.ntmps24
  go_wp2_with (first
    | (show wpList _ _ _ ({ dst := some 8, op := _, type := _, pos := _, after := _, guard := _ } :: _) _ _; refine wpList_new_var rfl 23 rfl Z HA.out ?_; intro g8 w1 HM8; try simp only [Act.put, List.setIfInBounds_toArray, List.set_cons_zero, List.set_cons_succ])
    | fail)
  have h1s : w.heap.size + 1 < w1.heap.size := by have := heap_lt HM8.out.row; have e := HM8.out.new; simp at e; omega
  have h8a : w.heap.size < g8 := by have e := HM8.out.new; simp at e; omega
  have h8b : g8 < w1.heap.size := heap_lt HM8.out.row
  have HL1 := hidk ((HM8.out.below.block _ (by simp)).trans (heap_alloc_new w (.cells X 23)))
  have HB1 : Hid (Below w.heap.size w w1) := ((Below.refl _ _).alloc (Nat.le_refl _) _).trans (HM8.out.below.mono (by simp))
  have HB2 : Hid (Below w.heap.size w ((w1.alloc (.cells #[.slice none 0 0] 43)).alloc (.cells #[.func (.func 42) #[] #[.pointer (some ⟨w.heap.size, 0, none⟩), .pointer (some ⟨w1.heap.size + 1, 0, none⟩), .pointer (some ⟨w1.heap.size, 0, none⟩)]] 72))) := (HB1.out.alloc (by omega) _).alloc (by simp; omega) _
  have HF2 : Hid (((w1.alloc (.cells #[.slice none 0 0] 43)).alloc (.cells #[.func (.func 42) #[] #[.pointer (some ⟨w.heap.size, 0, none⟩), .pointer (some ⟨w1.heap.size + 1, 0, none⟩), .pointer (some ⟨w1.heap.size, 0, none⟩)]] 72)).heap[w1.heap.size + 1]? = some (.cells #[.func (.func 42) #[] #[.pointer (some ⟨w.heap.size, 0, none⟩), .pointer (some ⟨w1.heap.size + 1, 0, none⟩), .pointer (some ⟨w1.heap.size, 0, none⟩)]] 72 (0, 0))) := heap_alloc2_new w1 _ _
  have HKH : Hid (KH w.heap.size w.heap.size (w1.heap.size + 1) w1.heap.size X (.func (.func 42) #[] #[.pointer (some ⟨w.heap.size, 0, none⟩), .pointer (some ⟨w1.heap.size + 1, 0, none⟩), .pointer (some ⟨w1.heap.size, 0, none⟩)]) (.slice none 0 0) [] ((w1.alloc (.cells #[.slice none 0 0] 43)).alloc (.cells #[.func (.func 42) #[] #[.pointer (some ⟨w.heap.size, 0, none⟩), .pointer (some ⟨w1.heap.size + 1, 0, none⟩), .pointer (some ⟨w1.heap.size, 0, none⟩)]] 72))) := ⟨heap_keep (heap_keep HL1.out), HF2.out, heap_alloc2_old w1 _ _, World.ownsRow_nil _ _ _ _⟩
  have HR8 : Hid (((w1.alloc (.cells #[.slice none 0 0] 43)).alloc (.cells #[.func (.func 42) #[] #[.pointer (some ⟨w.heap.size, 0, none⟩), .pointer (some ⟨w1.heap.size + 1, 0, none⟩), .pointer (some ⟨w1.heap.size, 0, none⟩)]] 72)).heap[g8]? = some (.cells Z 23 (0, 0))) := heap_keep (heap_keep HM8.out.row)
  refine (DN.out _ _ _ HB2.out (by omega) (by omega) (by omega) HKH.out).mono ?_
  rintro e w2 ⟨rfl, v2, hH2, hG2⟩
  have HB3 := hidk (hG2.below HB2.out.size (by omega) (fun q e => by simp [Value.ownBlock] at e))
  have HR82 := hidk ((hG2.block g8 (by simp; omega) (by omega) (by simp [Value.ownBlock])).trans HR8.out)
  have HH2 := hidk hH2
  have h2s : w1.heap.size + 1 < w2.heap.size := heap_lt hH2.fn
  clear hH2 hG2 HKH HR8 HF2 HL1 HM8 DN
  go_wp2_with (first
    | (show wpList _ _ _ ({ dst := some 12, op := _, type := _, pos := _, after := _, guard := _ } :: _) _ _; refine wpList_new_var rfl 23 rfl Z HA.out ?_; intro g12 w3 HM12; try simp only [Act.put, List.setIfInBounds_toArray, List.set_cons_zero, List.set_cons_succ])
    | (refine wpList_set_var rfl 23 (.tmp 12) (.tmp 18) rfl g12 M rfl rfl 23 Z HM12.out.row HSM.out HZM.out H1M.out ?_; intro w4 HW12; try simp only [Act.put, List.setIfInBounds_toArray, List.set_cons_zero, List.set_cons_succ])
    | fail)
  have hg12 : w2.heap.size ≤ g12 := Nat.le_of_eq HM12.out.new.symm
  have hb2 : w.heap.size + 1 < w2.heap.size := by omega
  have HH3 := hidk (HH2.out.keep HM12.out.below)
  have HH4 := hidk (HH3.out.wrote HW12.out (by omega) (by omega) (by omega) (own_apart HH3.out.own HM12.out.row (by decide)))
  have HB4 := hidk (HW12.out.below w.heap.size w ((HB2.out.trans HB3.out).trans (HM12.out.below.mono (by omega))) (by omega))
  have HR84 := hidk ((HW12.out.other g8 (by omega)).trans ((HM12.out.below.block _ (heap_lt HR82.out)).trans HR82.out))
  have HR12 := hidk HW12.out.row
  clear HH2 HH3 HM12 HW12 HR82 HB3
  refine wp_region_held_drew (S := (fun W => W.heap[g12]? = some (.cells M 23 (0, 0)) ∧ W.cell? ⟨w1.heap.size, 0, none⟩ = some v2)) (by kernel_rfl) ⟨HR12.out, cell_of_one HH4.out.drew.var⟩ (fun hHeld => ?_)
  refine wpAnyH_take (i := 0) (oi := { dst := some 19, op := Op.load 23 (Operand.tmp 12), type := 23, pos := "check.go:109", after := #[], guard := none }) (v := .agg M) rfl (by kernel_rfl) (by kernel_rfl) (by kernel_rfl) (fun _ _ _ h => h) (yieldsIf_row (by rfl) 23 (.tmp 12) rfl g12 rfl 23 M (0, 0) _ (fun _ h => h.1) Tryd.underlying23 rfl HSM.out) hHeld ?_
  try simp only [Act.put, List.setIfInBounds_toArray, List.set_cons_zero, List.set_cons_succ]
  refine wpAnyH_take (i := 1) (oi := { dst := some 20, op := Op.load 43 (Operand.tmp 10), type := 43, pos := "check.go:109", after := #[{ on := 2, ground := Ground.gcOnly Departure.lateStores }], guard := none }) (v := v2) rfl (by kernel_rfl) (by kernel_rfl) (by kernel_rfl) (fun _ _ _ h => h) (Or.inl ⟨by rfl, by intro W hSw; have h := hSw.2; go_simp⟩) hHeld ?_
  try simp only [Act.put, List.setIfInBounds_toArray, List.set_cons_zero, List.set_cons_succ]
  refine wpAnyH_ready (rs := [2]) (by kernel_rfl) (by simp) ?_
  refine (AllReadyH.cons (o := { dst := none, op := Op.store 23 (Operand.tmp 8) (Operand.tmp 19), type := 0, pos := "check.go:109", after := #[{ on := 0, ground := Ground.data }, { on := 0, ground := Ground.phase }, { on := 1, ground := Ground.textOnly Departure.lateStores }], guard := none }) rfl (fun K hK => ?_) AllReadyH.nil)
  refine step_set_var (by rfl) 23 (.tmp 8) (.tmp 19) rfl g8 M rfl rfl 23 Z HR84.out HSM.out HZM.out H1M.out ?_
  intro w5 HW8
  refine hK.out _ _ ⟨(HW8.out.other g12 (by omega)).trans hHeld.1, by rw [World.cell?_of_block (a := ⟨w1.heap.size, 0, none⟩) (HW8.out.other w1.heap.size (by omega))]; exact hHeld.2⟩ (fun hHeld => ?_)
  clear hK K
  try simp only [Act.put, List.setIfInBounds_toArray, List.set_cons_zero, List.set_cons_succ]
  refine wpAnyH_take (i := 3) (oi := { dst := some 9, op := Op.assign (Operand.tmp 20), type := 43, pos := "check.go:109", after := #[{ on := 1, ground := Ground.data }, { on := 2, ground := Ground.chain }, { on := 0, ground := Ground.phase }, { on := 1, ground := Ground.phase }, { on := 2, ground := Ground.phase }], guard := none }) (v := v2) rfl (by kernel_rfl) (by kernel_rfl) (by kernel_rfl) (fun _ _ _ h => h) (Or.inl ⟨by rfl, by intro W hSw; go_simp⟩) hHeld ?_
  try simp only [Act.put, List.setIfInBounds_toArray, List.set_cons_zero, List.set_cons_succ]
  refine wpAnyH_done (by kernel_rfl) ?_ _
  have HH5 := hidk (HH4.out.drew.wrote HW8.out (by omega) (by omega) (by omega) (own_apart HH4.out.drew.own HR84.out (by decide)))
  go_wp2
  refine bodyPost_ret (v := .tuple #[.agg M, v2]) ?_ rfl ⟨v2, rfl, HH5.out.own, HW8.out.below w.heap.size w HB4.out.drew (by omega)⟩
  exact results_row_tmp (p := 8) (q := 9) (ty := 23) rfl _ _ g8 23 M (0, 0) _ rfl HW8.out.row Tryd.underlying23 rfl HSM.out
end Go.Proofs.YtehfoeedlchphaaDoor
