/- What the document's block answers: the state behind a block. -/
import Derived.Test.YtkmndchbmbhlhaaDoorMixed
import Derived.Test.YtkmndchbmbhlhaaDoorRefWords
namespace Go.Proofs.YtkmndchbmbhlhaaDoor
open Go.RowKit Sums
set_option linter.unusedVariables false
set_option linter.unusedSimpArgs false

theorem idxE (W : World) (g j : Nat) (z : Int) (hz : z = j) (hj : j < 8) : (Instr.indexAt 47 (.pointer (some ⟨g, 0, none⟩)) (.int .i64 z)).run Tryd.prog W = .ok (.pointer (some ⟨g, j, none⟩)) W := by
  subst hz
  have hs : ∀ w, (sizeOf 46).run Tryd.prog w = .ok 1 w := by
    intro w
    have hq : (Tryd.prog.info? 46).map (·.size) = some 1 := by kernel_rfl
    cases h : Tryd.prog.info? 46 with
    | none => simp [h] at hq
    | some i => simp [h] at hq; simp [sizeOf, typeInfo, h, hq]
  simp [Instr.indexAt, run_underlying Tryd.underlying47, Instr.sureAddr, asIntOf, hj, hs, add_plain]

/-- Two lists of eight: the second one's first i, and the first one's others. -/
def mixl (a b : List Int) (i : Nat) : List Int := b.take i ++ a.drop i
theorem mixl_length (a b : List Int) (i : Nat) (ha : a.length = 8) (hb : b.length = 8) (hi : i ≤ 8) : (mixl a b i).length = 8 := by simp [mixl]; omega
theorem mixl_at (a b : List Int) (i : Nat) (ha : a.length = 8) (hb : b.length = 8) (hi : i < 8) (h : i < (mixl a b i).length) : (mixl a b i)[i] = a[i] := by
  have e : (mixl a b i)[i]? = a[i]? := by
    unfold mixl
    rw [List.getElem?_append_right (by simp; omega), List.getElem?_drop, List.length_take]
    congr 1
    omega
  rw [List.getElem?_eq_getElem h, List.getElem?_eq_getElem (by omega)] at e
  exact Option.some.inj e
theorem mixl_set (a b : List Int) (i : Nat) (ha : a.length = 8) (hb : b.length = 8) (hi : i < 8) : (mixl a b i).set i b[i] = mixl a b (i + 1) := by
  unfold mixl
  rw [List.set_append, if_neg (by simp; omega), List.length_take, show i - min i b.length = 0 by omega, List.take_add_one, List.getElem?_eq_getElem (by omega), List.drop_eq_getElem_cons (show i < a.length by omega), List.set_cons_zero]
  simp only [Option.toList_some, List.append_assoc, List.cons_append, List.nil_append]
theorem plus_at (s r : St) (i : Nat) (hi : i < 8) (h1 : i < (plus s r).list.length) (h2 : i < s.list.length) (h3 : i < r.list.length) : (plus s r).list[i] = (s.list[i] + r.list[i]) % 4294967296 := by
  match i, hi with
  | 0, _ => rfl
  | 1, _ => rfl
  | 2, _ => rfl
  | 3, _ => rfl
  | 4, _ => rfl
  | 5, _ => rfl
  | 6, _ => rfl
  | 7, _ => rfl

theorem mixl_next (s r : St) (i : Nat) (hi : i < 8) (h2 : i < s.list.length) (h3 : i < r.list.length) : (mixl s.list (plus s r).list i).set i ((s.list[i] + r.list[i]) % 4294967296) = mixl s.list (plus s r).list (i + 1) := by
  have h1 : i < (plus s r).list.length := by rw [list_length]; exact hi
  have h := mixl_set s.list (plus s r).list i (list_length s) (list_length _) hi
  rw [← h]
  exact congrArg (fun z => (mixl s.list (plus s r).list i).set i z) (plus_at s r i hi h1 h2 h3).symm

set_option maxHeartbeats 4000000 in
set_option maxRecDepth 100000 in
theorem refBlock_any (s : St) (b off cap : Nat) (bl : List UInt8) (w : World) (hs : OkSt s) (hl : bl.length = 64) (hc : 64 ≤ cap) (hc2 : cap ≤ 9223372036854775807) (hb : b < w.heap.size) (hL : Lies w b off bl) (hT : Table 1 w) :
    Calls Tryd.prog 27 #[.agg (wcells s.list).toArray, .slice (some ⟨b, off, none⟩) 64 cap] w fun e w' => e = .returned (.agg (wcells (block s bl).list).toArray) ∧ Below w.heap.size w w' := by
  obtain ⟨Z8, HA8, HS8, H8⟩ := noughts38
  obtain ⟨Z, HZ, HA, HS, H1, HZ64⟩ := noughts45
  obtain ⟨D, HD, HSD, H1D, H8D⟩ := words_row s.list 47 8 rfl size38
  obtain ⟨V, HV, HSV, H1V, H64V⟩ := words_row (sched bl) 55 64 (sched_length bl) size45
  have HZV : Hid (Z.size = V.size) := by show _ = _; rw [HZ64.out, H64V.out]
  have H8Z : Hid (Z8.size = D.size) := by show _ = _; rw [H8.out, H8D.out]
  have HTB : Hid (Table 1 w) := hT
  have HOK : Hid (OkSt s) := hs
  have HK : Hid (∀ w1, Below w.heap.size w w1 → Calls Tryd.prog 30 #[.slice (some ⟨b, off, none⟩) 64 cap] w1 fun e w' => e = .returned (.agg V) ∧ Below w1.heap.size w1 w') := by
    intro w1 hb1
    rw [HV.out]
    exact refWords_any b off cap bl w1 hl hc hc2 (Nat.lt_of_lt_of_le hb hb1.size) (hL.keep hb1 hb)
  rw [← HD.out]
  clear hL hl hT hs
  go_enter Tryd.func27, Tryd.ntmps27
  go_wp2_with (first
    | (refine wpList_alloc_row rfl 47 rfl Z8 HA8.out ?_)
    | fail)
  have hB0 : Below w.heap.size w ((w.alloc (.cells D 47)).alloc (.cells Z8 47)) := ((Below.refl _ _).alloc (Nat.le_refl _) _).alloc (by simp) _
  refine (HK.out _ hB0).mono ?_
  rintro e w1 ⟨rfl, hb1⟩
  have hs1 := hb1.size
  simp only [World.size_alloc] at hs1
  have HG1 : Hid (w1.heap[w.heap.size]? = some (.cells D 47 (0, 0)) ∧ w1.heap[w.heap.size + 1]? = some (.cells Z8 47 (0, 0))) := by
    refine ⟨?_, ?_⟩
    · rw [hb1.block _ (by simp only [World.size_alloc]; omega)]; exact heap_alloc2_old w _ _
    · rw [hb1.block _ (by simp only [World.size_alloc]; omega)]; exact heap_alloc2_new w _ _
  go_wp2_with (first
    | (refine wpList_alloc_row rfl 55 rfl Z HA.out ?_)
    | (refine wpList_store_row rfl 55 (.tmp 5) (.tmp 12) rfl w1.heap.size V rfl rfl 55 Z (heap_alloc_new w1 _) HSV.out HZV.out H1V.out ?_)
    | (refine wpList_load_row rfl 47 (.tmp 2) rfl w.heap.size rfl 47 D (0, 0) _ (keep_var HG1.out.1 _ _) Tryd.underlying47 rfl HSD.out ?_)
    | (refine wpList_alloc_row rfl 47 rfl Z8 HA8.out ?_)
    | (refine wpList_store_row rfl 47 (.tmp 6) (.tmp 13) rfl ((w1.alloc (.cells Z 55)).setRow w1.heap.size V).heap.size D rfl rfl 47 Z8 (heap_alloc_new _ _) HSD.out H8Z.out H1D.out ?_)
    | fail)
  obtain ⟨wa, hwa⟩ : ∃ wa, wa = (w1.alloc (.cells Z 55)).setRow w1.heap.size V := ⟨_, rfl⟩
  have hwas : wa.heap.size = w1.heap.size + 1 := by rw [hwa]; exact size_var _ _ _
  rw [← hwa]
  obtain ⟨w2, hw2⟩ : ∃ w2, w2 = (wa.alloc (.cells Z8 47)).setRow (w1.heap.size + 1) D := ⟨_, rfl⟩
  rw [← hw2]
  have HG : Hid (w2.heap[w.heap.size]? = some (.cells D 47 (0, 0)) ∧ w2.heap[w.heap.size + 1]? = some (.cells Z8 47 (0, 0)) ∧ w2.heap[w1.heap.size]? = some (.cells V 55 (0, 0)) ∧
      w2.heap[w1.heap.size + 1]? = some (.cells (wcells (Sums.run s (sched bl) 0).list).toArray 47 (0, 0))) := by
    rw [hw2, ← hwas]
    have G1 : wa.heap[w.heap.size]? = some (.cells D 47 (0, 0)) := by rw [hwa]; exact keep_var HG1.out.1 _ _
    have G2 : wa.heap[w.heap.size + 1]? = some (.cells Z8 47 (0, 0)) := by rw [hwa]; exact keep_var HG1.out.2 _ _
    have G3 : wa.heap[w1.heap.size]? = some (.cells V 55 (0, 0)) := by rw [hwa]; exact new_var w1 Z V 55
    refine ⟨keep_var G1 _ _, keep_var G2 _ _, keep_var G3 _ _, ?_⟩
    have := new_var wa Z8 D 47
    rw [HD.out] at this ⊢
    exact this
  have hB2 : Below w.heap.size w w2 := by
    rw [hw2, ← hwas]
    refine below_var ?_ (by omega) _ _
    rw [hwa]
    exact below_var (hB0.trans (hb1.mono (by simp only [World.size_alloc]; omega))) (by omega) _ _
  obtain ⟨gw, HGW⟩ : ∃ gw, Hid (gw = w1.heap.size) := ⟨_, (rfl : w1.heap.size = _)⟩
  have hgw : w.heap.size + 2 ≤ gw := by rw [HGW.out]; omega
  rw [← HGW.out] at HG ⊢
  clear hw2 hb1 hs1 hB0 HK hwa hwas HG1 HGW
  clear wa w1
  go_loopw [7] (fun v wr => ∃ (k : Nat), k ≤ 64 ∧ v = .int .i64 k ∧ Hid (wr.heap[w.heap.size]? = some (.cells D 47 (0, 0)) ∧ wr.heap[w.heap.size + 1]? = some (.cells Z8 47 (0, 0)) ∧ wr.heap[gw]? = some (.cells V 55 (0, 0)) ∧
      wr.heap[gw + 1]? = some (.cells (wcells (Sums.run s (sched bl) k).list).toArray 47 (0, 0))) ∧ Below w.heap.size w wr)
    (fun v _ => 64 - (intOf v).toNat)
  case atStart => exact ⟨0, by omega, rfl, HG, hB2⟩
  case round =>
    clear HG hB2
    obtain ⟨k, hk, rfl, HG, hB⟩ := hrel
    obtain ⟨r, HR⟩ : ∃ r, Hid (r = Sums.run s (sched bl) k) := ⟨_, (rfl : Sums.run s (sched bl) k = _)⟩
    rw [← HR.out] at HG
    by_cases hlt : k < 64
    · have hdi : decide ((k : Int) < 64) = true := by rw [decide_eq_true_eq]; omega
      have HOr : Hid (OkSt r) := by show OkSt _; rw [HR.out]; exact run_ok _ _ _ HOK.out
      obtain ⟨kk, HKK⟩ : ∃ kk, Hid (kk = kT.getD k 0) := ⟨_, (rfl : kT.getD k 0 = _)⟩
      obtain ⟨ww, HWW⟩ : ∃ ww, Hid (ww = (sched bl).getD k 0) := ⟨_, (rfl : (sched bl).getD k 0 = _)⟩
      have ck : wr.cell? ⟨1, k, none⟩ = some (.int .u32 kk) := by
        rw [HKK.out]; exact (HTB.out.keep hB).2 k hlt
      have cw : wr.cell? ⟨gw, k, none⟩ = some (.int .u32 ww) := by
        have h1 := HG.out.2.2.1
        rw [HV.out] at h1
        have := wrow_cell h1 k (by rw [sched_length]; omega)
        rw [HWW.out]
        simpa [List.getD, List.getElem?_eq_getElem (show k < (sched bl).length by rw [sched_length]; omega)] using this
      have HE : Hid (Sums.step r kk ww = Sums.run s (sched bl) (k + 1)) := by
        show _ = _
        rw [HKK.out, HWW.out, HR.out]
        rfl
      obtain ⟨ra, rb, rc, rd, re, rf, rg, rh⟩ := r
      have HB : Hid ((0 ≤ ra ∧ ra ≤ 4294967295) ∧ (0 ≤ re ∧ re ≤ 4294967295)) := ⟨HOr.out ra (by simp [St.list]), HOr.out re (by simp [St.list])⟩
      have T6 : Hid _ := fun w => refTurn_any re 6 64 67108864 w HB.out.2.1 HB.out.2.2 (by unfold Turn; decide)
      have T11 : Hid _ := fun w => refTurn_any re 11 2048 2097152 w HB.out.2.1 HB.out.2.2 (by unfold Turn; decide)
      have T25 : Hid _ := fun w => refTurn_any re 25 33554432 128 w HB.out.2.1 HB.out.2.2 (by unfold Turn; decide)
      have T2 : Hid _ := fun w => refTurn_any ra 2 4 1073741824 w HB.out.1.1 HB.out.1.2 (by unfold Turn; decide)
      have T13 : Hid _ := fun w => refTurn_any ra 13 8192 524288 w HB.out.1.1 HB.out.1.2 (by unfold Turn; decide)
      have T22 : Hid _ := fun w => refTurn_any ra 22 4194304 1024 w HB.out.1.1 HB.out.1.2 (by unfold Turn; decide)
      have V8 : ∀ j, (hj : j < 8) → wr.cell? ⟨gw + 1, j, none⟩ = some (.int .u32 ((⟨ra, rb, rc, rd, re, rf, rg, rh⟩ : St).list[j]'(by rw [list_length]; exact hj))) := fun j hj => wrow_cell HG.out.2.2.2 j hj
      have c0 : wr.cell? ⟨gw + 1, 0, none⟩ = some (.int .u32 ra) := V8 0 (by omega)
      have c1 : wr.cell? ⟨gw + 1, 1, none⟩ = some (.int .u32 rb) := V8 1 (by omega)
      have c2 : wr.cell? ⟨gw + 1, 2, none⟩ = some (.int .u32 rc) := V8 2 (by omega)
      have c3 : wr.cell? ⟨gw + 1, 3, none⟩ = some (.int .u32 rd) := V8 3 (by omega)
      have c4 : wr.cell? ⟨gw + 1, 4, none⟩ = some (.int .u32 re) := V8 4 (by omega)
      have c5 : wr.cell? ⟨gw + 1, 5, none⟩ = some (.int .u32 rf) := V8 5 (by omega)
      have c6 : wr.cell? ⟨gw + 1, 6, none⟩ = some (.int .u32 rg) := V8 6 (by omega)
      have c7 : wr.cell? ⟨gw + 1, 7, none⟩ = some (.int .u32 rh) := V8 7 (by omega)
      clear V8
      have ia := fun W => idxW W 1 k (k : Int) rfl hlt
      have ib := fun W => idxW W gw k (k : Int) rfl hlt
      clear HR HOr
      go_wp2
      refine wp_region_held_drew (S := (fun W => W.cell? ⟨1, k, none⟩ = some (.int .u32 kk) ∧ W.cell? ⟨gw, k, none⟩ = some (.int .u32 ww) ∧ W.cell? ⟨gw + 1, 4, none⟩ = some (.int .u32 re) ∧ W.cell? ⟨gw + 1, 5, none⟩ = some (.int .u32 rf) ∧ W.cell? ⟨gw + 1, 6, none⟩ = some (.int .u32 rg) ∧ W.cell? ⟨gw + 1, 7, none⟩ = some (.int .u32 rh))) (by kernel_rfl) ⟨ck, cw, c4, c5, c6, c7⟩ (fun hHeld => ?_)
      refine wpAnyH_take (i := 0) (oi := { dst := some 18, op := Op.indexAddr 47 (Operand.tmp 6) (Operand.const (Value.int IntKind.i64 7)), type := 0, pos := "ref.go:57", after := #[], guard := none }) (v := .pointer (some ⟨gw + 1, 7, none⟩)) rfl (by kernel_rfl) (by kernel_rfl) (by kernel_rfl) (fun _ _ _ h => h) (Or.inl ⟨by rfl, by intro W hSw; go_simp⟩) hHeld ?_
      try simp only [Act.put, List.setIfInBounds_toArray, List.set_cons_zero, List.set_cons_succ]
      refine wpAnyH_take (i := 1) (oi := { dst := some 19, op := Op.load 46 (Operand.tmp 18), type := 46, pos := "ref.go:57", after := #[{ on := 0, ground := Ground.data }], guard := none }) (v := .int .u32 (rh)) rfl (by kernel_rfl) (by kernel_rfl) (by kernel_rfl) (fun _ _ _ h => h) (Or.inl ⟨by rfl, by intro W hSw; obtain ⟨s1, s2, s3, s4, s5, s6⟩ := hSw; go_simp⟩) hHeld ?_
      try simp only [Act.put, List.setIfInBounds_toArray, List.set_cons_zero, List.set_cons_succ]
      refine wpAnyH_take (i := 2) (oi := { dst := some 20, op := Op.indexAddr 47 (Operand.tmp 6) (Operand.const (Value.int IntKind.i64 4)), type := 0, pos := "ref.go:57", after := #[], guard := none }) (v := .pointer (some ⟨gw + 1, 4, none⟩)) rfl (by kernel_rfl) (by kernel_rfl) (by kernel_rfl) (fun _ _ _ h => h) (Or.inl ⟨by rfl, by intro W hSw; go_simp⟩) hHeld ?_
      try simp only [Act.put, List.setIfInBounds_toArray, List.set_cons_zero, List.set_cons_succ]
      refine wpAnyH_take (i := 3) (oi := { dst := some 21, op := Op.load 46 (Operand.tmp 20), type := 46, pos := "ref.go:57", after := #[{ on := 2, ground := Ground.data }], guard := none }) (v := .int .u32 (re)) rfl (by kernel_rfl) (by kernel_rfl) (by kernel_rfl) (fun _ _ _ h => h) (Or.inl ⟨by rfl, by intro W hSw; obtain ⟨s1, s2, s3, s4, s5, s6⟩ := hSw; go_simp⟩) hHeld ?_
      try simp only [Act.put, List.setIfInBounds_toArray, List.set_cons_zero, List.set_cons_succ]
      refine wpAnyH_take (i := 5) (oi := { dst := some 23, op := Op.indexAddr 47 (Operand.tmp 6) (Operand.const (Value.int IntKind.i64 4)), type := 0, pos := "ref.go:57", after := #[], guard := none }) (v := .pointer (some ⟨gw + 1, 4, none⟩)) rfl (by kernel_rfl) (by kernel_rfl) (by kernel_rfl) (fun _ _ _ h => h) (Or.inl ⟨by rfl, by intro W hSw; go_simp⟩) hHeld ?_
      try simp only [Act.put, List.setIfInBounds_toArray, List.set_cons_zero, List.set_cons_succ]
      refine wpAnyH_take (i := 6) (oi := { dst := some 24, op := Op.load 46 (Operand.tmp 23), type := 46, pos := "ref.go:57", after := #[{ on := 5, ground := Ground.data }], guard := none }) (v := .int .u32 (re)) rfl (by kernel_rfl) (by kernel_rfl) (by kernel_rfl) (fun _ _ _ h => h) (Or.inl ⟨by rfl, by intro W hSw; obtain ⟨s1, s2, s3, s4, s5, s6⟩ := hSw; go_simp⟩) hHeld ?_
      try simp only [Act.put, List.setIfInBounds_toArray, List.set_cons_zero, List.set_cons_succ]
      refine wpAnyH_take (i := 9) (oi := { dst := some 27, op := Op.indexAddr 47 (Operand.tmp 6) (Operand.const (Value.int IntKind.i64 4)), type := 0, pos := "ref.go:57", after := #[], guard := none }) (v := .pointer (some ⟨gw + 1, 4, none⟩)) rfl (by kernel_rfl) (by kernel_rfl) (by kernel_rfl) (fun _ _ _ h => h) (Or.inl ⟨by rfl, by intro W hSw; go_simp⟩) hHeld ?_
      try simp only [Act.put, List.setIfInBounds_toArray, List.set_cons_zero, List.set_cons_succ]
      refine wpAnyH_take (i := 10) (oi := { dst := some 28, op := Op.load 46 (Operand.tmp 27), type := 46, pos := "ref.go:57", after := #[{ on := 9, ground := Ground.data }], guard := none }) (v := .int .u32 (re)) rfl (by kernel_rfl) (by kernel_rfl) (by kernel_rfl) (fun _ _ _ h => h) (Or.inl ⟨by rfl, by intro W hSw; obtain ⟨s1, s2, s3, s4, s5, s6⟩ := hSw; go_simp⟩) hHeld ?_
      try simp only [Act.put, List.setIfInBounds_toArray, List.set_cons_zero, List.set_cons_succ]
      refine wpAnyH_take (i := 14) (oi := { dst := some 32, op := Op.indexAddr 47 (Operand.tmp 6) (Operand.const (Value.int IntKind.i64 4)), type := 0, pos := "ref.go:57", after := #[], guard := none }) (v := .pointer (some ⟨gw + 1, 4, none⟩)) rfl (by kernel_rfl) (by kernel_rfl) (by kernel_rfl) (fun _ _ _ h => h) (Or.inl ⟨by rfl, by intro W hSw; go_simp⟩) hHeld ?_
      try simp only [Act.put, List.setIfInBounds_toArray, List.set_cons_zero, List.set_cons_succ]
      refine wpAnyH_take (i := 15) (oi := { dst := some 33, op := Op.load 46 (Operand.tmp 32), type := 46, pos := "ref.go:57", after := #[{ on := 14, ground := Ground.data }], guard := none }) (v := .int .u32 (re)) rfl (by kernel_rfl) (by kernel_rfl) (by kernel_rfl) (fun _ _ _ h => h) (Or.inl ⟨by rfl, by intro W hSw; obtain ⟨s1, s2, s3, s4, s5, s6⟩ := hSw; go_simp⟩) hHeld ?_
      try simp only [Act.put, List.setIfInBounds_toArray, List.set_cons_zero, List.set_cons_succ]
      refine wpAnyH_take (i := 16) (oi := { dst := some 34, op := Op.indexAddr 47 (Operand.tmp 6) (Operand.const (Value.int IntKind.i64 5)), type := 0, pos := "ref.go:57", after := #[], guard := none }) (v := .pointer (some ⟨gw + 1, 5, none⟩)) rfl (by kernel_rfl) (by kernel_rfl) (by kernel_rfl) (fun _ _ _ h => h) (Or.inl ⟨by rfl, by intro W hSw; go_simp⟩) hHeld ?_
      try simp only [Act.put, List.setIfInBounds_toArray, List.set_cons_zero, List.set_cons_succ]
      refine wpAnyH_take (i := 17) (oi := { dst := some 35, op := Op.load 46 (Operand.tmp 34), type := 46, pos := "ref.go:57", after := #[{ on := 16, ground := Ground.data }], guard := none }) (v := .int .u32 (rf)) rfl (by kernel_rfl) (by kernel_rfl) (by kernel_rfl) (fun _ _ _ h => h) (Or.inl ⟨by rfl, by intro W hSw; obtain ⟨s1, s2, s3, s4, s5, s6⟩ := hSw; go_simp⟩) hHeld ?_
      try simp only [Act.put, List.setIfInBounds_toArray, List.set_cons_zero, List.set_cons_succ]
      refine wpAnyH_take (i := 18) (oi := { dst := some 36, op := Op.binOp BinOp.and 46 (Operand.tmp 33) (Operand.tmp 35) 46, type := 46, pos := "ref.go:57", after := #[{ on := 15, ground := Ground.data }, { on := 17, ground := Ground.data }], guard := none }) (v := .int .u32 (bits .and .u32 (re) (rf))) rfl (by kernel_rfl) (by kernel_rfl) (by kernel_rfl) (fun _ _ _ h => h) (Or.inl ⟨by rfl, by intro W hSw; go_simp; first | done | exact u32w _ | (rw [u32w]; first | rfl | omega) | omega | exact wrap_int _ (by omega) (by omega)⟩) hHeld ?_
      try simp only [Act.put, List.setIfInBounds_toArray, List.set_cons_zero, List.set_cons_succ]
      refine wpAnyH_take (i := 19) (oi := { dst := some 37, op := Op.indexAddr 47 (Operand.tmp 6) (Operand.const (Value.int IntKind.i64 4)), type := 0, pos := "ref.go:57", after := #[], guard := none }) (v := .pointer (some ⟨gw + 1, 4, none⟩)) rfl (by kernel_rfl) (by kernel_rfl) (by kernel_rfl) (fun _ _ _ h => h) (Or.inl ⟨by rfl, by intro W hSw; go_simp⟩) hHeld ?_
      try simp only [Act.put, List.setIfInBounds_toArray, List.set_cons_zero, List.set_cons_succ]
      refine wpAnyH_take (i := 20) (oi := { dst := some 38, op := Op.load 46 (Operand.tmp 37), type := 46, pos := "ref.go:57", after := #[{ on := 19, ground := Ground.data }], guard := none }) (v := .int .u32 (re)) rfl (by kernel_rfl) (by kernel_rfl) (by kernel_rfl) (fun _ _ _ h => h) (Or.inl ⟨by rfl, by intro W hSw; obtain ⟨s1, s2, s3, s4, s5, s6⟩ := hSw; go_simp⟩) hHeld ?_
      try simp only [Act.put, List.setIfInBounds_toArray, List.set_cons_zero, List.set_cons_succ]
      refine wpAnyH_take (i := 21) (oi := { dst := some 39, op := Op.unOp UnOp.xor 46 (Operand.tmp 38), type := 46, pos := "ref.go:57", after := #[{ on := 20, ground := Ground.data }], guard := none }) (v := .int .u32 (bits .xor .u32 4294967295 (re))) rfl (by kernel_rfl) (by kernel_rfl) (by kernel_rfl) (fun _ _ _ h => h) (Or.inl ⟨by rfl, by intro W hSw; go_simp; first | done | rfl⟩) hHeld ?_
      try simp only [Act.put, List.setIfInBounds_toArray, List.set_cons_zero, List.set_cons_succ]
      refine wpAnyH_take (i := 22) (oi := { dst := some 40, op := Op.indexAddr 47 (Operand.tmp 6) (Operand.const (Value.int IntKind.i64 6)), type := 0, pos := "ref.go:57", after := #[], guard := none }) (v := .pointer (some ⟨gw + 1, 6, none⟩)) rfl (by kernel_rfl) (by kernel_rfl) (by kernel_rfl) (fun _ _ _ h => h) (Or.inl ⟨by rfl, by intro W hSw; go_simp⟩) hHeld ?_
      try simp only [Act.put, List.setIfInBounds_toArray, List.set_cons_zero, List.set_cons_succ]
      refine wpAnyH_take (i := 23) (oi := { dst := some 41, op := Op.load 46 (Operand.tmp 40), type := 46, pos := "ref.go:57", after := #[{ on := 22, ground := Ground.data }], guard := none }) (v := .int .u32 (rg)) rfl (by kernel_rfl) (by kernel_rfl) (by kernel_rfl) (fun _ _ _ h => h) (Or.inl ⟨by rfl, by intro W hSw; obtain ⟨s1, s2, s3, s4, s5, s6⟩ := hSw; go_simp⟩) hHeld ?_
      try simp only [Act.put, List.setIfInBounds_toArray, List.set_cons_zero, List.set_cons_succ]
      refine wpAnyH_take (i := 24) (oi := { dst := some 42, op := Op.binOp BinOp.and 46 (Operand.tmp 39) (Operand.tmp 41) 46, type := 46, pos := "ref.go:57", after := #[{ on := 21, ground := Ground.data }, { on := 23, ground := Ground.data }], guard := none }) (v := .int .u32 (bits .and .u32 (bits .xor .u32 4294967295 (re)) (rg))) rfl (by kernel_rfl) (by kernel_rfl) (by kernel_rfl) (fun _ _ _ h => h) (Or.inl ⟨by rfl, by intro W hSw; go_simp; first | done | exact u32w _ | (rw [u32w]; first | rfl | omega) | omega | exact wrap_int _ (by omega) (by omega)⟩) hHeld ?_
      try simp only [Act.put, List.setIfInBounds_toArray, List.set_cons_zero, List.set_cons_succ]
      refine wpAnyH_take (i := 25) (oi := { dst := some 43, op := Op.binOp BinOp.xor 46 (Operand.tmp 36) (Operand.tmp 42) 46, type := 46, pos := "ref.go:57", after := #[{ on := 18, ground := Ground.data }, { on := 24, ground := Ground.data }], guard := none }) (v := .int .u32 (bits .xor .u32 (bits .and .u32 (re) (rf)) (bits .and .u32 (bits .xor .u32 4294967295 (re)) (rg)))) rfl (by kernel_rfl) (by kernel_rfl) (by kernel_rfl) (fun _ _ _ h => h) (Or.inl ⟨by rfl, by intro W hSw; go_simp; first | done | exact u32w _ | (rw [u32w]; first | rfl | omega) | omega | exact wrap_int _ (by omega) (by omega)⟩) hHeld ?_
      try simp only [Act.put, List.setIfInBounds_toArray, List.set_cons_zero, List.set_cons_succ]
      refine wpAnyH_take (i := 27) (oi := { dst := some 45, op := Op.move (Operand.tmp 7), type := 3, pos := "ref.go:57", after := #[], guard := none }) (v := .int .i64 (k : Int)) rfl (by kernel_rfl) (by kernel_rfl) (by kernel_rfl) (fun _ _ _ h => h) (Or.inl ⟨by rfl, by intro W hSw; go_simp⟩) hHeld ?_
      try simp only [Act.put, List.setIfInBounds_toArray, List.set_cons_zero, List.set_cons_succ]
      refine wpAnyH_take (i := 28) (oi := { dst := some 46, op := Op.indexAddr 55 (Operand.global 1) (Operand.tmp 45), type := 0, pos := "ref.go:57", after := #[{ on := 27, ground := Ground.data }], guard := none }) (v := .pointer (some ⟨1, k, none⟩)) rfl (by kernel_rfl) (by kernel_rfl) (by kernel_rfl) (fun _ _ _ h => h) (Or.inl ⟨by rfl, by intro W hSw; go_simp⟩) hHeld ?_
      try simp only [Act.put, List.setIfInBounds_toArray, List.set_cons_zero, List.set_cons_succ]
      refine wpAnyH_take (i := 29) (oi := { dst := some 47, op := Op.load 46 (Operand.tmp 46), type := 46, pos := "ref.go:57", after := #[{ on := 28, ground := Ground.data }], guard := none }) (v := .int .u32 (kk)) rfl (by kernel_rfl) (by kernel_rfl) (by kernel_rfl) (fun _ _ _ h => h) (Or.inl ⟨by rfl, by intro W hSw; obtain ⟨s1, s2, s3, s4, s5, s6⟩ := hSw; go_simp⟩) hHeld ?_
      try simp only [Act.put, List.setIfInBounds_toArray, List.set_cons_zero, List.set_cons_succ]
      refine wpAnyH_take (i := 31) (oi := { dst := some 49, op := Op.move (Operand.tmp 7), type := 3, pos := "ref.go:57", after := #[], guard := none }) (v := .int .i64 (k : Int)) rfl (by kernel_rfl) (by kernel_rfl) (by kernel_rfl) (fun _ _ _ h => h) (Or.inl ⟨by rfl, by intro W hSw; go_simp⟩) hHeld ?_
      try simp only [Act.put, List.setIfInBounds_toArray, List.set_cons_zero, List.set_cons_succ]
      refine wpAnyH_take (i := 32) (oi := { dst := some 50, op := Op.indexAddr 55 (Operand.tmp 5) (Operand.tmp 49), type := 0, pos := "ref.go:57", after := #[{ on := 31, ground := Ground.data }], guard := none }) (v := .pointer (some ⟨gw, k, none⟩)) rfl (by kernel_rfl) (by kernel_rfl) (by kernel_rfl) (fun _ _ _ h => h) (Or.inl ⟨by rfl, by intro W hSw; go_simp⟩) hHeld ?_
      try simp only [Act.put, List.setIfInBounds_toArray, List.set_cons_zero, List.set_cons_succ]
      refine wpAnyH_take (i := 33) (oi := { dst := some 51, op := Op.load 46 (Operand.tmp 50), type := 46, pos := "ref.go:57", after := #[{ on := 32, ground := Ground.data }], guard := none }) (v := .int .u32 (ww)) rfl (by kernel_rfl) (by kernel_rfl) (by kernel_rfl) (fun _ _ _ h => h) (Or.inl ⟨by rfl, by intro W hSw; obtain ⟨s1, s2, s3, s4, s5, s6⟩ := hSw; go_simp⟩) hHeld ?_
      try simp only [Act.put, List.setIfInBounds_toArray, List.set_cons_zero, List.set_cons_succ]
      refine wpAnyH_ready (rs := [4]) (by kernel_rfl) (by simp) ?_
      refine AllReadyH.cons (o := { dst := some 22, op := Op.call { callee := Callee.value (Operand.func 31), args := #[Operand.tmp 21, Operand.const (Value.int IntKind.i64 6)], argTypes := #[46, 3] }, type := 46, pos := "ref.go:57", after := #[{ on := 3, ground := Ground.data }], guard := none }) rfl (fun K hK => ?_) AllReadyH.nil
      go_simp
      refine (T6.out _).mono ?_
      rintro e w' ⟨rfl, n1, rfl⟩
      go_wp2_with fail
      refine hK.out _ _ hHeld (fun hHeld => ?_)
      clear hK K
      try simp only [Act.put, List.setIfInBounds_toArray, List.set_cons_zero, List.set_cons_succ]
      refine wpAnyH_ready (rs := [7]) (by kernel_rfl) (by simp) ?_
      refine AllReadyH.cons (o := { dst := some 25, op := Op.call { callee := Callee.value (Operand.func 31), args := #[Operand.tmp 24, Operand.const (Value.int IntKind.i64 11)], argTypes := #[46, 3] }, type := 46, pos := "ref.go:57", after := #[{ on := 6, ground := Ground.data }, { on := 4, ground := Ground.chain }], guard := none }) rfl (fun K hK => ?_) AllReadyH.nil
      go_simp
      refine (T11.out _).mono ?_
      rintro e w' ⟨rfl, n1, rfl⟩
      go_wp2_with fail
      refine hK.out _ _ hHeld (fun hHeld => ?_)
      clear hK K
      try simp only [Act.put, List.setIfInBounds_toArray, List.set_cons_zero, List.set_cons_succ]
      refine wpAnyH_take (i := 8) (oi := { dst := some 26, op := Op.binOp BinOp.xor 46 (Operand.tmp 22) (Operand.tmp 25) 46, type := 46, pos := "ref.go:57", after := #[{ on := 4, ground := Ground.data }, { on := 7, ground := Ground.data }], guard := none }) (v := .int .u32 (bits .xor .u32 (rot (re) 64 67108864) (rot (re) 2048 2097152))) rfl (by kernel_rfl) (by kernel_rfl) (by kernel_rfl) (fun _ _ _ h => h) (Or.inl ⟨by rfl, by intro W hSw; go_simp; first | done | exact u32w _ | (rw [u32w]; first | rfl | omega) | omega | exact wrap_int _ (by omega) (by omega)⟩) hHeld ?_
      try simp only [Act.put, List.setIfInBounds_toArray, List.set_cons_zero, List.set_cons_succ]
      refine wpAnyH_ready (rs := [11]) (by kernel_rfl) (by simp) ?_
      refine AllReadyH.cons (o := { dst := some 29, op := Op.call { callee := Callee.value (Operand.func 31), args := #[Operand.tmp 28, Operand.const (Value.int IntKind.i64 25)], argTypes := #[46, 3] }, type := 46, pos := "ref.go:57", after := #[{ on := 10, ground := Ground.data }, { on := 7, ground := Ground.chain }], guard := none }) rfl (fun K hK => ?_) AllReadyH.nil
      go_simp
      refine (T25.out _).mono ?_
      rintro e w' ⟨rfl, n1, rfl⟩
      go_wp2_with fail
      refine hK.out _ _ hHeld (fun hHeld => ?_)
      clear hK K
      try simp only [Act.put, List.setIfInBounds_toArray, List.set_cons_zero, List.set_cons_succ]
      refine wpAnyH_take (i := 12) (oi := { dst := some 30, op := Op.binOp BinOp.xor 46 (Operand.tmp 26) (Operand.tmp 29) 46, type := 46, pos := "ref.go:57", after := #[{ on := 8, ground := Ground.data }, { on := 11, ground := Ground.data }], guard := none }) (v := .int .u32 (bits .xor .u32 (bits .xor .u32 (rot (re) 64 67108864) (rot (re) 2048 2097152)) (rot (re) 33554432 128))) rfl (by kernel_rfl) (by kernel_rfl) (by kernel_rfl) (fun _ _ _ h => h) (Or.inl ⟨by rfl, by intro W hSw; go_simp; first | done | exact u32w _ | (rw [u32w]; first | rfl | omega) | omega | exact wrap_int _ (by omega) (by omega)⟩) hHeld ?_
      try simp only [Act.put, List.setIfInBounds_toArray, List.set_cons_zero, List.set_cons_succ]
      refine wpAnyH_take (i := 13) (oi := { dst := some 31, op := Op.binOp BinOp.add 46 (Operand.tmp 19) (Operand.tmp 30) 46, type := 46, pos := "ref.go:57", after := #[{ on := 1, ground := Ground.data }, { on := 12, ground := Ground.data }], guard := none }) (v := .int .u32 (((rh) + (bits .xor .u32 (bits .xor .u32 (rot (re) 64 67108864) (rot (re) 2048 2097152)) (rot (re) 33554432 128))) % 4294967296)) rfl (by kernel_rfl) (by kernel_rfl) (by kernel_rfl) (fun _ _ _ h => h) (Or.inl ⟨by rfl, by intro W hSw; go_simp; first | done | exact u32w _ | (rw [u32w]; first | rfl | omega) | omega | exact wrap_int _ (by omega) (by omega)⟩) hHeld ?_
      try simp only [Act.put, List.setIfInBounds_toArray, List.set_cons_zero, List.set_cons_succ]
      refine wpAnyH_take (i := 26) (oi := { dst := some 44, op := Op.binOp BinOp.add 46 (Operand.tmp 31) (Operand.tmp 43) 46, type := 46, pos := "ref.go:57", after := #[{ on := 13, ground := Ground.data }, { on := 25, ground := Ground.data }], guard := none }) (v := .int .u32 (((((rh) + (bits .xor .u32 (bits .xor .u32 (rot (re) 64 67108864) (rot (re) 2048 2097152)) (rot (re) 33554432 128))) % 4294967296) + (bits .xor .u32 (bits .and .u32 (re) (rf)) (bits .and .u32 (bits .xor .u32 4294967295 (re)) (rg)))) % 4294967296)) rfl (by kernel_rfl) (by kernel_rfl) (by kernel_rfl) (fun _ _ _ h => h) (Or.inl ⟨by rfl, by intro W hSw; go_simp; first | done | exact u32w _ | (rw [u32w]; first | rfl | omega) | omega | exact wrap_int _ (by omega) (by omega)⟩) hHeld ?_
      try simp only [Act.put, List.setIfInBounds_toArray, List.set_cons_zero, List.set_cons_succ]
      refine wpAnyH_take (i := 30) (oi := { dst := some 48, op := Op.binOp BinOp.add 46 (Operand.tmp 44) (Operand.tmp 47) 46, type := 46, pos := "ref.go:57", after := #[{ on := 26, ground := Ground.data }, { on := 29, ground := Ground.data }], guard := none }) (v := .int .u32 (((((((rh) + (bits .xor .u32 (bits .xor .u32 (rot (re) 64 67108864) (rot (re) 2048 2097152)) (rot (re) 33554432 128))) % 4294967296) + (bits .xor .u32 (bits .and .u32 (re) (rf)) (bits .and .u32 (bits .xor .u32 4294967295 (re)) (rg)))) % 4294967296) + (kk)) % 4294967296)) rfl (by kernel_rfl) (by kernel_rfl) (by kernel_rfl) (fun _ _ _ h => h) (Or.inl ⟨by rfl, by intro W hSw; go_simp; first | done | exact u32w _ | (rw [u32w]; first | rfl | omega) | omega | exact wrap_int _ (by omega) (by omega)⟩) hHeld ?_
      try simp only [Act.put, List.setIfInBounds_toArray, List.set_cons_zero, List.set_cons_succ]
      refine wpAnyH_take (i := 34) (oi := { dst := some 52, op := Op.binOp BinOp.add 46 (Operand.tmp 48) (Operand.tmp 51) 46, type := 46, pos := "ref.go:57", after := #[{ on := 30, ground := Ground.data }, { on := 33, ground := Ground.data }], guard := none }) (v := .int .u32 (((((((((rh) + (bits .xor .u32 (bits .xor .u32 (rot (re) 64 67108864) (rot (re) 2048 2097152)) (rot (re) 33554432 128))) % 4294967296) + (bits .xor .u32 (bits .and .u32 (re) (rf)) (bits .and .u32 (bits .xor .u32 4294967295 (re)) (rg)))) % 4294967296) + (kk)) % 4294967296) + (ww)) % 4294967296)) rfl (by kernel_rfl) (by kernel_rfl) (by kernel_rfl) (fun _ _ _ h => h) (Or.inl ⟨by rfl, by intro W hSw; go_simp; first | done | exact u32w _ | (rw [u32w]; first | rfl | omega) | omega | exact wrap_int _ (by omega) (by omega)⟩) hHeld ?_
      try simp only [Act.put, List.setIfInBounds_toArray, List.set_cons_zero, List.set_cons_succ]
      refine wpAnyH_take (i := 35) (oi := { dst := some 8, op := Op.assign (Operand.tmp 52), type := 46, pos := "ref.go:57", after := #[{ on := 34, ground := Ground.data }, { on := 11, ground := Ground.chain }, { on := 0, ground := Ground.phase }, { on := 1, ground := Ground.phase }, { on := 2, ground := Ground.phase }, { on := 3, ground := Ground.phase }, { on := 4, ground := Ground.phase }, { on := 5, ground := Ground.phase }, { on := 6, ground := Ground.phase }, { on := 7, ground := Ground.phase }, { on := 8, ground := Ground.phase }, { on := 9, ground := Ground.phase }, { on := 10, ground := Ground.phase }, { on := 11, ground := Ground.phase }, { on := 12, ground := Ground.phase }, { on := 13, ground := Ground.phase }, { on := 14, ground := Ground.phase }, { on := 15, ground := Ground.phase }, { on := 16, ground := Ground.phase }, { on := 17, ground := Ground.phase }, { on := 18, ground := Ground.phase }, { on := 19, ground := Ground.phase }, { on := 20, ground := Ground.phase }, { on := 21, ground := Ground.phase }, { on := 22, ground := Ground.phase }, { on := 23, ground := Ground.phase }, { on := 24, ground := Ground.phase }, { on := 25, ground := Ground.phase }, { on := 26, ground := Ground.phase }, { on := 27, ground := Ground.phase }, { on := 28, ground := Ground.phase }, { on := 29, ground := Ground.phase }, { on := 30, ground := Ground.phase }, { on := 31, ground := Ground.phase }, { on := 32, ground := Ground.phase }, { on := 33, ground := Ground.phase }, { on := 34, ground := Ground.phase }], guard := none }) (v := .int .u32 (((((((((rh) + (bits .xor .u32 (bits .xor .u32 (rot (re) 64 67108864) (rot (re) 2048 2097152)) (rot (re) 33554432 128))) % 4294967296) + (bits .xor .u32 (bits .and .u32 (re) (rf)) (bits .and .u32 (bits .xor .u32 4294967295 (re)) (rg)))) % 4294967296) + (kk)) % 4294967296) + (ww)) % 4294967296)) rfl (by kernel_rfl) (by kernel_rfl) (by kernel_rfl) (fun _ _ _ h => h) (Or.inl ⟨by rfl, by intro W hSw; go_simp⟩) hHeld ?_
      try simp only [Act.put, List.setIfInBounds_toArray, List.set_cons_zero, List.set_cons_succ]
      refine wpAnyH_done (by kernel_rfl) ?_ _
      go_wp2
      refine wp_region_held_drew (S := (fun W => W.cell? ⟨gw + 1, 0, none⟩ = some (.int .u32 ra) ∧ W.cell? ⟨gw + 1, 1, none⟩ = some (.int .u32 rb) ∧ W.cell? ⟨gw + 1, 2, none⟩ = some (.int .u32 rc))) (by kernel_rfl) ⟨c0, c1, c2⟩ (fun hHeld => ?_)
      refine wpAnyH_take (i := 0) (oi := { dst := some 53, op := Op.indexAddr 47 (Operand.tmp 6) (Operand.const (Value.int IntKind.i64 0)), type := 0, pos := "ref.go:58", after := #[], guard := none }) (v := .pointer (some ⟨gw + 1, 0, none⟩)) rfl (by kernel_rfl) (by kernel_rfl) (by kernel_rfl) (fun _ _ _ h => h) (Or.inl ⟨by rfl, by intro W hSw; go_simp⟩) hHeld ?_
      try simp only [Act.put, List.setIfInBounds_toArray, List.set_cons_zero, List.set_cons_succ]
      refine wpAnyH_take (i := 1) (oi := { dst := some 54, op := Op.load 46 (Operand.tmp 53), type := 46, pos := "ref.go:58", after := #[{ on := 0, ground := Ground.data }], guard := none }) (v := .int .u32 (ra)) rfl (by kernel_rfl) (by kernel_rfl) (by kernel_rfl) (fun _ _ _ h => h) (Or.inl ⟨by rfl, by intro W hSw; obtain ⟨s1, s2, s3⟩ := hSw; go_simp⟩) hHeld ?_
      try simp only [Act.put, List.setIfInBounds_toArray, List.set_cons_zero, List.set_cons_succ]
      refine wpAnyH_take (i := 3) (oi := { dst := some 56, op := Op.indexAddr 47 (Operand.tmp 6) (Operand.const (Value.int IntKind.i64 0)), type := 0, pos := "ref.go:58", after := #[], guard := none }) (v := .pointer (some ⟨gw + 1, 0, none⟩)) rfl (by kernel_rfl) (by kernel_rfl) (by kernel_rfl) (fun _ _ _ h => h) (Or.inl ⟨by rfl, by intro W hSw; go_simp⟩) hHeld ?_
      try simp only [Act.put, List.setIfInBounds_toArray, List.set_cons_zero, List.set_cons_succ]
      refine wpAnyH_take (i := 4) (oi := { dst := some 57, op := Op.load 46 (Operand.tmp 56), type := 46, pos := "ref.go:58", after := #[{ on := 3, ground := Ground.data }], guard := none }) (v := .int .u32 (ra)) rfl (by kernel_rfl) (by kernel_rfl) (by kernel_rfl) (fun _ _ _ h => h) (Or.inl ⟨by rfl, by intro W hSw; obtain ⟨s1, s2, s3⟩ := hSw; go_simp⟩) hHeld ?_
      try simp only [Act.put, List.setIfInBounds_toArray, List.set_cons_zero, List.set_cons_succ]
      refine wpAnyH_take (i := 7) (oi := { dst := some 60, op := Op.indexAddr 47 (Operand.tmp 6) (Operand.const (Value.int IntKind.i64 0)), type := 0, pos := "ref.go:58", after := #[], guard := none }) (v := .pointer (some ⟨gw + 1, 0, none⟩)) rfl (by kernel_rfl) (by kernel_rfl) (by kernel_rfl) (fun _ _ _ h => h) (Or.inl ⟨by rfl, by intro W hSw; go_simp⟩) hHeld ?_
      try simp only [Act.put, List.setIfInBounds_toArray, List.set_cons_zero, List.set_cons_succ]
      refine wpAnyH_take (i := 8) (oi := { dst := some 61, op := Op.load 46 (Operand.tmp 60), type := 46, pos := "ref.go:58", after := #[{ on := 7, ground := Ground.data }], guard := none }) (v := .int .u32 (ra)) rfl (by kernel_rfl) (by kernel_rfl) (by kernel_rfl) (fun _ _ _ h => h) (Or.inl ⟨by rfl, by intro W hSw; obtain ⟨s1, s2, s3⟩ := hSw; go_simp⟩) hHeld ?_
      try simp only [Act.put, List.setIfInBounds_toArray, List.set_cons_zero, List.set_cons_succ]
      refine wpAnyH_take (i := 11) (oi := { dst := some 64, op := Op.indexAddr 47 (Operand.tmp 6) (Operand.const (Value.int IntKind.i64 0)), type := 0, pos := "ref.go:58", after := #[], guard := none }) (v := .pointer (some ⟨gw + 1, 0, none⟩)) rfl (by kernel_rfl) (by kernel_rfl) (by kernel_rfl) (fun _ _ _ h => h) (Or.inl ⟨by rfl, by intro W hSw; go_simp⟩) hHeld ?_
      try simp only [Act.put, List.setIfInBounds_toArray, List.set_cons_zero, List.set_cons_succ]
      refine wpAnyH_take (i := 12) (oi := { dst := some 65, op := Op.load 46 (Operand.tmp 64), type := 46, pos := "ref.go:58", after := #[{ on := 11, ground := Ground.data }], guard := none }) (v := .int .u32 (ra)) rfl (by kernel_rfl) (by kernel_rfl) (by kernel_rfl) (fun _ _ _ h => h) (Or.inl ⟨by rfl, by intro W hSw; obtain ⟨s1, s2, s3⟩ := hSw; go_simp⟩) hHeld ?_
      try simp only [Act.put, List.setIfInBounds_toArray, List.set_cons_zero, List.set_cons_succ]
      refine wpAnyH_take (i := 13) (oi := { dst := some 66, op := Op.indexAddr 47 (Operand.tmp 6) (Operand.const (Value.int IntKind.i64 1)), type := 0, pos := "ref.go:58", after := #[], guard := none }) (v := .pointer (some ⟨gw + 1, 1, none⟩)) rfl (by kernel_rfl) (by kernel_rfl) (by kernel_rfl) (fun _ _ _ h => h) (Or.inl ⟨by rfl, by intro W hSw; go_simp⟩) hHeld ?_
      try simp only [Act.put, List.setIfInBounds_toArray, List.set_cons_zero, List.set_cons_succ]
      refine wpAnyH_take (i := 14) (oi := { dst := some 67, op := Op.load 46 (Operand.tmp 66), type := 46, pos := "ref.go:58", after := #[{ on := 13, ground := Ground.data }], guard := none }) (v := .int .u32 (rb)) rfl (by kernel_rfl) (by kernel_rfl) (by kernel_rfl) (fun _ _ _ h => h) (Or.inl ⟨by rfl, by intro W hSw; obtain ⟨s1, s2, s3⟩ := hSw; go_simp⟩) hHeld ?_
      try simp only [Act.put, List.setIfInBounds_toArray, List.set_cons_zero, List.set_cons_succ]
      refine wpAnyH_take (i := 15) (oi := { dst := some 68, op := Op.binOp BinOp.and 46 (Operand.tmp 65) (Operand.tmp 67) 46, type := 46, pos := "ref.go:58", after := #[{ on := 12, ground := Ground.data }, { on := 14, ground := Ground.data }], guard := none }) (v := .int .u32 (bits .and .u32 (ra) (rb))) rfl (by kernel_rfl) (by kernel_rfl) (by kernel_rfl) (fun _ _ _ h => h) (Or.inl ⟨by rfl, by intro W hSw; go_simp; first | done | exact u32w _ | (rw [u32w]; first | rfl | omega) | omega | exact wrap_int _ (by omega) (by omega)⟩) hHeld ?_
      try simp only [Act.put, List.setIfInBounds_toArray, List.set_cons_zero, List.set_cons_succ]
      refine wpAnyH_take (i := 16) (oi := { dst := some 69, op := Op.indexAddr 47 (Operand.tmp 6) (Operand.const (Value.int IntKind.i64 0)), type := 0, pos := "ref.go:58", after := #[], guard := none }) (v := .pointer (some ⟨gw + 1, 0, none⟩)) rfl (by kernel_rfl) (by kernel_rfl) (by kernel_rfl) (fun _ _ _ h => h) (Or.inl ⟨by rfl, by intro W hSw; go_simp⟩) hHeld ?_
      try simp only [Act.put, List.setIfInBounds_toArray, List.set_cons_zero, List.set_cons_succ]
      refine wpAnyH_take (i := 17) (oi := { dst := some 70, op := Op.load 46 (Operand.tmp 69), type := 46, pos := "ref.go:58", after := #[{ on := 16, ground := Ground.data }], guard := none }) (v := .int .u32 (ra)) rfl (by kernel_rfl) (by kernel_rfl) (by kernel_rfl) (fun _ _ _ h => h) (Or.inl ⟨by rfl, by intro W hSw; obtain ⟨s1, s2, s3⟩ := hSw; go_simp⟩) hHeld ?_
      try simp only [Act.put, List.setIfInBounds_toArray, List.set_cons_zero, List.set_cons_succ]
      refine wpAnyH_take (i := 18) (oi := { dst := some 71, op := Op.indexAddr 47 (Operand.tmp 6) (Operand.const (Value.int IntKind.i64 2)), type := 0, pos := "ref.go:58", after := #[], guard := none }) (v := .pointer (some ⟨gw + 1, 2, none⟩)) rfl (by kernel_rfl) (by kernel_rfl) (by kernel_rfl) (fun _ _ _ h => h) (Or.inl ⟨by rfl, by intro W hSw; go_simp⟩) hHeld ?_
      try simp only [Act.put, List.setIfInBounds_toArray, List.set_cons_zero, List.set_cons_succ]
      refine wpAnyH_take (i := 19) (oi := { dst := some 72, op := Op.load 46 (Operand.tmp 71), type := 46, pos := "ref.go:58", after := #[{ on := 18, ground := Ground.data }], guard := none }) (v := .int .u32 (rc)) rfl (by kernel_rfl) (by kernel_rfl) (by kernel_rfl) (fun _ _ _ h => h) (Or.inl ⟨by rfl, by intro W hSw; obtain ⟨s1, s2, s3⟩ := hSw; go_simp⟩) hHeld ?_
      try simp only [Act.put, List.setIfInBounds_toArray, List.set_cons_zero, List.set_cons_succ]
      refine wpAnyH_take (i := 20) (oi := { dst := some 73, op := Op.binOp BinOp.and 46 (Operand.tmp 70) (Operand.tmp 72) 46, type := 46, pos := "ref.go:58", after := #[{ on := 17, ground := Ground.data }, { on := 19, ground := Ground.data }], guard := none }) (v := .int .u32 (bits .and .u32 (ra) (rc))) rfl (by kernel_rfl) (by kernel_rfl) (by kernel_rfl) (fun _ _ _ h => h) (Or.inl ⟨by rfl, by intro W hSw; go_simp; first | done | exact u32w _ | (rw [u32w]; first | rfl | omega) | omega | exact wrap_int _ (by omega) (by omega)⟩) hHeld ?_
      try simp only [Act.put, List.setIfInBounds_toArray, List.set_cons_zero, List.set_cons_succ]
      refine wpAnyH_take (i := 21) (oi := { dst := some 74, op := Op.binOp BinOp.xor 46 (Operand.tmp 68) (Operand.tmp 73) 46, type := 46, pos := "ref.go:58", after := #[{ on := 15, ground := Ground.data }, { on := 20, ground := Ground.data }], guard := none }) (v := .int .u32 (bits .xor .u32 (bits .and .u32 (ra) (rb)) (bits .and .u32 (ra) (rc)))) rfl (by kernel_rfl) (by kernel_rfl) (by kernel_rfl) (fun _ _ _ h => h) (Or.inl ⟨by rfl, by intro W hSw; go_simp; first | done | exact u32w _ | (rw [u32w]; first | rfl | omega) | omega | exact wrap_int _ (by omega) (by omega)⟩) hHeld ?_
      try simp only [Act.put, List.setIfInBounds_toArray, List.set_cons_zero, List.set_cons_succ]
      refine wpAnyH_take (i := 22) (oi := { dst := some 75, op := Op.indexAddr 47 (Operand.tmp 6) (Operand.const (Value.int IntKind.i64 1)), type := 0, pos := "ref.go:58", after := #[], guard := none }) (v := .pointer (some ⟨gw + 1, 1, none⟩)) rfl (by kernel_rfl) (by kernel_rfl) (by kernel_rfl) (fun _ _ _ h => h) (Or.inl ⟨by rfl, by intro W hSw; go_simp⟩) hHeld ?_
      try simp only [Act.put, List.setIfInBounds_toArray, List.set_cons_zero, List.set_cons_succ]
      refine wpAnyH_take (i := 23) (oi := { dst := some 76, op := Op.load 46 (Operand.tmp 75), type := 46, pos := "ref.go:58", after := #[{ on := 22, ground := Ground.data }], guard := none }) (v := .int .u32 (rb)) rfl (by kernel_rfl) (by kernel_rfl) (by kernel_rfl) (fun _ _ _ h => h) (Or.inl ⟨by rfl, by intro W hSw; obtain ⟨s1, s2, s3⟩ := hSw; go_simp⟩) hHeld ?_
      try simp only [Act.put, List.setIfInBounds_toArray, List.set_cons_zero, List.set_cons_succ]
      refine wpAnyH_take (i := 24) (oi := { dst := some 77, op := Op.indexAddr 47 (Operand.tmp 6) (Operand.const (Value.int IntKind.i64 2)), type := 0, pos := "ref.go:58", after := #[], guard := none }) (v := .pointer (some ⟨gw + 1, 2, none⟩)) rfl (by kernel_rfl) (by kernel_rfl) (by kernel_rfl) (fun _ _ _ h => h) (Or.inl ⟨by rfl, by intro W hSw; go_simp⟩) hHeld ?_
      try simp only [Act.put, List.setIfInBounds_toArray, List.set_cons_zero, List.set_cons_succ]
      refine wpAnyH_take (i := 25) (oi := { dst := some 78, op := Op.load 46 (Operand.tmp 77), type := 46, pos := "ref.go:58", after := #[{ on := 24, ground := Ground.data }], guard := none }) (v := .int .u32 (rc)) rfl (by kernel_rfl) (by kernel_rfl) (by kernel_rfl) (fun _ _ _ h => h) (Or.inl ⟨by rfl, by intro W hSw; obtain ⟨s1, s2, s3⟩ := hSw; go_simp⟩) hHeld ?_
      try simp only [Act.put, List.setIfInBounds_toArray, List.set_cons_zero, List.set_cons_succ]
      refine wpAnyH_take (i := 26) (oi := { dst := some 79, op := Op.binOp BinOp.and 46 (Operand.tmp 76) (Operand.tmp 78) 46, type := 46, pos := "ref.go:58", after := #[{ on := 23, ground := Ground.data }, { on := 25, ground := Ground.data }], guard := none }) (v := .int .u32 (bits .and .u32 (rb) (rc))) rfl (by kernel_rfl) (by kernel_rfl) (by kernel_rfl) (fun _ _ _ h => h) (Or.inl ⟨by rfl, by intro W hSw; go_simp; first | done | exact u32w _ | (rw [u32w]; first | rfl | omega) | omega | exact wrap_int _ (by omega) (by omega)⟩) hHeld ?_
      try simp only [Act.put, List.setIfInBounds_toArray, List.set_cons_zero, List.set_cons_succ]
      refine wpAnyH_take (i := 27) (oi := { dst := some 80, op := Op.binOp BinOp.xor 46 (Operand.tmp 74) (Operand.tmp 79) 46, type := 46, pos := "ref.go:58", after := #[{ on := 21, ground := Ground.data }, { on := 26, ground := Ground.data }], guard := none }) (v := .int .u32 (bits .xor .u32 (bits .xor .u32 (bits .and .u32 (ra) (rb)) (bits .and .u32 (ra) (rc))) (bits .and .u32 (rb) (rc)))) rfl (by kernel_rfl) (by kernel_rfl) (by kernel_rfl) (fun _ _ _ h => h) (Or.inl ⟨by rfl, by intro W hSw; go_simp; first | done | exact u32w _ | (rw [u32w]; first | rfl | omega) | omega | exact wrap_int _ (by omega) (by omega)⟩) hHeld ?_
      try simp only [Act.put, List.setIfInBounds_toArray, List.set_cons_zero, List.set_cons_succ]
      refine wpAnyH_ready (rs := [2]) (by kernel_rfl) (by simp) ?_
      refine AllReadyH.cons (o := { dst := some 55, op := Op.call { callee := Callee.value (Operand.func 31), args := #[Operand.tmp 54, Operand.const (Value.int IntKind.i64 2)], argTypes := #[46, 3] }, type := 46, pos := "ref.go:58", after := #[{ on := 1, ground := Ground.data }], guard := none }) rfl (fun K hK => ?_) AllReadyH.nil
      go_simp
      refine (T2.out _).mono ?_
      rintro e w' ⟨rfl, n2, rfl⟩
      go_wp2_with fail
      refine hK.out _ _ hHeld (fun hHeld => ?_)
      clear hK K
      try simp only [Act.put, List.setIfInBounds_toArray, List.set_cons_zero, List.set_cons_succ]
      refine wpAnyH_ready (rs := [5]) (by kernel_rfl) (by simp) ?_
      refine AllReadyH.cons (o := { dst := some 58, op := Op.call { callee := Callee.value (Operand.func 31), args := #[Operand.tmp 57, Operand.const (Value.int IntKind.i64 13)], argTypes := #[46, 3] }, type := 46, pos := "ref.go:58", after := #[{ on := 4, ground := Ground.data }, { on := 2, ground := Ground.chain }], guard := none }) rfl (fun K hK => ?_) AllReadyH.nil
      go_simp
      refine (T13.out _).mono ?_
      rintro e w' ⟨rfl, n2, rfl⟩
      go_wp2_with fail
      refine hK.out _ _ hHeld (fun hHeld => ?_)
      clear hK K
      try simp only [Act.put, List.setIfInBounds_toArray, List.set_cons_zero, List.set_cons_succ]
      refine wpAnyH_take (i := 6) (oi := { dst := some 59, op := Op.binOp BinOp.xor 46 (Operand.tmp 55) (Operand.tmp 58) 46, type := 46, pos := "ref.go:58", after := #[{ on := 2, ground := Ground.data }, { on := 5, ground := Ground.data }], guard := none }) (v := .int .u32 (bits .xor .u32 (rot (ra) 4 1073741824) (rot (ra) 8192 524288))) rfl (by kernel_rfl) (by kernel_rfl) (by kernel_rfl) (fun _ _ _ h => h) (Or.inl ⟨by rfl, by intro W hSw; go_simp; first | done | exact u32w _ | (rw [u32w]; first | rfl | omega) | omega | exact wrap_int _ (by omega) (by omega)⟩) hHeld ?_
      try simp only [Act.put, List.setIfInBounds_toArray, List.set_cons_zero, List.set_cons_succ]
      refine wpAnyH_ready (rs := [9]) (by kernel_rfl) (by simp) ?_
      refine AllReadyH.cons (o := { dst := some 62, op := Op.call { callee := Callee.value (Operand.func 31), args := #[Operand.tmp 61, Operand.const (Value.int IntKind.i64 22)], argTypes := #[46, 3] }, type := 46, pos := "ref.go:58", after := #[{ on := 8, ground := Ground.data }, { on := 5, ground := Ground.chain }], guard := none }) rfl (fun K hK => ?_) AllReadyH.nil
      go_simp
      refine (T22.out _).mono ?_
      rintro e w' ⟨rfl, n2, rfl⟩
      go_wp2_with fail
      refine hK.out _ _ hHeld (fun hHeld => ?_)
      clear hK K
      try simp only [Act.put, List.setIfInBounds_toArray, List.set_cons_zero, List.set_cons_succ]
      refine wpAnyH_take (i := 10) (oi := { dst := some 63, op := Op.binOp BinOp.xor 46 (Operand.tmp 59) (Operand.tmp 62) 46, type := 46, pos := "ref.go:58", after := #[{ on := 6, ground := Ground.data }, { on := 9, ground := Ground.data }], guard := none }) (v := .int .u32 (bits .xor .u32 (bits .xor .u32 (rot (ra) 4 1073741824) (rot (ra) 8192 524288)) (rot (ra) 4194304 1024))) rfl (by kernel_rfl) (by kernel_rfl) (by kernel_rfl) (fun _ _ _ h => h) (Or.inl ⟨by rfl, by intro W hSw; go_simp; first | done | exact u32w _ | (rw [u32w]; first | rfl | omega) | omega | exact wrap_int _ (by omega) (by omega)⟩) hHeld ?_
      try simp only [Act.put, List.setIfInBounds_toArray, List.set_cons_zero, List.set_cons_succ]
      refine wpAnyH_take (i := 28) (oi := { dst := some 81, op := Op.binOp BinOp.add 46 (Operand.tmp 63) (Operand.tmp 80) 46, type := 46, pos := "ref.go:58", after := #[{ on := 10, ground := Ground.data }, { on := 27, ground := Ground.data }], guard := none }) (v := .int .u32 (((bits .xor .u32 (bits .xor .u32 (rot (ra) 4 1073741824) (rot (ra) 8192 524288)) (rot (ra) 4194304 1024)) + (bits .xor .u32 (bits .xor .u32 (bits .and .u32 (ra) (rb)) (bits .and .u32 (ra) (rc))) (bits .and .u32 (rb) (rc)))) % 4294967296)) rfl (by kernel_rfl) (by kernel_rfl) (by kernel_rfl) (fun _ _ _ h => h) (Or.inl ⟨by rfl, by intro W hSw; go_simp; first | done | exact u32w _ | (rw [u32w]; first | rfl | omega) | omega | exact wrap_int _ (by omega) (by omega)⟩) hHeld ?_
      try simp only [Act.put, List.setIfInBounds_toArray, List.set_cons_zero, List.set_cons_succ]
      refine wpAnyH_take (i := 29) (oi := { dst := some 9, op := Op.assign (Operand.tmp 81), type := 46, pos := "ref.go:58", after := #[{ on := 28, ground := Ground.data }, { on := 9, ground := Ground.chain }, { on := 0, ground := Ground.phase }, { on := 1, ground := Ground.phase }, { on := 2, ground := Ground.phase }, { on := 3, ground := Ground.phase }, { on := 4, ground := Ground.phase }, { on := 5, ground := Ground.phase }, { on := 6, ground := Ground.phase }, { on := 7, ground := Ground.phase }, { on := 8, ground := Ground.phase }, { on := 9, ground := Ground.phase }, { on := 10, ground := Ground.phase }, { on := 11, ground := Ground.phase }, { on := 12, ground := Ground.phase }, { on := 13, ground := Ground.phase }, { on := 14, ground := Ground.phase }, { on := 15, ground := Ground.phase }, { on := 16, ground := Ground.phase }, { on := 17, ground := Ground.phase }, { on := 18, ground := Ground.phase }, { on := 19, ground := Ground.phase }, { on := 20, ground := Ground.phase }, { on := 21, ground := Ground.phase }, { on := 22, ground := Ground.phase }, { on := 23, ground := Ground.phase }, { on := 24, ground := Ground.phase }, { on := 25, ground := Ground.phase }, { on := 26, ground := Ground.phase }, { on := 27, ground := Ground.phase }, { on := 28, ground := Ground.phase }], guard := none }) (v := .int .u32 (((bits .xor .u32 (bits .xor .u32 (rot (ra) 4 1073741824) (rot (ra) 8192 524288)) (rot (ra) 4194304 1024)) + (bits .xor .u32 (bits .xor .u32 (bits .and .u32 (ra) (rb)) (bits .and .u32 (ra) (rc))) (bits .and .u32 (rb) (rc)))) % 4294967296)) rfl (by kernel_rfl) (by kernel_rfl) (by kernel_rfl) (fun _ _ _ h => h) (Or.inl ⟨by rfl, by intro W hSw; go_simp⟩) hHeld ?_
      try simp only [Act.put, List.setIfInBounds_toArray, List.set_cons_zero, List.set_cons_succ]
      refine wpAnyH_done (by kernel_rfl) ?_ _
      have F2 : ∀ X Y : Int, (Tryd.prog.info? 47).map (·.size) = some (#[.int .u32 X, .int .u32 ra, .int .u32 rb, .int .u32 rc, .int .u32 Y, .int .u32 re, .int .u32 rf, .int .u32 rg] : Array Value).size := fun X Y => size38
      have F4 : ∀ X Y : Int, (#[.int .u32 X, .int .u32 ra, .int .u32 rb, .int .u32 rc, .int .u32 Y, .int .u32 re, .int .u32 rf, .int .u32 rg] : Array Value).all (·.oneCell') = true := fun X Y => wcells_all [X, ra, rb, rc, Y, re, rf, rg]
      have F5 : ∀ X Y : Int, X = (Sums.step ⟨ra, rb, rc, rd, re, rf, rg, rh⟩ kk ww).a → Y = (Sums.step ⟨ra, rb, rc, rd, re, rf, rg, rh⟩ kk ww).e →
          (#[.int .u32 X, .int .u32 ra, .int .u32 rb, .int .u32 rc, .int .u32 Y, .int .u32 re, .int .u32 rf, .int .u32 rg] : Array Value) = (wcells (Sums.step ⟨ra, rb, rc, rd, re, rf, rg, rh⟩ kk ww).list).toArray := by
        rintro _ _ rfl rfl; rfl
      have HF2 : Hid _ := F2
      have HF4 : Hid _ := F4
      have HF5 : Hid _ := F5
      clear F2 F4 F5
      go_wp2_with (first
        | (refine wpList_store_row rfl 47 (.tmp 6) (.tmp 101) rfl (gw + 1) _ rfl (by rfl) 47 (wcells (⟨ra, rb, rc, rd, re, rf, rg, rh⟩ : St).list).toArray HG.out.2.2.2 (HF2.out _ _) rfl (HF4.out _ _) ?_)
        | fail)
      go_roundw
      case rel =>
        refine ⟨k + 1, by omega, by go_num, ⟨?_, ?_, ?_, ?_⟩, below_setRow (below_drewN hB _) (by omega) _⟩
        · rw [setRow_other _ _ _ _ (by omega)]; exact HG.out.1
        · rw [setRow_other _ _ _ _ (by omega)]; exact HG.out.2.1
        · rw [setRow_other _ _ _ _ (by omega)]; exact HG.out.2.2.1
        · rw [← HE.out, HF5.out _ _ ?hx ?hy]
          · exact setRow_heap _ _ _ _ 47 _ HG.out.2.2.2
          · simp only [Sums.step, pOf, qOf, add32, xor32, and32, not32]
            omega
          · simp only [Sums.step, pOf, qOf, add32, xor32, and32, not32]
            omega
      case measure => simp [intOf]; omega
    · obtain rfl : k = 64 := by omega
      have HE : Hid (block s bl = plus s r) := by
        show _ = _
        rw [HR.out]
        rfl
      have HD1 : Hid (wr.heap[w.heap.size]? = some (.cells (wcells (mixl s.list (plus s r).list 0)).toArray 47 (0, 0))) := by
        show _ = _
        rw [HG.out.1, HD.out]; rfl
      have HGr : Hid (wr.heap[w.heap.size + 1]? = some (.cells Z8 47 (0, 0)) ∧ wr.heap[gw + 1]? = some (.cells (wcells r.list).toArray 47 (0, 0))) := ⟨HG.out.2.1, HG.out.2.2.2⟩
      clear HG HR HD
      simp only [Int.cast_ofNat_Int]
      go_wp2
      go_loopw [10] (fun v wt => ∃ i : Nat, i ≤ 8 ∧ v = .int .i64 i ∧ Hid (wt.heap[w.heap.size]? = some (.cells (wcells (mixl s.list (plus s r).list i)).toArray 47 (0, 0))) ∧
          Hid (wt.heap[w.heap.size + 1]? = some (.cells Z8 47 (0, 0)) ∧ wt.heap[gw + 1]? = some (.cells (wcells r.list).toArray 47 (0, 0))) ∧ Below w.heap.size w wt)
        (fun v _ => 8 - (intOf v).toNat)
      case atStart => exact ⟨0, by omega, rfl, HD1, HGr, hB⟩
      case round =>
        clear HD1 HGr hB
        obtain ⟨i, hi, rfl, HD, HG, hB⟩ := hrel
        by_cases hlt : i < 8
        · have hdi : decide ((i : Int) < 8) = true := by rw [decide_eq_true_eq]; omega
          obtain ⟨x, HX⟩ : ∃ x, Hid (x = s.list[i]'(by rw [list_length]; exact hlt)) := ⟨_, (rfl : s.list[i]'(by rw [list_length]; exact hlt) = _)⟩
          obtain ⟨y, HY⟩ : ∃ y, Hid (y = r.list[i]'(by rw [list_length]; exact hlt)) := ⟨_, (rfl : r.list[i]'(by rw [list_length]; exact hlt) = _)⟩
          have HML : Hid ((mixl s.list (plus s r).list i).length = 8) := mixl_length _ _ i rfl rfl (by omega)
          have cx : wr.cell? ⟨w.heap.size, i, none⟩ = some (.int .u32 x) := by
            rw [wrow_cell HD.out i (by rw [HML.out]; exact hlt), mixl_at _ _ i rfl rfl hlt, HX.out]
          have cy : wr.cell? ⟨gw + 1, i, none⟩ = some (.int .u32 y) := by
            rw [wrow_cell HG.out.2 i (by rw [list_length]; exact hlt), HY.out]
          have hfz : wr.frozen? ⟨w.heap.size, i, none⟩ = false := frozen_of_row wr _ i _ 47 HD.out
          have HN : Hid ((mixl s.list (plus s r).list i).set i ((x + y) % 4294967296) = mixl s.list (plus s r).list (i + 1)) := by
            show _ = _
            rw [HX.out, HY.out]
            exact mixl_next s r i hlt (by rw [list_length]; exact hlt) (by rw [list_length]; exact hlt)
          have ia := fun W => idxE W w.heap.size i (i : Int) rfl hlt
          have ib := fun W => idxE W (gw + 1) i (i : Int) rfl hlt
          have hwn : IntKind.u32.wrap (x + y) = (x + y) % 4294967296 := u32w _
          go_wp2
          refine wp_region_held_drew (S := (fun _ => True)) (by kernel_rfl) trivial (fun hHeld => ?_)
          refine wpAnyH_take (i := 0) (oi := { dst := some 106, op := Op.move (Operand.tmp 10), type := 3, pos := "ref.go:62", after := #[], guard := none }) (v := .int .i64 (i : Int)) rfl (by kernel_rfl) (by kernel_rfl) (by kernel_rfl) (fun _ _ _ h => h) (Or.inl ⟨by rfl, by intro W hSw; go_simp⟩) hHeld ?_
          try simp only [Act.put, List.setIfInBounds_toArray, List.set_cons_zero, List.set_cons_succ]
          refine wpAnyH_take (i := 1) (oi := { dst := some 107, op := Op.move (Operand.tmp 10), type := 3, pos := "ref.go:62", after := #[], guard := none }) (v := .int .i64 (i : Int)) rfl (by kernel_rfl) (by kernel_rfl) (by kernel_rfl) (fun _ _ _ h => h) (Or.inl ⟨by rfl, by intro W hSw; go_simp⟩) hHeld ?_
          try simp only [Act.put, List.setIfInBounds_toArray, List.set_cons_zero, List.set_cons_succ]
          refine wpAnyH_take (i := 2) (oi := { dst := some 108, op := Op.indexAddr 47 (Operand.tmp 2) (Operand.tmp 107), type := 0, pos := "ref.go:62", after := #[{ on := 1, ground := Ground.data }], guard := none }) (v := .pointer (some ⟨w.heap.size, i, none⟩)) rfl (by kernel_rfl) (by kernel_rfl) (by kernel_rfl) (fun _ _ _ h => h) (Or.inl ⟨by rfl, by intro W hSw; go_simp⟩) hHeld ?_
          try simp only [Act.put, List.setIfInBounds_toArray, List.set_cons_zero, List.set_cons_succ]
          refine wpAnyH_take (i := 4) (oi := { dst := some 110, op := Op.move (Operand.tmp 10), type := 3, pos := "ref.go:62", after := #[], guard := none }) (v := .int .i64 (i : Int)) rfl (by kernel_rfl) (by kernel_rfl) (by kernel_rfl) (fun _ _ _ h => h) (Or.inl ⟨by rfl, by intro W hSw; go_simp⟩) hHeld ?_
          try simp only [Act.put, List.setIfInBounds_toArray, List.set_cons_zero, List.set_cons_succ]
          refine wpAnyH_take (i := 5) (oi := { dst := some 111, op := Op.indexAddr 47 (Operand.tmp 6) (Operand.tmp 110), type := 0, pos := "ref.go:62", after := #[{ on := 4, ground := Ground.data }], guard := none }) (v := .pointer (some ⟨gw + 1, i, none⟩)) rfl (by kernel_rfl) (by kernel_rfl) (by kernel_rfl) (fun _ _ _ h => h) (Or.inl ⟨by rfl, by intro W hSw; go_simp⟩) hHeld ?_
          try simp only [Act.put, List.setIfInBounds_toArray, List.set_cons_zero, List.set_cons_succ]
          refine wpAnyH_ready (rs := [3, 6]) (by kernel_rfl) (by simp) ?_
          refine (AllReadyH.cons (o := { dst := some 109, op := Op.load 46 (Operand.tmp 108), type := 46, pos := "ref.go:62", after := #[{ on := 2, ground := Ground.data }], guard := none }) rfl (fun K hK => ?_) (AllReadyH.cons (o := { dst := some 112, op := Op.load 46 (Operand.tmp 111), type := 46, pos := "ref.go:62", after := #[{ on := 5, ground := Ground.data }], guard := none }) rfl (fun K hK => ?_) AllReadyH.nil))
          · go_simp
            refine hK.out _ _ trivial (fun hHeld => ?_)
            clear hK K
            try simp only [Act.put, List.setIfInBounds_toArray, List.set_cons_zero, List.set_cons_succ]
            refine wpAnyH_ready (rs := [6]) (by kernel_rfl) (by simp) ?_
            refine (AllReadyH.cons (o := { dst := some 112, op := Op.load 46 (Operand.tmp 111), type := 46, pos := "ref.go:62", after := #[{ on := 5, ground := Ground.data }], guard := none }) rfl (fun K hK => ?_) AllReadyH.nil)
            go_simp
            refine hK.out _ _ trivial (fun hHeld => ?_)
            clear hK K
            try simp only [Act.put, List.setIfInBounds_toArray, List.set_cons_zero, List.set_cons_succ]
            refine wpAnyH_take (i := 7) (oi := { dst := some 113, op := Op.binOp BinOp.add 46 (Operand.tmp 109) (Operand.tmp 112) 46, type := 46, pos := "ref.go:62", after := #[{ on := 3, ground := Ground.data }, { on := 6, ground := Ground.data }], guard := none }) (v := .int .u32 ((x + y) % 4294967296)) rfl (by kernel_rfl) (by kernel_rfl) (by kernel_rfl) (fun _ _ _ h => h) (Or.inl ⟨by rfl, by intro W hSw; go_simp⟩) hHeld ?_
            try simp only [Act.put, List.setIfInBounds_toArray, List.set_cons_zero, List.set_cons_succ]
            refine wpAnyH_take (i := 8) (oi := { dst := some 114, op := Op.indexAddr 47 (Operand.tmp 2) (Operand.tmp 106), type := 0, pos := "ref.go:62", after := #[{ on := 0, ground := Ground.data }, { on := 0, ground := Ground.phase }, { on := 1, ground := Ground.phase }, { on := 2, ground := Ground.phase }, { on := 3, ground := Ground.phase }, { on := 4, ground := Ground.phase }, { on := 5, ground := Ground.phase }, { on := 6, ground := Ground.phase }, { on := 7, ground := Ground.phase }], guard := none }) (v := .pointer (some ⟨w.heap.size, i, none⟩)) rfl (by kernel_rfl) (by kernel_rfl) (by kernel_rfl) (fun _ _ _ h => h) (Or.inl ⟨by rfl, by intro W hSw; go_simp⟩) hHeld ?_
            try simp only [Act.put, List.setIfInBounds_toArray, List.set_cons_zero, List.set_cons_succ]
            refine wpAnyH_ready (rs := [9]) (by kernel_rfl) (by simp) ?_
            refine (AllReadyH.cons (o := { dst := none, op := Op.store 46 (Operand.tmp 114) (Operand.tmp 113), type := 0, pos := "ref.go:62", after := #[{ on := 8, ground := Ground.data }, { on := 7, ground := Ground.data }, { on := 0, ground := Ground.phase }, { on := 1, ground := Ground.phase }, { on := 2, ground := Ground.phase }, { on := 3, ground := Ground.phase }, { on := 4, ground := Ground.phase }, { on := 5, ground := Ground.phase }, { on := 6, ground := Ground.phase }, { on := 7, ground := Ground.phase }], guard := none }) rfl (fun K hK => ?_) AllReadyH.nil)
            go_simp
            refine hK.out _ _ trivial (fun hHeld => ?_)
            clear hK K
            try simp only [Act.put, List.setIfInBounds_toArray, List.set_cons_zero, List.set_cons_succ]
            refine wpAnyH_done (by kernel_rfl) ?_ _
            go_wp2
            go_roundw
            case rel => exact ⟨i + 1, by omega, by go_num, (by show _ = _; rw [← HN.out]; exact wrow_set (w := wr) HD.out i _), ⟨(heap_setCell_other wr _ _ _ (by simp)).trans HG.out.1, (heap_setCell_other wr _ _ _ (by simp; omega)).trans HG.out.2⟩, (hB.setCell (by simp) _).drew⟩
            case measure => simp [intOf]; omega
          · go_simp
            refine hK.out _ _ trivial (fun hHeld => ?_)
            clear hK K
            try simp only [Act.put, List.setIfInBounds_toArray, List.set_cons_zero, List.set_cons_succ]
            refine wpAnyH_ready (rs := [3]) (by kernel_rfl) (by simp) ?_
            refine (AllReadyH.cons (o := { dst := some 109, op := Op.load 46 (Operand.tmp 108), type := 46, pos := "ref.go:62", after := #[{ on := 2, ground := Ground.data }], guard := none }) rfl (fun K hK => ?_) AllReadyH.nil)
            go_simp
            refine hK.out _ _ trivial (fun hHeld => ?_)
            clear hK K
            try simp only [Act.put, List.setIfInBounds_toArray, List.set_cons_zero, List.set_cons_succ]
            refine wpAnyH_take (i := 7) (oi := { dst := some 113, op := Op.binOp BinOp.add 46 (Operand.tmp 109) (Operand.tmp 112) 46, type := 46, pos := "ref.go:62", after := #[{ on := 3, ground := Ground.data }, { on := 6, ground := Ground.data }], guard := none }) (v := .int .u32 ((x + y) % 4294967296)) rfl (by kernel_rfl) (by kernel_rfl) (by kernel_rfl) (fun _ _ _ h => h) (Or.inl ⟨by rfl, by intro W hSw; go_simp⟩) hHeld ?_
            try simp only [Act.put, List.setIfInBounds_toArray, List.set_cons_zero, List.set_cons_succ]
            refine wpAnyH_take (i := 8) (oi := { dst := some 114, op := Op.indexAddr 47 (Operand.tmp 2) (Operand.tmp 106), type := 0, pos := "ref.go:62", after := #[{ on := 0, ground := Ground.data }, { on := 0, ground := Ground.phase }, { on := 1, ground := Ground.phase }, { on := 2, ground := Ground.phase }, { on := 3, ground := Ground.phase }, { on := 4, ground := Ground.phase }, { on := 5, ground := Ground.phase }, { on := 6, ground := Ground.phase }, { on := 7, ground := Ground.phase }], guard := none }) (v := .pointer (some ⟨w.heap.size, i, none⟩)) rfl (by kernel_rfl) (by kernel_rfl) (by kernel_rfl) (fun _ _ _ h => h) (Or.inl ⟨by rfl, by intro W hSw; go_simp⟩) hHeld ?_
            try simp only [Act.put, List.setIfInBounds_toArray, List.set_cons_zero, List.set_cons_succ]
            refine wpAnyH_ready (rs := [9]) (by kernel_rfl) (by simp) ?_
            refine (AllReadyH.cons (o := { dst := none, op := Op.store 46 (Operand.tmp 114) (Operand.tmp 113), type := 0, pos := "ref.go:62", after := #[{ on := 8, ground := Ground.data }, { on := 7, ground := Ground.data }, { on := 0, ground := Ground.phase }, { on := 1, ground := Ground.phase }, { on := 2, ground := Ground.phase }, { on := 3, ground := Ground.phase }, { on := 4, ground := Ground.phase }, { on := 5, ground := Ground.phase }, { on := 6, ground := Ground.phase }, { on := 7, ground := Ground.phase }], guard := none }) rfl (fun K hK => ?_) AllReadyH.nil)
            go_simp
            refine hK.out _ _ trivial (fun hHeld => ?_)
            clear hK K
            try simp only [Act.put, List.setIfInBounds_toArray, List.set_cons_zero, List.set_cons_succ]
            refine wpAnyH_done (by kernel_rfl) ?_ _
            go_wp2
            go_roundw
            case rel => exact ⟨i + 1, by omega, by go_num, (by show _ = _; rw [← HN.out]; exact wrow_set (w := wr) HD.out i _), ⟨(heap_setCell_other wr _ _ _ (by simp)).trans HG.out.1, (heap_setCell_other wr _ _ _ (by simp; omega)).trans HG.out.2⟩, (hB.setCell (by simp) _).drew⟩
            case measure => simp [intOf]; omega
        · obtain rfl : i = 8 := by omega
          obtain ⟨D2, HD2, HSD2, H1D2, H8D2⟩ := words_row (plus s r).list 47 8 rfl size38
          have HL2 : Hid (wr.heap[w.heap.size]? = some (.cells D2 47 (0, 0))) := by
            show _ = _
            rw [HD2.out]
            have := HD.out
            rw [show mixl s.list (plus s r).list 8 = (plus s r).list by unfold mixl; rfl] at this
            exact this
          have HZD : Hid (Z8.size = D2.size) := by show _ = _; rw [H8.out, H8D2.out]
          clear HD
          go_wp2_with (first
            | (refine wpList_load_row rfl 47 (.tmp 2) rfl w.heap.size rfl 47 D2 (0, 0) _ HL2.out Tryd.underlying47 rfl HSD2.out ?_)
            | (refine wpList_store_row rfl 47 (.tmp 4) (.tmp 115) rfl (w.heap.size + 1) D2 rfl rfl 47 Z8 HG.out.1 HSD2.out HZD.out H1D2.out ?_)
            | fail)
          refine bodyPost_ret (v := .agg D2) ?_ rfl ⟨by rw [HE.out, ← HD2.out], ?_⟩
          · exact results_cell_row (p := 4) (ty := 47) rfl _ _ (w.heap.size + 1) 47 D2 (0, 0) _ rfl (setRow_heap _ _ _ _ 47 _ HG.out.1) Tryd.underlying47 rfl HSD2.out
          · exact below_setRow hB (by omega) _
end Go.Proofs.YtkmndchbmbhlhaaDoor
