/- Texts of our own that the row of TopJournal leans on, part 33. -/
import Derived.Test.YtgclohgcehhfnabGreatDoorTopJournalJ0
import Derived.Test.YtgclohgcehhfnabGreatDoorTopJournalJ15
import Derived.Test.YtgclohgcehhfnabGreatDoorTopJournalJ18
import Derived.Test.YtgclohgcehhfnabGreatDoorTopJournalJ26
import Derived.Test.YtgclohgcehhfnabGreatDoorTopJournalJ29
import Derived.OpenShut
import Derived.ChangeArms
/- What PutItem hands out is new. -/
namespace Go.Proofs.YtgclohgcehhfnabGreatDoor
open Go.RowKit Sums Nums
set_option linter.unusedVariables false
set_option linter.unusedSimpArgs false
set_option maxRecDepth 100000
theorem reads_own2 {w : World} {B : Nat} {v : Value} {l : List UInt8} (h : w.ownsRow B 5 1 v l.length (cellsOf l)) : ∃ a cap, v = .slice a l.length cap ∧ Reads w a l.length cap l ∧ ∀ b off, a = some ⟨b, off, none⟩ → B ≤ b := by
  obtain ⟨a, cap, rfl, hr⟩ := reads_own h
  refine ⟨a, cap, rfl, hr, fun b off e => ?_⟩
  subst e
  rcases h.2 with ⟨e, _⟩ | ⟨g, cp, cur, e, hb, _⟩
  · cases e
  · cases e; exact hb
theorem eLay_new (W : World) (cs : Array Value) (fs : List (Int × ByteArray)) (n : Nat) (l : List UInt8) (hcs : cs.toList = fcells fs) (hn : fs.length = n) (h4 : n ≤ 400) (hm : ∀ f ∈ fs, f.2.size ≤ maxLen) (hk : layE 0 fs = 0) (hl : rowB fs = l) :
    Calls Tryz.prog 23 #[.slice (some ⟨W.heap.size, 0, none⟩) n n] (W.alloc (.cells cs 72)) fun e w' => ∃ a c, e = .returned (.tuple #[.slice a l.length c, .int .i64 0]) ∧ Reads w' a l.length c l ∧ (∀ b off, a = some ⟨b, off, none⟩ → W.heap.size ≤ b) ∧ Below W.heap.size W w' := by
  subst hn
  have hF := freads_lit W cs (0, 0) fs hcs (by omega) hm
  rw [← alloc_size W (.cells cs 72)] at hF
  refine (lay_any (some ⟨W.heap.size, 0, none⟩) fs.length fs.length fs _ hF h4).mono ?_
  rintro e w' ⟨v, rfl, hown, hb⟩
  rw [eRow_ok hk, hl] at hown
  obtain ⟨a, c, rfl, hrd, hn⟩ := reads_own2 hown
  refine ⟨a, c, by rw [hk], hrd, fun b off e => Nat.le_trans (by simp) (hn b off e), ((Below.refl _ _).alloc (Nat.le_refl _) _).trans (hb.mono (by simp))⟩
set_option maxHeartbeats 8000000 in
theorem putI_new (x : ItT) (hin : InI x) (hright : rightI x = true) (w : World) (X : Array Value) (HX : Hid (X = (icells x).toArray)) :
    Calls Tryz.prog 9 #[.agg X] w fun e w' => (∃ a c, e = .returned (.tuple #[.slice a (itemB x).length c, .int .i64 0]) ∧ Reads w' a (itemB x).length c (itemB x) ∧ ∀ b off, a = some ⟨b, off, none⟩ → w.heap.size ≤ b) ∧ Below w.heap.size w w' := by
  have hnot : ∀ (x : Bool) (w : World), (Op.unary .not (.bool x)).run Tryz.prog w = .ok (.bool (!x)) w := fun _ _ => rfl
  have ok := hin.e.ok
  have HX0 : Hid ((w.alloc (.cells X 49)).heap[w.heap.size]? = some (.cells X 49 (0, 0))) := heap_alloc_new w _
  have HB : Hid (Below w.heap.size w (w.alloc (.cells X 49))) := (Below.refl _ _).alloc (Nat.le_refl _) _
  obtain ⟨Q, HQ, HSQ, H1Q, HNQ⟩ := entry_row x.e ok
  obtain ⟨k, Hk⟩ : ∃ k, Hid (k = x.p) := ⟨_, hidk rfl⟩
  have KP : Hid (∀ W : World, W.heap[w.heap.size]? = some (.cells X 49 (0, 0)) → W.cell? ⟨w.heap.size, 0, none⟩ = some (.int .i64 k)) := fun W h => by rw [Hk.out]; exact (irow_row HX h).1
  have KQ : Hid (∀ W : World, W.heap[w.heap.size]? = some (.cells X 49 (0, 0)) → W.rangeAt w.heap.size 1 Q.toList) := fun W h => by rw [HQ.out]; exact (irow_row HX h).2
  obtain ⟨l, Hl⟩ : ∃ l, Hid (l = eB x.e) := ⟨_, hidk rfl⟩
  obtain ⟨E, HE⟩ : ∃ l, Hid (l = eE x.e) := ⟨_, hidk rfl⟩
  have P1 : Hid (∀ W, Calls Tryz.prog 21 #[.agg Q] W fun e w' => (∃ a c, e = .returned (.tuple #[.slice a l.length c, .int .i64 E]) ∧ Reads w' a l.length c l) ∧ Below W.heap.size W w') := fun W => by rw [Hl.out, HE.out]; exact ePutE_any x.e hin.e W Q HQ
  obtain ⟨u, hu⟩ : ∃ u, (decide (1 ≤ k) && decide (k ≤ 900000000)) = u := ⟨_, rfl⟩
  have W1 : Hid (∀ W, Calls Tryz.prog 22 #[.int .i64 k, .int .i64 1, .int .i64 900000000] W fun e w' => e = .returned (.bool u) ∧ w' = W) := fun W => by rw [← hu]; exact eWithin_any k 1 900000000 W
  obtain ⟨n1, Hn1⟩ : ∃ n, Hid (n = nOf k) := ⟨_, hidk rfl⟩
  obtain ⟨y, Hy⟩ : ∃ y : ByteArray, Hid (y = bA l) := ⟨_, hidk rfl⟩
  have N1 : Hid (∀ W, Calls Tryz.prog 24 #[.int .i64 1, .int .i64 k] W fun e w' => e = .returned (.agg #[.int .i64 1, .string n1]) ∧ Below W.heap.size W w') := fun W => by rw [Hn1.out]; exact eNum_any 1 k W
  have hri : rightI x = (u && rightE x.e) := by unfold rightI; rw [← hu, Hk.out]
  obtain ⟨L, HL⟩ : ∃ l, Hid (l = iB x) := ⟨_, hidk rfl⟩
  obtain ⟨K, HK⟩ : ∃ l, Hid (l = iE x) := ⟨_, hidk rfl⟩
  have HNO : Hid (u = false ∨ E = 60 → L = [] ∧ K = 60) := fun h => by
    have hr : rightI x = false := by
      rw [hri]
      rcases h with h | h
      · rw [h]; rfl
      · rcases eE_two x.e with h2 | h2
        · rw [HE.out, h2.1] at h; cases h
        · rw [h2.2]; simp
    rw [HL.out, HK.out]
    unfold iB iE
    rw [hr]
    exact ⟨rfl, rfl⟩
  have HYES : Hid (u = true → E = 0 → L = itemB x ∧ K = 0 ∧ rightI x = true ∧ l = entryB x.e) := fun h0 h => by
    have hre : rightE x.e = true := by
      rcases eE_two x.e with h2 | h2
      · exact h2.2
      · rw [HE.out, h2.1] at h; cases h
    have hr : rightI x = true := by rw [hri, h0, hre]; rfl
    rw [HL.out, HK.out, Hl.out]
    unfold iB iE eB
    rw [if_pos hr, if_pos hr, if_pos hre]
    exact ⟨rfl, rfl, hr, rfl⟩
  have LY : Hid (u = true → E = 0 → ∀ W, Calls Tryz.prog 23 #[.slice (some ⟨W.heap.size, 0, none⟩) 2 2] (W.alloc (.cells #[.int .i64 1, .string n1, .int .i64 2, .string y] 72)) fun e w' => ∃ a c, e = .returned (.tuple #[.slice a L.length c, .int .i64 0]) ∧ Reads w' a L.length c L ∧ (∀ b off, a = some ⟨b, off, none⟩ → W.heap.size ≤ b) ∧ Below W.heap.size W w') := fun h0 h W => by
    obtain ⟨e1, _, hr, e4⟩ := HYES.out h0 h
    have hk := layE_iL hr ok
    have hL2 : fieldsN (iL x) = [(1, n1), (2, y)] := by rw [Hn1.out, Hy.out, e4, Hk.out]; rfl
    rw [hL2] at hk
    refine eLay_new W _ [((1 : Int), n1), (2, y)] 2 L rfl rfl (by omega) (fun z hz => ?_) hk (by rw [e1, ← hL2]; rfl)
    simp only [List.mem_cons, List.not_mem_nil, or_false] at hz
    unfold maxLen
    rcases hz with rfl | rfl
    · have := nOf_size k; rw [← Hn1.out] at this; show n1.size ≤ _; omega
    · have h5 := bA_size l; rw [← Hy.out] at h5; have := eB_length x.e ok; rw [← Hl.out] at this; show y.size ≤ _; omega
  have hu1 : u = true := by
    have h := hright
    rw [hri] at h
    cases u
    · cases h
    · rfl
  have hE0 : E = 0 := by
    have h := hright
    rw [hri, hu1, Bool.true_and] at h
    rw [HE.out]
    unfold eE
    rw [if_pos h]
  have hLi : itemB x = L := (HYES.out hu1 hE0).1.symm
  rw [hLi]
  subst hE0
  subst hu1
  clear HX HQ Hk Hl HE hu Hn1 hri HL HK ok hin H1Q HNQ hLi hright HNO
  obtain rfl : K = 0 := (HYES.out rfl rfl).2.1
  have LY2 := hidk (LY.out rfl rfl)
  clear HYES LY
  go_enter Tryz.func9, Tryz.ntmps9
  go_wp2_with (first
    | (show aD 8 _ _ _ _ _ _ _ _ _ _ _; refine wpList_mid rfl 47 (.tmp 7) rfl w.heap.size 1 rfl Q _ (KQ.out _ HX0.out) Tryz.underlying47 rfl HSQ.out ?_; try simp only [Act.put, pS1, pS2, pS3])
    | fail)
  refine (P1.out _).mono ?_
  rintro e w1 ⟨⟨a1, c1, rfl, hr1⟩, hb1⟩
  have HB1 := hidk (HB.out.trans (hb1.mono HB.out.size))
  have HX1 := hidk ((hb1.block _ (heap_lt HX0.out)).trans HX0.out)
  have c0 := KP.out w1 HX1.out
  have CV : Hid (∀ W, Below w1.heap.size w1 W → Sem.run Tryz.prog (convert 34 9 (.slice a1 l.length c1)) W = .ok (.string y) W) := fun W h => by rw [Hy.out]; exact conv_reads (hr1.below h)
  clear hb1 hr1
  go_wp2_with fail
  refine (W1.out _).mono ?_
  rintro e w2 ⟨rfl, rfl⟩
  go_wp2
  refine wp_region_held_drew (S := (fun W => W.heap[w.heap.size]? = some (.cells X 49 (0, 0)) ∧ Below w2.heap.size w2 W)) (by kernel_rfl) ⟨HX1.out, (Below.refl _ _).drew⟩ (fun hHeld => ?_)
  refine zX 0 (.pointer (some ⟨w.heap.size, 0, none⟩)) rfl hHeld ?_
  try simp only [Act.put, pS1, pS2, pS3]
  refine zW 1 (.int .i64 k) rfl (Or.inl ⟨by rfl, by intro W hSw; have h1 := KP.out W hSw.1; go_simp⟩) hHeld ?_
  try simp only [Act.put, pS1, pS2, pS3]
  refine zX 3 (.slice a1 l.length c1) rfl hHeld ?_
  try simp only [Act.put, pS1, pS2, pS3]
  refine zW 4 (.string y) rfl (Or.inl ⟨by rfl, by intro W hSw; have h1 := CV.out W hSw.2; go_simp⟩) hHeld ?_
  try simp only [Act.put, pS1, pS2, pS3]
  refine zX 5 (.agg #[.int .i64 2, .string y]) rfl hHeld ?_
  try simp only [Act.put, pS1, pS2, pS3]
  refine wpAnyH_ready (rs := [2]) (by kernel_rfl) (by simp) ?_
  refine (AllReadyH.cons (o := { dst := some 22, op := .call { callee := .value (.func 24), args := #[.const (.int .i64 1), .tmp 21], argTypes := #[3, 3] }, type := 72, pos := "entry.go:97", after := #[zD 1], guard := none }) rfl (fun K hK => ?_) AllReadyH.nil)
  go_simp
  refine (N1.out _).mono ?_
  rintro e w3 ⟨rfl, hb3⟩
  have HBc := hidk (HB1.out.drew.trans (hb3.mono HB1.out.size))
  go_wp2_with fail
  refine hK.out _ _ ⟨(hb3.block _ (heap_lt HX1.out)).trans HX1.out, hHeld.2.trans (hb3.mono hHeld.2.size)⟩ (fun hHeld => ?_)
  clear hK K
  try simp only [Act.put, pS1, pS2, pS3]
  refine wpAnyH_ready (rs := [6]) (by kernel_rfl) (by simp) ?_
  refine (AllReadyH.cons (o := { dst := some 26, op := .buildSlice 74 2 #[(0, .tmp 22), (1, .tmp 25)], type := 74, pos := "entry.go:96", after := #[zD 2, zD 5], guard := none }) rfl (fun K hK => ?_) AllReadyH.nil)
  have HHc := hidk hHeld
  go_simp
  refine hK.out _ _ ⟨heap_keep hHeld.1, hHeld.2.alloc hHeld.2.size _⟩ (fun hHeld => ?_)
  clear hK K
  try simp only [Act.put, pS1, pS2, pS3]
  refine wpAnyH_ready (rs := [7]) (by kernel_rfl) (by simp) ?_
  refine (AllReadyH.cons (o := { dst := some 27, op := .call { callee := .value (.func 23), args := #[.tmp 26], argTypes := #[74] }, type := 35, pos := "entry.go:96", after := #[zD 6, zC 2], guard := none }) rfl (fun K hK => ?_) AllReadyH.nil)
  go_simp
  refine (LY2.out _).mono ?_
  rintro e w7 ⟨a7, c7, rfl, hrd, hnw, hb7⟩
  have HNW : Hid (∀ b off, a7 = some ⟨b, off, none⟩ → w.heap.size ≤ b) := fun b off e => Nat.le_trans HBc.out.size (hnw b off e)
  have HRD := hidk hrd
  have HBF := hidk (HBc.out.trans (hb7.mono HBc.out.size))
  go_wp2_with fail
  refine hK.out _ _ ⟨(hb7.block _ (heap_lt HHc.out.1)).trans HHc.out.1, HHc.out.2.trans (hb7.mono HHc.out.2.size)⟩ (fun hHeld => ?_)
  clear hK K
  try simp only [Act.put, pS1, pS2, pS3]
  refine zX 8 (.slice a7 L.length c7) rfl hHeld ?_
  try simp only [Act.put, pS1, pS2, pS3]
  refine zX 9 (.int .i64 0) rfl hHeld ?_
  try simp only [Act.put, pS1, pS2, pS3]
  refine zX 10 (.slice a7 L.length c7) rfl hHeld ?_
  try simp only [Act.put, pS1, pS2, pS3]
  refine zX 11 (.int .i64 0) rfl hHeld ?_
  try simp only [Act.put, pS1, pS2, pS3]
  refine wpAnyH_done (by kernel_rfl) ?_ _
  go_wp2
  go_ret2
  exact ⟨⟨_, _, rfl, HRD.out, HNW.out⟩, HBF.out⟩
end Go.Proofs.YtgclohgcehhfnabGreatDoor
/- Heads, signed heads and bytes that came in. -/
namespace Go.Proofs.YtgclohgcehhfnabGreatDoor
open Go.RowKit Sums Nums
set_option linter.unusedVariables false
set_option maxRecDepth 100000
variable {H : Type} {enc : TypeId × Value → H} {W : World} {base : Nat} {sp : Nat → Bool} {held : Bool} {fuel : Nat} {x : DataW H × List MemPlace}
theorem open_dig_cells {cs : List Value} (hf : DataW.trod enc Tryz.prog W base sp held fuel 39 cs = some x) : ∃ l : List UInt8, l.length = 32 ∧ cs = cellsOf l := by
  obtain ⟨xs, m, rfl, _, hl, hx, hall⟩ := DataW.trod_array Tryz.underlying39 hf
  have h1 : Tryz.prog.cellsOf 5 = 1 := by kernel_rfl
  have h32 : Tryz.prog.cellsOf 39 = 32 := by kernel_rfl
  rw [h32] at hl
  rw [h1] at hall
  simp only [Nat.mul_one] at hall
  have each : ∀ i, (hi : i < cs.length) → ∃ b : UInt8, cs[i] = .int .u8 b.toNat := by
    intro i hi
    have := hall i (by omega)
    rw [List.getElem?_eq_getElem (by omega)] at this
    obtain ⟨z, hz, _, hwf⟩ := DataW.trod_int Tryz.underlying5 this
    have e : (cs.drop i).take 1 = [cs[i]] := by
      rw [List.drop_eq_getElem_cons hi]; rfl
    rw [e] at hz
    simp at hz
    have hb := bounds_u8 hwf
    refine ⟨UInt8.ofNat z.toNat, ?_⟩
    rw [UInt8.toNat_ofNat', show ((z.toNat % 2 ^ 8 : Nat) : Int) = z by omega]
    simpa using hz
  refine ⟨cs.map fun v => match v with | .int _ n => UInt8.ofNat n.toNat | _ => 0, by simp; simpa using hl, ?_⟩
  unfold cellsOf
  rw [List.map_map]
  apply List.ext_getElem
  · simp
  · intro i h1 h2
    obtain ⟨b, hb⟩ := each i h1
    rw [List.getElem_map]
    rw [hb]
    simp
theorem open_int_cells {cs : List Value} (hf : DataW.trod enc Tryz.prog W base sp held fuel 3 cs = some x) : ∃ z : Int, In64 z ∧ cs = [.int .i64 z] := by
  obtain ⟨z, hz, _, hwf⟩ := DataW.trod_int Tryz.underlying3 hf
  exact ⟨z, bounds_i64 hwf, hz⟩
theorem part_some {xs : List (DataW H × List MemPlace)} {n i : Nat} (hl : xs.length = n) (hi : i < n) : ∃ y, xs[i]? = some y := ⟨xs[i]'(by omega), List.getElem?_eq_getElem (by omega)⟩
theorem open_head_cells {cs : List Value} (hf : DataW.trod enc Tryz.prog W base sp held fuel 41 cs = some x) : ∃ z : HdT, InH z ∧ cs = hcells z := by
  obtain ⟨xs, m, rfl, _, hl, hx, hall⟩ := DataW.trod_struct Tryz.underlying41 hf
  have h1 : Tryz.prog.cellsOf 3 = 1 := by kernel_rfl
  have h32 : Tryz.prog.cellsOf 39 = 32 := by kernel_rfl
  have h36 : Tryz.prog.cellsOf 41 = 36 := by kernel_rfl
  rw [h36] at hl
  obtain ⟨y0, e0⟩ := part_some hx (i := 0) (by decide)
  obtain ⟨y1, e1⟩ := part_some hx (i := 1) (by decide)
  obtain ⟨y2, e2⟩ := part_some hx (i := 2) (by decide)
  obtain ⟨y3, e3⟩ := part_some hx (i := 3) (by decide)
  obtain ⟨y4, e4⟩ := part_some hx (i := 4) (by decide)
  have f0 : DataW.trod enc Tryz.prog W base sp held m 3 ((cs.drop 0).take (Tryz.prog.cellsOf 3)) = some y0 := (hall 0 _ rfl).trans e0
  have f1 : DataW.trod enc Tryz.prog W base sp held m 3 ((cs.drop 1).take (Tryz.prog.cellsOf 3)) = some y1 := (hall 1 _ rfl).trans e1
  have f2 : DataW.trod enc Tryz.prog W base sp held m 3 ((cs.drop 2).take (Tryz.prog.cellsOf 3)) = some y2 := (hall 2 _ rfl).trans e2
  have f3 : DataW.trod enc Tryz.prog W base sp held m 39 ((cs.drop 3).take (Tryz.prog.cellsOf 39)) = some y3 := (hall 3 _ rfl).trans e3
  have f4 : DataW.trod enc Tryz.prog W base sp held m 3 ((cs.drop 35).take (Tryz.prog.cellsOf 3)) = some y4 := (hall 4 _ rfl).trans e4
  rw [h1] at f0 f1 f2 f4
  rw [h32] at f3
  obtain ⟨r, ir, cr⟩ := open_int_cells f0
  obtain ⟨e, ie, ce⟩ := open_int_cells f1
  obtain ⟨s, is, cs'⟩ := open_int_cells f2
  obtain ⟨d, id, cd⟩ := open_dig_cells f3
  obtain ⟨t, it, ct⟩ := open_int_cells f4
  refine ⟨⟨r, e, s, d, t⟩, ⟨id, ir, ie, is, it⟩, ?_⟩
  unfold hcells
  show cs = [Value.int .i64 r, .int .i64 e, .int .i64 s] ++ cellsOf d ++ [.int .i64 t]
  have k0 : cs = (cs.drop 0).take 1 ++ ((cs.drop 1).take 1 ++ ((cs.drop 2).take 1 ++ ((cs.drop 3).take 32 ++ (cs.drop 35).take 1))) := by
    have q4 : (cs.drop 35).take 1 = cs.drop 35 := List.take_of_length_le (by rw [List.length_drop]; omega)
    have q3 : (cs.drop 3).take 32 ++ cs.drop 35 = cs.drop 3 := by
      have := List.take_append_drop 32 (cs.drop 3)
      rw [List.drop_drop] at this
      exact this
    have q2 : (cs.drop 2).take 1 ++ cs.drop 3 = cs.drop 2 := by
      have := List.take_append_drop 1 (cs.drop 2)
      rw [List.drop_drop] at this
      exact this
    have q1 : (cs.drop 1).take 1 ++ cs.drop 2 = cs.drop 1 := by
      have := List.take_append_drop 1 (cs.drop 1)
      rw [List.drop_drop] at this
      exact this
    rw [q4, q3, q2, q1, List.drop_zero, List.take_append_drop]
  rw [cr, ce, cs', cd, ct] at k0
  rw [k0]
  simp
theorem open_signed_cells {cs : List Value} (hf : DataW.trod enc Tryz.prog W base sp held fuel 43 cs = some x) : ∃ z : SgT, InS z ∧ cs = scells z := by
  obtain ⟨xs, m, rfl, _, hl, hx, hall⟩ := DataW.trod_struct Tryz.underlying43 hf
  have h1 : Tryz.prog.cellsOf 3 = 1 := by kernel_rfl
  have h32 : Tryz.prog.cellsOf 39 = 32 := by kernel_rfl
  have h36 : Tryz.prog.cellsOf 41 = 36 := by kernel_rfl
  have h69 : Tryz.prog.cellsOf 43 = 69 := by kernel_rfl
  rw [h69] at hl
  obtain ⟨y0, e0⟩ := part_some hx (i := 0) (by decide)
  obtain ⟨y1, e1⟩ := part_some hx (i := 1) (by decide)
  obtain ⟨y2, e2⟩ := part_some hx (i := 2) (by decide)
  have f0 : DataW.trod enc Tryz.prog W base sp held m 41 ((cs.drop 0).take (Tryz.prog.cellsOf 41)) = some y0 := (hall 0 _ rfl).trans e0
  have f1 : DataW.trod enc Tryz.prog W base sp held m 3 ((cs.drop 36).take (Tryz.prog.cellsOf 3)) = some y1 := (hall 1 _ rfl).trans e1
  have f2 : DataW.trod enc Tryz.prog W base sp held m 39 ((cs.drop 37).take (Tryz.prog.cellsOf 39)) = some y2 := (hall 2 _ rfl).trans e2
  rw [h36] at f0
  rw [h1] at f1
  rw [h32] at f2
  obtain ⟨h, ih, ch⟩ := open_head_cells f0
  obtain ⟨n, inn, cn⟩ := open_int_cells f1
  obtain ⟨g, ig, cg⟩ := open_dig_cells f2
  refine ⟨⟨h, n, g⟩, ⟨ih, inn, ig⟩, ?_⟩
  unfold scells
  show cs = hcells h ++ [Value.int .i64 n] ++ cellsOf g
  have k0 : cs = (cs.drop 0).take 36 ++ ((cs.drop 36).take 1 ++ (cs.drop 37).take 32) := by
    have q3 : (cs.drop 37).take 32 = cs.drop 37 := List.take_of_length_le (by rw [List.length_drop]; omega)
    have q2 : (cs.drop 36).take 1 ++ cs.drop 37 = cs.drop 36 := by
      have := List.take_append_drop 1 (cs.drop 36)
      rw [List.drop_drop] at this
      exact this
    rw [q3, q2, List.drop_zero, List.take_append_drop]
  rw [ch, cn, cg] at k0
  rw [k0]
  simp
end Go.Proofs.YtgclohgcehhfnabGreatDoor
/- Claims that came in. -/
namespace Go.Proofs.YtgclohgcehhfnabGreatDoor
open Go.RowKit Sums Nums
set_option linter.unusedVariables false
set_option maxRecDepth 100000
variable {H : Type} {enc : TypeId × Value → H} {W : World} {base : Nat} {sp : Nat → Bool} {held : Bool} {fuel : Nat} {x : DataW H × List MemPlace}
theorem open_claim_cells {cs : List Value} (hf : DataW.trod enc Tryz.prog W base sp held fuel 45 cs = some x) : ∃ z : ClT, InC z ∧ cs = ccells z := by
  obtain ⟨xs, m, rfl, _, hl, hx, hall⟩ := DataW.trod_struct Tryz.underlying45 hf
  have h32 : Tryz.prog.cellsOf 39 = 32 := by kernel_rfl
  have h1 : Tryz.prog.cellsOf 3 = 1 := by kernel_rfl
  have hsz : Tryz.prog.cellsOf 45 = 36 := by kernel_rfl
  rw [hsz] at hl
  obtain ⟨y0, e0⟩ := part_some hx (i := 0) (by decide)
  obtain ⟨y1, e1⟩ := part_some hx (i := 1) (by decide)
  obtain ⟨y2, e2⟩ := part_some hx (i := 2) (by decide)
  obtain ⟨y3, e3⟩ := part_some hx (i := 3) (by decide)
  obtain ⟨y4, e4⟩ := part_some hx (i := 4) (by decide)
  have f0 : DataW.trod enc Tryz.prog W base sp held m 3 ((cs.drop 0).take (Tryz.prog.cellsOf 3)) = some y0 := (hall 0 _ rfl).trans e0
  have f1 : DataW.trod enc Tryz.prog W base sp held m 3 ((cs.drop 1).take (Tryz.prog.cellsOf 3)) = some y1 := (hall 1 _ rfl).trans e1
  have f2 : DataW.trod enc Tryz.prog W base sp held m 3 ((cs.drop 2).take (Tryz.prog.cellsOf 3)) = some y2 := (hall 2 _ rfl).trans e2
  have f3 : DataW.trod enc Tryz.prog W base sp held m 3 ((cs.drop 3).take (Tryz.prog.cellsOf 3)) = some y3 := (hall 3 _ rfl).trans e3
  have f4 : DataW.trod enc Tryz.prog W base sp held m 39 ((cs.drop 4).take (Tryz.prog.cellsOf 39)) = some y4 := (hall 4 _ rfl).trans e4
  rw [h1] at f0
  rw [h1] at f1
  rw [h1] at f2
  rw [h1] at f3
  rw [h32] at f4
  obtain ⟨r, ir, cr'⟩ := open_int_cells f0
  obtain ⟨e, ie, ce'⟩ := open_int_cells f1
  obtain ⟨n, in', cn'⟩ := open_int_cells f2
  obtain ⟨s, is, cs'⟩ := open_int_cells f3
  obtain ⟨d, id, cd'⟩ := open_dig_cells f4
  refine ⟨⟨r, e, n, s, d⟩, ⟨id, ir, ie, in', is⟩, ?_⟩
  unfold ccells
  show cs = [Value.int .i64 r, .int .i64 e, .int .i64 n, .int .i64 s] ++ cellsOf d
  have k0 : cs = ((cs.drop 0).take 1 ++ ((cs.drop 1).take 1 ++ ((cs.drop 2).take 1 ++ ((cs.drop 3).take 1 ++ (cs.drop 4).take 32)))) := by
    have q4 : (cs.drop 4).take 32 = cs.drop 4 := List.take_of_length_le (by rw [List.length_drop]; omega)
    have q3 : (cs.drop 3).take 1 ++ cs.drop 4 = cs.drop 3 := by
      have := List.take_append_drop 1 (cs.drop 3)
      rw [List.drop_drop] at this
      exact this
    have q2 : (cs.drop 2).take 1 ++ cs.drop 3 = cs.drop 2 := by
      have := List.take_append_drop 1 (cs.drop 2)
      rw [List.drop_drop] at this
      exact this
    have q1 : (cs.drop 1).take 1 ++ cs.drop 2 = cs.drop 1 := by
      have := List.take_append_drop 1 (cs.drop 1)
      rw [List.drop_drop] at this
      exact this
    rw [q4, q3, q2, q1, List.drop_zero, List.take_append_drop]
  rw [cr', ce', cn', cs', cd'] at k0
  rw [k0]
  all_goals simp
end Go.Proofs.YtgclohgcehhfnabGreatDoor
/- Entries and items that came in. -/
namespace Go.Proofs.YtgclohgcehhfnabGreatDoor
open Go.RowKit Sums Nums
set_option linter.unusedVariables false
set_option maxRecDepth 100000
variable {H : Type} {enc : TypeId × Value → H} {W : World} {base : Nat} {sp : Nat → Bool} {held : Bool} {fuel : Nat} {x : DataW H × List MemPlace}
theorem open_kind_cells {cs : List Value} (hf : DataW.trod enc Tryz.prog W base sp held fuel 37 cs = some x) : ∃ z : Int, In64 z ∧ cs = [.int .i64 z] := by
  obtain ⟨z, hz, _, hwf⟩ := DataW.trod_int Tryz.underlying37 hf
  exact ⟨z, bounds_i64 hwf, hz⟩
theorem open_str_cells {cs : List Value} (hf : DataW.trod enc Tryz.prog W base sp held fuel 9 cs = some x) : ∃ s : ByteArray, s.size ≤ maxLen ∧ cs = [.string s] := by
  obtain ⟨s, hz, _, hwf⟩ := DataW.trod_string Tryz.underlying9 hf
  exact ⟨s, hwf, hz⟩
theorem open_entry_cells {cs : List Value} (hf : DataW.trod enc Tryz.prog W base sp held fuel 47 cs = some x) : ∃ z : EnT, CmE z ∧ cs = ecells z := by
  obtain ⟨xs, m, rfl, _, hl, hx, hall⟩ := DataW.trod_struct Tryz.underlying47 hf
  have h36 : Tryz.prog.cellsOf 45 = 36 := by kernel_rfl
  have h1 : Tryz.prog.cellsOf 3 = 1 := by kernel_rfl
  have hk : Tryz.prog.cellsOf 37 = 1 := by kernel_rfl
  have h69 : Tryz.prog.cellsOf 43 = 69 := by kernel_rfl
  have h9 : Tryz.prog.cellsOf 9 = 1 := by kernel_rfl
  have hsz : Tryz.prog.cellsOf 47 = 109 := by kernel_rfl
  rw [hsz] at hl
  obtain ⟨y0, e0⟩ := part_some hx (i := 0) (by decide)
  obtain ⟨y1, e1⟩ := part_some hx (i := 1) (by decide)
  obtain ⟨y2, e2⟩ := part_some hx (i := 2) (by decide)
  obtain ⟨y3, e3⟩ := part_some hx (i := 3) (by decide)
  obtain ⟨y4, e4⟩ := part_some hx (i := 4) (by decide)
  obtain ⟨y5, e5⟩ := part_some hx (i := 5) (by decide)
  have f0 : DataW.trod enc Tryz.prog W base sp held m 37 ((cs.drop 0).take (Tryz.prog.cellsOf 37)) = some y0 := (hall 0 _ rfl).trans e0
  have f1 : DataW.trod enc Tryz.prog W base sp held m 3 ((cs.drop 1).take (Tryz.prog.cellsOf 3)) = some y1 := (hall 1 _ rfl).trans e1
  have f2 : DataW.trod enc Tryz.prog W base sp held m 3 ((cs.drop 2).take (Tryz.prog.cellsOf 3)) = some y2 := (hall 2 _ rfl).trans e2
  have f3 : DataW.trod enc Tryz.prog W base sp held m 9 ((cs.drop 3).take (Tryz.prog.cellsOf 9)) = some y3 := (hall 3 _ rfl).trans e3
  have f4 : DataW.trod enc Tryz.prog W base sp held m 43 ((cs.drop 4).take (Tryz.prog.cellsOf 43)) = some y4 := (hall 4 _ rfl).trans e4
  have f5 : DataW.trod enc Tryz.prog W base sp held m 45 ((cs.drop 73).take (Tryz.prog.cellsOf 45)) = some y5 := (hall 5 _ rfl).trans e5
  rw [hk] at f0
  rw [h1] at f1
  rw [h1] at f2
  rw [h9] at f3
  rw [h69] at f4
  rw [h36] at f5
  obtain ⟨k, ik, ck'⟩ := open_kind_cells f0
  obtain ⟨c, ic, cc'⟩ := open_int_cells f1
  obtain ⟨s, is, cs'⟩ := open_int_cells f2
  obtain ⟨t, it, ct'⟩ := open_str_cells f3
  obtain ⟨h, ih, ch'⟩ := open_signed_cells f4
  obtain ⟨m, im, cm'⟩ := open_claim_cells f5
  refine ⟨⟨k, c, s, t, h, m⟩, ⟨ik, ic, is, it, ih, im⟩, ?_⟩
  unfold ecells
  show cs = [Value.int .i64 k, .int .i64 c, .int .i64 s, .string t] ++ scells h ++ ccells m
  have k0 : cs = ((cs.drop 0).take 1 ++ ((cs.drop 1).take 1 ++ ((cs.drop 2).take 1 ++ ((cs.drop 3).take 1 ++ ((cs.drop 4).take 69 ++ (cs.drop 73).take 36))))) := by
    have q5 : (cs.drop 73).take 36 = cs.drop 73 := List.take_of_length_le (by rw [List.length_drop]; omega)
    have q4 : (cs.drop 4).take 69 ++ cs.drop 73 = cs.drop 4 := by
      have := List.take_append_drop 69 (cs.drop 4)
      rw [List.drop_drop] at this
      exact this
    have q3 : (cs.drop 3).take 1 ++ cs.drop 4 = cs.drop 3 := by
      have := List.take_append_drop 1 (cs.drop 3)
      rw [List.drop_drop] at this
      exact this
    have q2 : (cs.drop 2).take 1 ++ cs.drop 3 = cs.drop 2 := by
      have := List.take_append_drop 1 (cs.drop 2)
      rw [List.drop_drop] at this
      exact this
    have q1 : (cs.drop 1).take 1 ++ cs.drop 2 = cs.drop 1 := by
      have := List.take_append_drop 1 (cs.drop 1)
      rw [List.drop_drop] at this
      exact this
    rw [q5, q4, q3, q2, q1, List.drop_zero, List.take_append_drop]
  rw [ck', cc', cs', ct', ch', cm'] at k0
  rw [k0]
  all_goals simp
theorem open_item_cells {cs : List Value} (hf : DataW.trod enc Tryz.prog W base sp held fuel 49 cs = some x) : ∃ z : ItT, CmI z ∧ cs = icells z := by
  obtain ⟨xs, m, rfl, _, hl, hx, hall⟩ := DataW.trod_struct Tryz.underlying49 hf
  have h109 : Tryz.prog.cellsOf 47 = 109 := by kernel_rfl
  have h1 : Tryz.prog.cellsOf 3 = 1 := by kernel_rfl
  have hsz : Tryz.prog.cellsOf 49 = 110 := by kernel_rfl
  rw [hsz] at hl
  obtain ⟨y0, e0⟩ := part_some hx (i := 0) (by decide)
  obtain ⟨y1, e1⟩ := part_some hx (i := 1) (by decide)
  have f0 : DataW.trod enc Tryz.prog W base sp held m 3 ((cs.drop 0).take (Tryz.prog.cellsOf 3)) = some y0 := (hall 0 _ rfl).trans e0
  have f1 : DataW.trod enc Tryz.prog W base sp held m 47 ((cs.drop 1).take (Tryz.prog.cellsOf 47)) = some y1 := (hall 1 _ rfl).trans e1
  rw [h1] at f0
  rw [h109] at f1
  obtain ⟨p, ip, cp'⟩ := open_int_cells f0
  obtain ⟨e, ie, ce'⟩ := open_entry_cells f1
  refine ⟨⟨p, e⟩, ⟨ip, ie⟩, ?_⟩
  unfold icells
  show cs = [Value.int .i64 p] ++ ecells e
  have k0 : cs = ((cs.drop 0).take 1 ++ (cs.drop 1).take 109) := by
    have q1 : (cs.drop 1).take 109 = cs.drop 1 := List.take_of_length_le (by rw [List.length_drop]; omega)
    rw [q1, List.drop_zero, List.take_append_drop]
  rw [cp', ce'] at k0
  rw [k0]
  all_goals simp
end Go.Proofs.YtgclohgcehhfnabGreatDoor
/- What entry.Leaf answers. -/
namespace Go.Proofs.YtgclohgcehhfnabGreatDoor
open Go.RowKit Sums Nums
set_option linter.unusedVariables false
set_option linter.unusedSimpArgs false
set_option maxRecDepth 100000
set_option maxHeartbeats 4000000 in
theorem eLeaf_any (x : ItT) (hin : InI x) (w : World) (X D : Array Value) (HX : Hid (X = (icells x).toArray)) (hT : TabH w) (HD : Hid (D = (cellsOf (leafO x)).toArray)) :
    Calls Tryz.prog 106 #[.agg X] w fun e w' => e = .returned (.tuple #[.agg D, .int .i64 (iE x)]) ∧ Below w.heap.size w w' := by
  have ok := hin.e.ok
  obtain ⟨Z, HZ, HA, HS, H1, H32⟩ := noughts27
  have HSX : Hid ((Tryz.prog.info? 49).map (·.size) = some X.size) := by show _ = _; rw [sizeI, HX.out]; simp [icells_length _ ok]
  have hd : (leafO x).length = 32 := by
    unfold leafO
    split
    · exact sumD_length _
    · rfl
  have HSD : Hid ((Tryz.prog.info? 39).map (·.size) = some D.size) := by show _ = _; rw [size23, HD.out]; simp [cellsOf_length, hd]
  have H1D : Hid (D.all (·.oneCell') = true) := by show _ = _; rw [HD.out]; exact cellsOf_all _
  have HZD : Hid (Z.size = D.size) := by show _ = _; rw [H32.out, HD.out]; simp [cellsOf_length, hd]
  have HX0 : Hid ((w.alloc (.cells X 49)).heap[w.heap.size]? = some (.cells X 49 (0, 0))) := heap_alloc_new w _
  have HB : Hid (Below w.heap.size w (w.alloc (.cells X 49))) := (Below.refl _ _).alloc (Nat.le_refl _) _
  have HBN : Hid (Tryz.prog.built 39 [] = some Z) := by show _ = _; rw [HZ.out]; kernel_rfl
  obtain ⟨l, Hl⟩ : ∃ l, Hid (l = iB x) := ⟨_, hidk rfl⟩
  obtain ⟨E, HE⟩ : ∃ l, Hid (l = iE x) := ⟨_, hidk rfl⟩
  have P1 : Hid (∀ W, Calls Tryz.prog 9 #[.agg X] W fun e w' => (∃ a c, e = .returned (.tuple #[.slice a l.length c, .int .i64 E]) ∧ Reads w' a l.length c l) ∧ Below W.heap.size W w') := fun W => by rw [Hl.out, HE.out]; exact ePutI_any x hin W X HX
  obtain ⟨y, Hy⟩ : ∃ y : ByteArray, Hid (y = bA l) := ⟨_, hidk rfl⟩
  have hE2 : E = 0 ∧ rightI x = true ∨ E = 60 ∧ rightI x = false := by rw [HE.out]; exact iE_two x
  rw [← HE.out]
  have LF : Hid (rightI x = true → ∀ W, Below w.heap.size w W → Calls Tryz.prog 121 #[.string y] W fun e w' => e = .returned (.agg D) ∧ Below W.heap.size W w') := fun h W hb => by
    have hl : l = itemB x := by rw [Hl.out]; unfold iB; rw [if_pos h]
    have hz := itemB_length h ok
    exact leaf_any y W (by rw [Hy.out, bA_size, hl]; omega) (hT.keep hb) D (by
      show _ = _
      rw [HD.out]
      unfold leafO leafI
      rw [if_pos h, Hy.out, bA_list, hl])
  have HNO : Hid (rightI x = false → D = Z) := fun h => by
    rw [HD.out, HZ.out]
    unfold leafO
    rw [if_neg (by rw [h]; simp)]
  clear HX HD HE hT ok hin hd HZ
  rcases hE2 with ⟨rfl, hr⟩ | ⟨rfl, hr⟩
  · have LF2 := hidk (LF.out hr)
    clear LF HNO hr
    go_enter Tryz.func106, Tryz.ntmps106
    go_wp2_with (first
      | (show aD 2 _ _ _ _ _ _ _ _ _ _ _; refine wpList_new_var rfl 39 rfl Z HA.out ?_; intro g2 w1 HM2; try simp only [Act.put, pS1, pS2, pS3])
      | (show aD 7 _ _ _ _ _ _ _ _ _ _ _; refine wpList_load_row rfl 49 (.tmp 1) rfl w.heap.size rfl 49 X (0, 0) _ ((HM2.out.below.block _ (heap_lt HX0.out)).trans HX0.out) Tryz.underlying49 rfl HSX.out ?_; try simp only [Act.put, pS1, pS2, pS3])
      | fail)
    have h2 : w.heap.size ≤ g2 := by rw [HM2.out.new]; exact HB.out.size
    have HB1 := hidk (HB.out.trans (HM2.out.below.mono HB.out.size))
    have HR2 := hidk HM2.out.row
    clear HM2 HB HX0
    refine (P1.out _).mono ?_
    rintro e w2 ⟨⟨a2, c2, rfl, hr2⟩, hb2⟩
    have HB2 := hidk (HB1.out.trans (hb2.mono HB1.out.size))
    replace HR2 := hidk ((hb2.block _ (heap_lt HR2.out)).trans HR2.out)
    have hcv := conv_reads hr2
    rw [show (⟨l.toArray⟩ : ByteArray) = y from Hy.out.symm] at hcv
    clear hb2 hr2 HB1 P1
    go_wp2_with fail
    refine (LF2.out _ HB2.out).mono ?_
    rintro e w3 ⟨rfl, hb3⟩
    have HB3 := hidk (HB2.out.trans (hb3.mono HB2.out.size))
    replace HR2 := hidk ((hb3.block _ (heap_lt HR2.out)).trans HR2.out)
    clear hb3 HB2 LF2 hcv
    go_wp2_with (first
      | (refine wpList_set_var rfl 39 (.tmp 2) (.tmp 17) rfl g2 D rfl rfl 39 Z HR2.out HSD.out HZD.out H1D.out ?_; intro wl HW2; try simp only [Act.put, pS1, pS2, pS3])
      | fail)
    refine bodyPost_ret (v := .tuple #[.agg D, .int .i64 0]) ?_ rfl ⟨rfl, HW2.out.below _ _ HB3.out h2⟩
    exact results_row_tmp (p := 2) (q := 3) (ty := 39) rfl _ _ g2 39 D (0, 0) _ rfl HW2.out.row Tryz.underlying39 rfl HSD.out
  · obtain rfl := HNO.out hr
    clear LF HNO hr
    go_enter Tryz.func106, Tryz.ntmps106
    go_wp2_with (first
      | (show aD 2 _ _ _ _ _ _ _ _ _ _ _; refine wpList_new_var rfl 39 rfl D HA.out ?_; intro g2 w1 HM2; try simp only [Act.put, pS1, pS2, pS3])
      | (show aD 7 _ _ _ _ _ _ _ _ _ _ _; refine wpList_load_row rfl 49 (.tmp 1) rfl w.heap.size rfl 49 X (0, 0) _ ((HM2.out.below.block _ (heap_lt HX0.out)).trans HX0.out) Tryz.underlying49 rfl HSX.out ?_; try simp only [Act.put, pS1, pS2, pS3])
      | fail)
    have h2 : w.heap.size ≤ g2 := by rw [HM2.out.new]; exact HB.out.size
    have HB1 := hidk (HB.out.trans (HM2.out.below.mono HB.out.size))
    have HR2 := hidk HM2.out.row
    clear HM2 HB HX0
    refine (P1.out _).mono ?_
    rintro e w2 ⟨⟨a2, c2, rfl, hr2⟩, hb2⟩
    have HB2 := hidk (HB1.out.trans (hb2.mono HB1.out.size))
    replace HR2 := hidk ((hb2.block _ (heap_lt HR2.out)).trans HR2.out)
    clear hb2 hr2 HB1 P1
    go_wp2_with (first
      | (show aD 13 _ _ _ _ _ _ _ _ _ _ _; refine wpList_build_none rfl 39 rfl D HBN.out ?_; try simp only [Act.put, pS1, pS2, pS3])
      | (refine wpList_set_var rfl 39 (.tmp 2) (.tmp 13) rfl g2 D rfl rfl 39 D HR2.out HSD.out rfl H1D.out ?_; intro wl HW2; try simp only [Act.put, pS1, pS2, pS3])
      | fail)
    refine bodyPost_ret (v := .tuple #[.agg D, .int .i64 60]) ?_ rfl ⟨rfl, HW2.out.below _ _ HB2.out h2⟩
    exact results_row_tmp (p := 2) (q := 3) (ty := 39) rfl _ _ g2 39 D (0, 0) _ rfl HW2.out.row Tryz.underlying39 rfl HSD.out
end Go.Proofs.YtgclohgcehhfnabGreatDoor
/- What the calls of package entry answer, all together. -/
namespace Go.Proofs.YtgclohgcehhfnabGreatDoor
open Go.RowKit Sums Nums
set_option maxRecDepth 100000
set_option linter.unusedVariables false
theorem entryC : EntryC where
  checkC := fun c hc w C HC => eCheckC_any c w C HC
  putC := fun c hc w C HC => ePutC_any c hc.d w C HC
  getC := fun a len cap bs w hR hl R HR => eGetC_any a len cap bs w hR (by omega) R HR
  check := fun x hx w X HX => eCheck_any x hx.ok w X HX
  put := fun x hx w X HX => ePutE_any x hx w X HX
  get := fun a len cap bs w hR hl R HR => eGetE_any a len cap bs w hR (by omega) R HR
  putI := fun x hx w X HX => ePutI_any x hx w X HX
  getI := fun a len cap bs w hR hl R HR => eGetI_any a len cap bs w hR (by omega) R HR
  leaf := fun x hx w X D HX hT HD => eLeaf_any x hx w X D HX hT HD
end Go.Proofs.YtgclohgcehhfnabGreatDoor
