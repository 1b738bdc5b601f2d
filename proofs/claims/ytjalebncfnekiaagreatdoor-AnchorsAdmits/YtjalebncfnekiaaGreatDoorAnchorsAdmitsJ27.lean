/- Texts of our own that the row of AnchorsAdmits leans on, part 27. -/
import Derived.Test.YtjalebncfnekiaaGreatDoorAnchorsAdmitsJ0
import Derived.Test.YtjalebncfnekiaaGreatDoorAnchorsAdmitsJ15
import Derived.Test.YtjalebncfnekiaaGreatDoorAnchorsAdmitsJ16
import Derived.Test.YtjalebncfnekiaaGreatDoorAnchorsAdmitsJ19
import Derived.Test.YtjalebncfnekiaaGreatDoorAnchorsAdmitsJ20
import Derived.Test.YtjalebncfnekiaaGreatDoorAnchorsAdmitsJ22
import Derived.Test.YtjalebncfnekiaaGreatDoorAnchorsAdmitsJ24
import Derived.Test.YtjalebncfnekiaaGreatDoorAnchorsAdmitsJ25
import Derived.Test.YtjalebncfnekiaaGreatDoorAnchorsAdmitsJ26
/- The document's Size and Leaves of logs. -/
namespace Go.Proofs.YtjalebncfnekiaaGreatDoor
open Go.RowKit Nums Sums
set_option linter.unusedVariables false
set_option linter.unusedSimpArgs false
set_option maxRecDepth 100000
structure InL (w : World) (a : Option Addr) (len cap : Nat) (l : List ItT) : Prop where
  rd : IReads w a len cap l
  nil : a = none → cap = 0
  its : ∀ x ∈ l, InI x
  le : len ≤ 100
theorem InL.keep {w w' : World} {a : Option Addr} {len cap : Nat} {l : List ItT} (h : InL w a len cap l) (hb : Below w.heap.size w w') : InL w' a len cap l := ⟨h.rd.keep hb, h.nil, h.its, h.le⟩
def chkE (l : List ItT) : Int := if rightL l = true then 0 else 100
structure HistoryC : Prop where
  check : ∀ (a : Option Addr) (len cap : Nat) (l : List ItT) (w : World) (h : InL w a len cap l),
    Calls Tryz.prog 14 #[.slice a len cap] w fun e w' => e = .returned (.int .i64 (chkE l)) ∧ Below w.heap.size w w'
def userI (c s : Int) : ItT := ⟨1, ⟨1, c, s, ByteArray.empty, zeroS, zeroC⟩⟩
theorem fill_items (ds : List (List Value)) : ∀ (k : Nat) (cs : Array Value) (pre old : List Value), cs.toList = pre ++ old → pre.length = k * 110 → (∀ d ∈ ds, d.length = 110) → old.length = ds.length * 110 →
    Instr.fill (fun i => some (i * 110, 110)) cs ((ds.zipIdx k).map fun x => (x.2, Value.agg x.1.toArray)) = some (pre ++ ds.flatten).toArray := by
  induction ds with
  | nil =>
    intro k cs pre old h hp hd ho
    have : old = [] := List.eq_nil_of_length_eq_zero (by simpa using ho)
    subst this
    simp only [List.zipIdx_nil, List.map_nil, Instr.fill, List.flatten_nil, ← h]
  | cons d ds ih =>
    intro k cs pre old h hp hd ho
    have h32 := hd d (List.mem_cons_self ..)
    simp only [List.length_cons] at ho
    have hcs : cs.size = k * 110 + old.length := by rw [← Array.length_toList, h, List.length_append, hp]
    rw [List.zipIdx_cons, List.map_cons]
    unfold Instr.fill
    have hsz : (Value.agg d.toArray).cells.size = 110 := by show d.toArray.size = 110; simp [h32]
    simp only [hsz]
    rw [if_neg (by simp; omega)]
    refine (ih (k + 1) _ (pre ++ d) (old.drop 110) ?_ (by simp; omega) (fun x hx => hd x (List.mem_cons_of_mem _ hx)) (by simp; omega)).trans (by simp)
    have := fold_setD d 0 (k * 110) cs pre (old.take 110) (old.drop 110) (by rw [h, List.append_assoc, List.take_append_drop]) (by omega) (by simp; omega)
    rw [← this, ← Array.foldl_toList]
    congr 2
    simp [Value.cells]
theorem run_build_items (w : World) (n : Nat) (l : List ItT) (hd : ∀ x ∈ l, OkE x.e) (hn : l.length = n) (h1 : 0 < n) (h2 : n ≤ 100) (parts : Array (Nat × Value)) (hp : parts.toList = ((l.map icells).zipIdx 0).map fun x => (x.2, Value.agg x.1.toArray)) :
    (Instr.buildSlice 24 n parts).run Tryz.prog w = .ok (.slice (some ⟨w.heap.size, 0, none⟩) n n) (w.alloc (.cells (icL l).toArray 47)) := by
  obtain ⟨ie, hie, hz, hs, hy⟩ := info_parts infoIt
  refine run_buildSlice w 24 47 n parts _ ie _ Tryz.underlying24 hie hz (by rw [hs]; omega) (by rw [hs]; omega) ?_
  rw [hs, hp]
  have e : (l.map icells).flatten = icL l := by unfold icL; rw [List.flatMap_def]
  generalize hcs : Array.map _ (Array.range (n * 110)) = cs
  have hcz : cs.size = n * 110 := by rw [← hcs]; simp
  rw [fill_items (l.map icells) 0 cs [] cs.toList rfl rfl (fun d h => by
    obtain ⟨x, hx, rfl⟩ := List.mem_map.1 h
    exact icells_length x (hd x hx)) (by simp [hcz, hn]), e]
  rfl
theorem IReads.new (W : World) (l : List ItT) (n : Nat) (hn : l.length = n) (hd : ∀ x ∈ l, OkE x.e) (h1 : n ≤ 100) (L : Array Value) (HL : Hid (L = (icL l).toArray)) : IReads (W.alloc (.cells L 47)) (some ⟨W.heap.size, 0, none⟩) n n l := by
  refine ⟨hn, Nat.le_refl _, by unfold maxLen; omega, hd, .inr ⟨_, _, rfl, fun i hi j v hj => ?_⟩⟩
  have := icL_at l hd i hi j v hj
  rw [cell_of_row _ _ _ _ 47 (0, 0) (heap_alloc_new W _), HL.out, Nat.zero_add]
  simpa using this
set_option maxHeartbeats 8000000 in
theorem hIsRight (ck : EntryC) (x : ItT) (hx : InI x) (w : World) (X : Array Value) (HX : Hid (X = (icells x).toArray)) :
    Calls Tryz.prog 27 #[.agg X] w fun e w' => e = .returned (.bool (rightI x)) ∧ Below w.heap.size w w' := by
  have hok : OkE x.e := hx.e.ok
  have HBX : Hid (Below w.heap.size w (w.alloc (.cells X 47))) := (Below.refl _ _).alloc (Nat.le_refl _) _
  have HGX := heap_alloc_new w (.cells X 47)
  obtain ⟨U, HU, HSU, H1U, H109⟩ := entry_row x.e hok
  have HR : Hid ((w.alloc (.cells X 47)).rangeAt w.heap.size 1 U.toList) := by
    have h0 := range_row (l := icells x) (W := w.alloc (.cells X 47)) (g := w.heap.size) (t := 47) (fr := (0, 0)) (by rw [← HX.out]; exact HGX)
    show World.rangeAt _ _ _ _
    rw [HU.out]
    have := range_entry h0
    simpa using this
  have c0 : (w.alloc (.cells X 47)).cell? ⟨w.heap.size, 0, none⟩ = some (.int .i64 x.p) := by rw [cell_of_row _ _ 0 _ _ (0, 0) HGX, HX.out]; rfl
  have CK : Hid (∀ W, Calls Tryz.prog 46 #[.agg U] W fun e w' => e = .returned (.int .i64 (eE x.e)) ∧ Below W.heap.size W w') := fun W => ck.check x.e hx.e W U HU
  obtain ⟨p, hp⟩ : ∃ p, x.p = p := ⟨_, rfl⟩
  obtain ⟨re, hre⟩ : ∃ b, rightE x.e = b := ⟨_, rfl⟩
  have HRI : Hid (rightI x = (decide (1 ≤ p) && decide (p ≤ 900000000) && re)) := by show _ = _; unfold rightI; rw [hp, hre]
  unfold eE at CK
  rw [hre] at CK
  rw [hp] at c0
  clear hp hre ck hx hok HGX HX HU H1U H109
  by_cases h1 : 1 ≤ p
  · have d1 : decide (1 ≤ p) = true := decide_eq_true h1
    by_cases h2 : p ≤ 900000000
    · have d2 : decide (p ≤ 900000000) = true := decide_eq_true h2
      cases re
      · have HF : Hid (rightI x = false) := by show _ = _; rw [HRI.out, d1, d2]; rfl
        rw [if_neg (by decide)] at CK
        clear h1 h2 HRI
        go_enter Tryz.func27, Tryz.ntmps27
        go_wp2_with (first
          | (show aD 13 _ _ _ _ _ _ _ _ _ _ _; refine wpList_mid_w (by rfl) 45 (.tmp 12) rfl w.heap.size 1 rfl U _ HR.out Tryz.underlying45 rfl HSU.out ?_; try simp only [Act.put, pS1, pS2, pS3])
          | fail)
        refine (CK.out _).mono ?_
        rintro e w1 ⟨rfl, hb1⟩
        go_wp2
        go_ret
        exact ⟨by rw [HF.out]; rfl, HBX.out.trans (hb1.mono HBX.out.size)⟩
      · have HF : Hid (rightI x = true) := by show _ = _; rw [HRI.out, d1, d2]; rfl
        rw [if_pos rfl] at CK
        clear h1 h2 HRI
        go_enter Tryz.func27, Tryz.ntmps27
        go_wp2_with (first
          | (show aD 13 _ _ _ _ _ _ _ _ _ _ _; refine wpList_mid_w (by rfl) 45 (.tmp 12) rfl w.heap.size 1 rfl U _ HR.out Tryz.underlying45 rfl HSU.out ?_; try simp only [Act.put, pS1, pS2, pS3])
          | fail)
        refine (CK.out _).mono ?_
        rintro e w1 ⟨rfl, hb1⟩
        go_wp2
        go_ret
        exact ⟨by rw [HF.out]; rfl, HBX.out.trans (hb1.mono HBX.out.size)⟩
    · have d2 : decide (p ≤ 900000000) = false := decide_eq_false h2
      have HF : Hid (rightI x = false) := by show _ = _; rw [HRI.out, d1, d2]; rfl
      clear h1 h2 HRI CK
      go_enter Tryz.func27, Tryz.ntmps27
      go_wp2
      go_ret
      exact ⟨by rw [HF.out]; rfl, HBX.out⟩
  · have d1 : decide (1 ≤ p) = false := decide_eq_false h1
    have HF : Hid (rightI x = false) := by show _ = _; rw [HRI.out, d1]; rfl
    clear h1 HRI CK
    go_enter Tryz.func27, Tryz.ntmps27
    go_wp2
    go_ret
    exact ⟨by rw [HF.out]; rfl, HBX.out⟩
set_option maxHeartbeats 8000000 in
theorem hCheck (ck : EntryC) (a : Option Addr) (len cap : Nat) (l : List ItT) (w : World) (h : InL w a len cap l) :
    Calls Tryz.prog 14 #[.slice a len cap] w fun e w' => e = .returned (.int .i64 (chkE l)) ∧ Below w.heap.size w w' := by
  have H := hidk h
  have HL := hidk h.rd.ln
  have hmx := h.le
  obtain ⟨Z, HZ, HA, HBZ, HNZ⟩ := noughtsI
  clear h HZ HBZ
  have h5' : decide ((2000 : Int) < (len : Int)) = false := by rw [decide_eq_false_iff_not]; omega
  go_enter Tryz.func14, Tryz.ntmps14
  go_wp2
  go_loopw [3, 11] (fun v u wr => ∃ k : Nat, k ≤ len ∧ u = .int .i64 k ∧ v = .int .i64 (lastE l k) ∧ Hid (Below w.heap.size w wr) ∧ Hid (rightK l k = true)) (fun _ u _ => len - (intOf u).toNat)
  case atStart => exact ⟨0, by omega, rfl, rfl, Below.refl _ _, hidk rfl⟩
  case round =>
    obtain ⟨k, hk, rfl, rfl, HB, HN⟩ := hrel
    by_cases hlt : k < len
    · have hd : decide ((k : Int) < (len : Int)) = true := by rw [decide_eq_true_eq]; omega
      have hw1 := wrap_int ((k : Int) + 1) (by omega) (by omega)
      obtain ⟨g, o, rfl, hg⟩ := H.out.rd.at (by omega)
      have hkl : k < l.length := by have := HL.out; omega
      obtain ⟨x, HX⟩ : ∃ x, Hid (x = l[k]) := ⟨_, hidk rfl⟩
      have hk? : l[k]? = some x := by rw [HX.out]; exact List.getElem?_eq_getElem hkl
      have hin : InI x := by rw [HX.out]; exact H.out.its _ (List.getElem_mem hkl)
      have hok : OkE x.e := by rw [HX.out]; exact H.out.rd.ok _ (List.getElem_mem hkl)
      obtain ⟨X, HXX, HSX, H1X, HNX⟩ := item_row x hok
      have HR : Hid (wr.rangeAt g (o + 110 * k) X.toList) := by
        show World.rangeAt _ _ _ _
        rw [HXX.out, HX.out]
        have h0 := (H.out.rd.keep HB.out).range k hkl
        simpa using h0
      have HZX : Hid (Z.size = X.size) := by show _ = _; rw [HNZ.out, HNX.out]
      have ix := fun W => index_item W g o len cap k .i64 hlt
      have IR : Hid (∀ W, Calls Tryz.prog 27 #[.agg X] W fun e w' => e = .returned (.bool (rightI x)) ∧ Below W.heap.size W w') := fun W => hIsRight ck x hin W X HXX
      have HC0 : Hid (∀ (W : World) (b : Nat), W.heap[b]? = some (.cells X 47 (0, 0)) → W.cell? ⟨b, 0, none⟩ = some (.int .i64 x.p)) := fun W b hh => by rw [cell_of_row _ _ 0 _ _ (0, 0) hh, HXX.out]; rfl
      have HO := hidk (okAt_last hk?)
      have HLS := hidk (lastE_succ hk?)
      have HNO : Hid (okAt l k = false → chkE l = 100) := fun hh => by unfold chkE; rw [right_no hkl hh]; rfl
      have HYE : Hid (okAt l k = true → rightK l (k + 1) = true) := fun hh => by rw [rightK_succ, HN.out, hh]; rfl
      obtain ⟨p, hp⟩ : ∃ p, x.p = p := ⟨_, rfl⟩
      obtain ⟨q, hq⟩ : ∃ q, lastE l k = q := ⟨_, rfl⟩
      obtain ⟨ri, hri⟩ : ∃ b, rightI x = b := ⟨_, rfl⟩
      rw [hri] at IR HO
      rw [hp] at HC0 HO HLS
      rw [hq] at HO ⊢
      clear hp hq hri hk? hin hok HXX HNX HX HN hkl
      cases ri
      · have hko : okAt l k = false := by rw [HO.out]; rfl
        have hE := hidk (HNO.out hko)
        clear HO HYE HNO hko HLS
        go_wp2_with (first
          | (show aD 14 _ _ _ _ _ _ _ _ _ _ _; refine wpList_mid_w (by rfl) 47 (.tmp 13) rfl g (o + 110 * k) rfl X _ HR.out Tryz.underlying47 rfl HSX.out ?_; try simp only [Act.put, pS1, pS2, pS3])
          | (show aD 5 _ _ _ _ _ _ _ _ _ _ _; refine wpList_new_var rfl 47 rfl Z HA.out ?_; intro g5 w1 HM; have HG := hidk HM.out.row; try simp only [Act.put, pS1, pS2, pS3])
          | (refine wpList_set_var rfl 47 (.tmp 5) (.tmp 14) rfl g5 X rfl rfl 47 Z HG.out HSX.out HZX.out H1X.out ?_; intro w2 HW; have HG2 := hidk HW.out.row; have HB2 : Hid (Below w.heap.size w w2) := HW.out.below w.heap.size w (HB.out.trans (HM.out.below.mono HB.out.size)) (by rw [HM.out.new]; exact HB.out.size); try simp only [Act.put, pS1, pS2, pS3])
          | (show aD 15 _ _ _ _ _ _ _ _ _ _ _; refine wpList_load_row_w (by rfl) 47 (.tmp 5) rfl g5 rfl 47 X (0, 0) _ HG2.out Tryz.underlying47 rfl HSX.out ?_; try simp only [Act.put, pS1, pS2, pS3])
          | fail)
        refine (IR.out _).mono ?_
        rintro e w3 ⟨rfl, hb3⟩
        have HB3 := hidk (HB2.out.trans (hb3.mono HB2.out.size))
        clear hb3
        go_wp2
        go_ret
        exact ⟨by rw [hE.out]; rfl, HB3.out⟩
      · by_cases hpq : p < q
        · have hko : okAt l k = false := by rw [HO.out]; simp; omega
          have hE := hidk (HNO.out hko)
          have d1 : decide (p < q) = true := decide_eq_true hpq
          clear HO HYE HNO hko HLS hpq
          go_wp2_with (first
            | (show aD 14 _ _ _ _ _ _ _ _ _ _ _; refine wpList_mid_w (by rfl) 47 (.tmp 13) rfl g (o + 110 * k) rfl X _ HR.out Tryz.underlying47 rfl HSX.out ?_; try simp only [Act.put, pS1, pS2, pS3])
            | (show aD 5 _ _ _ _ _ _ _ _ _ _ _; refine wpList_new_var rfl 47 rfl Z HA.out ?_; intro g5 w1 HM; have HG := hidk HM.out.row; try simp only [Act.put, pS1, pS2, pS3])
            | (refine wpList_set_var rfl 47 (.tmp 5) (.tmp 14) rfl g5 X rfl rfl 47 Z HG.out HSX.out HZX.out H1X.out ?_; intro w2 HW; have HG2 := hidk HW.out.row; have HB2 : Hid (Below w.heap.size w w2) := HW.out.below w.heap.size w (HB.out.trans (HM.out.below.mono HB.out.size)) (by rw [HM.out.new]; exact HB.out.size); try simp only [Act.put, pS1, pS2, pS3])
            | (show aD 15 _ _ _ _ _ _ _ _ _ _ _; refine wpList_load_row_w (by rfl) 47 (.tmp 5) rfl g5 rfl 47 X (0, 0) _ HG2.out Tryz.underlying47 rfl HSX.out ?_; try simp only [Act.put, pS1, pS2, pS3])
            | fail)
          refine (IR.out _).mono ?_
          rintro e w3 ⟨rfl, hb3⟩
          have c3 := HC0.out w3 g5 ((hb3.block _ (heap_lt HG2.out)).trans HG2.out)
          have HB3 := hidk (HB2.out.trans (hb3.mono HB2.out.size))
          clear hb3
          go_wp2
          go_ret
          exact ⟨by rw [hE.out]; rfl, HB3.out⟩
        · have hko : okAt l k = true := by rw [HO.out]; simp; omega
          have hE := hidk (HYE.out hko)
          have d1 : decide (p < q) = false := decide_eq_false hpq
          clear HO HYE HNO hko hpq
          go_wp2_with (first
            | (show aD 14 _ _ _ _ _ _ _ _ _ _ _; refine wpList_mid_w (by rfl) 47 (.tmp 13) rfl g (o + 110 * k) rfl X _ HR.out Tryz.underlying47 rfl HSX.out ?_; try simp only [Act.put, pS1, pS2, pS3])
            | (show aD 5 _ _ _ _ _ _ _ _ _ _ _; refine wpList_new_var rfl 47 rfl Z HA.out ?_; intro g5 w1 HM; have HG := hidk HM.out.row; try simp only [Act.put, pS1, pS2, pS3])
            | (refine wpList_set_var rfl 47 (.tmp 5) (.tmp 14) rfl g5 X rfl rfl 47 Z HG.out HSX.out HZX.out H1X.out ?_; intro w2 HW; have HG2 := hidk HW.out.row; have HB2 : Hid (Below w.heap.size w w2) := HW.out.below w.heap.size w (HB.out.trans (HM.out.below.mono HB.out.size)) (by rw [HM.out.new]; exact HB.out.size); try simp only [Act.put, pS1, pS2, pS3])
            | (show aD 15 _ _ _ _ _ _ _ _ _ _ _; refine wpList_load_row_w (by rfl) 47 (.tmp 5) rfl g5 rfl 47 X (0, 0) _ HG2.out Tryz.underlying47 rfl HSX.out ?_; try simp only [Act.put, pS1, pS2, pS3])
            | fail)
          refine (IR.out _).mono ?_
          rintro e w3 ⟨rfl, hb3⟩
          have c3 := HC0.out w3 g5 ((hb3.block _ (heap_lt HG2.out)).trans HG2.out)
          have HB3 := hidk (HB2.out.trans (hb3.mono HB2.out.size))
          clear hb3
          go_wp2
          go_roundw
          case rel => exact ⟨k + 1, by omega, by go_num, by rw [HLS.out], HB3, hE⟩
          case measure => simp [intOf]; omega
    · have HE : Hid (chkE l = 0) := by
        show _ = _
        have e : k = l.length := by have := HL.out; omega
        unfold chkE
        rw [right_yes (by have := HL.out; omega) (by rw [← e]; exact HN.out)]
        rfl
      obtain ⟨q, hq⟩ : ∃ q, lastE l k = q := ⟨_, rfl⟩
      rw [hq]
      clear hq
      obtain rfl : len = k := by omega
      go_wp2
      go_ret
      exact ⟨by rw [HE.out]; rfl, HB.out⟩
end Go.Proofs.YtjalebncfnekiaaGreatDoor
/- The program's iterator over a client's entries. -/
namespace Go.Proofs.YtjalebncfnekiaaGreatDoor
open Go.RowKit Go.Shelf Nums Sums
set_option linter.unusedVariables false
set_option linter.unusedSimpArgs false
set_option maxRecDepth 100000
attribute [local go_sem] Oper.semAt_some
def KpE (n₀ Bs Bc : Nat) (W W' : World) : Prop := Below n₀ W W' ∧ W'.heap[Bs]? = W.heap[Bs]? ∧ W'.heap[Bc]? = W.heap[Bc]?
theorem kpE_t {n₀ Bs Bc : Nat} {A B C : World} (h : KpE n₀ Bs Bc A B) (k : KpE n₀ Bs Bc B C) : KpE n₀ Bs Bc A C := ⟨h.1.trans k.1, k.2.1.trans h.2.1, k.2.2.trans h.2.2⟩
theorem kpE_b {n₀ Bs Bc : Nat} {w : World} (hn : n₀ ≤ w.heap.size) (h1 : Bs < w.heap.size) (h2 : Bc < w.heap.size) (W : World) (l : Nat) (o o' : Obj) (hl : w.heap.size ≤ l) (h : W.heap[l]? = some o) (hc : o.isCells = false) (hw : o.isWalk = false) : KpE n₀ Bs Bc W (W.putObj l o') := by
  have hlt := (Array.getElem?_eq_some_iff.1 h).1
  have g := grownBy_putObj' W l o'
  exact ⟨belowK_b hn W l o o' hl h hc hw, g.block Bs (by omega) (fun e => by cases e; omega), g.block Bc (by omega) (fun e => by cases e; omega)⟩
theorem kpE_below {n₀ Bs Bc : Nat} {W W' : World} (hn : n₀ ≤ W.heap.size) (h1 : Bs < W.heap.size) (h2 : Bc < W.heap.size) (h : Below W.heap.size W W') : KpE n₀ Bs Bc W W' := ⟨h.mono hn, h.block Bs h1, h.block Bc h2⟩
theorem grown_of_below11 {w w' : World} (h : Below w.heap.size w w') : w.grownBy w' none := ⟨h.os, h.tape, h.output, h.size, fun k hk _ => h.block k hk⟩
end Go.Proofs.YtjalebncfnekiaaGreatDoor
/- The library's iterator slices.Backward, over items. -/
namespace Go.Proofs.YtjalebncfnekiaaGreatDoor
open Go.RowKit Go.Shelf Nums Sums
set_option linter.unusedVariables false
set_option linter.unusedSimpArgs false
set_option maxRecDepth 100000
attribute [local go_sem] Oper.semAt_some
def encI (l : List ItT) (i : Nat) : Array Value := #[.int .i64 (i : Int), .agg (icells (itC l i)).toArray]
set_option maxHeartbeats 8000000 in
theorem bki1_in (n : Nat) (hn : 1 ≤ n) (lp Bs n₀ : Nat) (a : Option Addr) (len cap : Nat) (l : List ItT) (hm : len ≤ 1000000) (J Jx : List Nat → World → Prop)
    (W : World) (hJ : AbidesFrom W.heap.size J) (hn₀ : n₀ ≤ W.heap.size) (hBsW : Bs < W.heap.size)
    (hY : ∀ pre x W, J pre W → pre.length < len → YieldAt Fence.wide (n - 1) Tryz.prog lp (encI l x) W fun e W' =>
      (e = .returned (.bool true) ∧ J (pre ++ [x]) W' ∧ KpE n₀ Bs Bs W W') ∨ (e = .returned (.bool false) ∧ Jx (pre ++ [x]) W'))
    (hBs : W.cell? ⟨Bs, 0, none⟩ = some (.slice a len cap)) (hR : IReads W a len cap l) (hA : ∀ g o, a = some ⟨g, o, none⟩ → 0 < len → g < n₀) (h0 : J [] W) :
    CallsIn Fence.wide n Tryz.prog 60 #[.func (.yield lp) #[] #[], .pointer (some ⟨Bs, 0, none⟩)] W fun e W' => (∃ v, e = .returned v) ∧
      ((∃ ys, ys = bkN len ∧ J ys W') ∨ (∃ pre, pre <+: bkN len ∧ Jx pre W')) := by
  have hw0 := wrap_int ((len : Int) - 1) (by omega) (by omega)
  have HL := hidk hR.ln
  have HR0 := hidk hR
  have HA0 := hidk hA
  clear hR hA
  refine callsIn_of_wp Tryz.func60 rfl trivial ?_ rfl
  simp only [Tryz.ntmps60, List.size_toArray, List.length_cons, List.length_nil, Nat.reduceAdd, Nat.reduceSub, Array.replicate_succ, Array.replicate_zero, List.push_toArray, List.append_toArray, List.nil_append, List.cons_append]
  gi_wp2
  gi_loopw [3] (fun i wr => ∃ (k : Nat) (z : Int) (pre : List Nat), k ≤ len ∧ i = .int .i64 z ∧ Hid (z = (k : Int) - 1) ∧ Hid (pre.length + k = len) ∧ Hid (bkN len = pre ++ bkN k) ∧ J pre wr ∧ Hid (KpE n₀ Bs Bs W wr))
    (fun i _ => (intOf i + 1).toNat)
  case atStart => exact ⟨len, _, [], Nat.le_refl _, rfl, rfl, by show 0 + len = len; omega, rfl, h0, ⟨Below.refl _ _, rfl, rfl⟩⟩
  case round =>
    obtain ⟨k, z, pre, hk, rfl, HZ, HP, HE, hJs, HKP⟩ := hrel
    cases k with
    | zero =>
      have hd : decide ((0 : Int) ≤ z) = false := by rw [decide_eq_false_iff_not]; have := HZ.out; omega
      have HEE : Hid (pre = bkN len) := by show _ = _; rw [HE.out]; simp [bkN]
      clear hY
      gi_wp2
      go_end0
      exact ⟨⟨_, rfl⟩, .inl ⟨pre, HEE.out, hJs⟩⟩
    | succ j =>
      obtain rfl : z = (j : Int) := by have := HZ.out; omega
      have hd : decide ((0 : Int) ≤ (j : Int)) = true := by rw [decide_eq_true_eq]; omega
      have hlt : j < len := by omega
      have hw := wrap_int ((j : Int) - 1) (by omega) (by omega)
      obtain ⟨g, o, rfl, hg⟩ := HR0.out.at (by omega)
      have hgn := HA0.out g o rfl (by omega)
      have hjl : j < l.length := by have := HL.out; omega
      have hox : OkE (itC l j).e := itC_ok HR0.out.ok j
      obtain ⟨X, HXX, HSX, H1X, HNX⟩ := item_row (itC l j) hox
      have HR : Hid (wr.rangeAt g (o + 110 * j) X.toList) := by
        show World.rangeAt _ _ _ _
        rw [HXX.out, itC_at hjl]
        have h1 := (HR0.out.below HKP.out.1 (fun g' o' e _ => by cases e; exact hgn)).range j hjl
        simpa using h1
      have ix := fun W => index_item W g o len cap j .i64 hlt
      have hbx : wr.cell? ⟨Bs, 0, none⟩ = some (.slice (some ⟨g, o, none⟩) len cap) := (World.cell?_of_block (a := ⟨Bs, 0, none⟩) HKP.out.2.1).trans hBs
      have HENC : Hid (encI l j = #[.int .i64 (j : Int), .agg X]) := by show _ = _; unfold encI; rw [HXX.out]
      have HX1 : Hid (∀ V, J pre V → ∃ fn tmps assign body, (Instr.yield lp #[.int .i64 (j : Int), .agg X]).run Tryz.prog V = .ok (.round lp fn tmps assign body) V ∧
            RoundIn Fence.wide (n - 1) Tryz.prog lp fn tmps assign body V fun e W' => ∃ bb, e = .returned (.bool bb) ∧ ((bb = true ∧ J (pre ++ [j]) W' ∧ KpE n₀ Bs Bs V W') ∨ (bb = false ∧ Jx (pre ++ [j]) W'))) := by
        intro V hj
        obtain ⟨fn, tmps, assign, body, hy, hRo⟩ := hY pre j V hj (by have := HP.out; omega)
        rw [HENC.out] at hy
        refine ⟨fn, tmps, assign, body, hy, hRo.mono ?_⟩
        rintro e W' (⟨he, h2, h3⟩ | ⟨he, h2⟩)
        · exact ⟨true, he, .inl ⟨rfl, h2, h3⟩⟩
        · exact ⟨false, he, .inr ⟨rfl, h2⟩⟩
      obtain ⟨fn, tmps, assign, body, hy, hRo⟩ := HX1.out wr hJs
      have hmo : Tryz.prog.follows Departure.mixedOrders = true := by kernel_rfl
      clear hY hBs HXX HENC hox hg hgn hJs h0 HR0 HA0 HX1 HNX H1X HZ
      gi_wp2_with (first
        | (show wpListIn _ _ _ _ _ ({ dst := some 16, op := _, type := _, pos := _, after := _, guard := _ } :: _) _ _; refine wpListIn_mid (by rfl) 47 (.tmp 15) rfl g (o + 110 * j) rfl X _ HR.out Tryz.underlying47 rfl HSX.out ?_; try simp only [Act.put, pS1, pS2, pS3])
        | fail)
      refine hRo.mono ?_
      rintro e W3 ⟨bb, rfl, hbb⟩
      rcases hbb with ⟨rfl, hJ3, hk3⟩ | ⟨rfl, hJx3⟩
      · have HE3 : Hid (bkN len = (pre ++ [j]) ++ bkN j) := by show _ = _; rw [HE.out, bkN_next]; simp
        have HP3 : Hid ((pre ++ [j]).length + j = len) := by show _ = _; have := HP.out; rw [List.length_append]; show pre.length + 1 + j = len; omega
        have HK3 := hidk (kpE_t HKP.out hk3)
        clear hy hRo hk3 HKP hbx HR
        gi_wp2
        go_roundw
        case rel => exact ⟨j, _, pre ++ [j], by omega, rfl, rfl, HP3, HE3, hJ3, HK3⟩
        case measure => simp [intOf]
      · have HPX : Hid ((pre ++ [j]) <+: bkN len) := by show _ <+: _; rw [HE.out, bkN_next]; exact ⟨bkN j, by simp⟩
        clear hy hRo HKP hbx HR
        gi_wp2
        refine bodyPost_ret (results_none rfl _ _ _) rfl ?_
        exact ⟨⟨_, rfl⟩, .inr ⟨_, HPX.out, hJx3⟩⟩
set_option maxHeartbeats 1000000 in
theorem bki_in (n : Nat) (a : Option Addr) (len cap : Nat) (w : World) :
    CallsIn Fence.wide n Tryz.prog 37 #[.slice a len cap] w fun e w' => e = .returned (.func (.func 60) #[] #[.pointer (some ⟨w.heap.size, 0, none⟩)]) ∧ w' = w.alloc (.cells #[.slice a len cap] 24) := by
  refine callsIn_of_wp Tryz.func37 rfl trivial ?_ rfl
  simp only [Tryz.ntmps37, List.size_toArray, List.length_cons, List.length_nil, Nat.reduceAdd, Nat.reduceSub, Array.replicate_succ, Array.replicate_zero, List.push_toArray, List.append_toArray, List.nil_append, List.cons_append]
  gi_wp2
  go_ret
  exact ⟨rfl, rfl⟩
theorem bki_stops (n : Nat) (hn : 1 ≤ n) (Bs n₀ : Nat) (a : Option Addr) (len cap : Nat) (l : List ItT) (w : World) (hm : len ≤ 1000000) (hBs : Bs < w.heap.size) (hn₀ : n₀ ≤ w.heap.size)
    (hcs : w.cell? ⟨Bs, 0, none⟩ = some (.slice a len cap)) (hR : IReads w a len cap l) (hA : ∀ g o, a = some ⟨g, o, none⟩ → 0 < len → g < n₀) :
    SeqStopsK Fence.wide n Tryz.prog 60 #[.pointer (some ⟨Bs, 0, none⟩)] (encI l) (KpE n₀ Bs Bs) (fun ys => ys = bkN len) (fun pre => pre <+: bkN len) len w := fun lp J Jx W hW hJ _ hY h0 =>
  bki1_in n hn lp Bs n₀ a len cap l hm J Jx W hJ (Nat.le_trans hn₀ hW.size) (Nat.lt_of_lt_of_le hBs hW.size) hY ((hW.cell (p := ⟨Bs, 0, none⟩) hBs).trans hcs) (hR.keep hW) hA h0
end Go.Proofs.YtjalebncfnekiaaGreatDoor
/- The program's isAnchor and Latest. -/
namespace Go.Proofs.YtjalebncfnekiaaGreatDoor
open Go.RowKit Go.Shelf Nums Sums
set_option linter.unusedVariables false
set_option linter.unusedSimpArgs false
set_option maxRecDepth 100000
set_option maxHeartbeats 2000000 in
theorem anIs_any (x : ItT) (r : Int) (w : World) (X : Array Value) (HX : Hid (X = (icells x).toArray)) :
    Calls Tryz.prog 38 #[.agg X, .int .i64 r] w fun e w' => e = .returned (.bool (isAn x r)) ∧ Below w.heap.size w w' := by
  have HB : Hid (Below w.heap.size w (w.alloc (.cells X 47))) := (Below.refl _ _).alloc (Nat.le_refl _) _
  obtain ⟨c1, c5⟩ := anch_new w x X HX 47
  have HI := hidk (isAn_iff x r)
  obtain ⟨kk, hkk⟩ : ∃ k, x.e.k = k := ⟨_, rfl⟩
  obtain ⟨rr, hrr⟩ : ∃ k, x.e.h.h.r = k := ⟨_, rfl⟩
  rw [hkk, hrr] at HI
  rw [hkk] at c1
  rw [hrr] at c5
  clear HX hkk hrr
  by_cases h1 : kk = 2
  · by_cases h2 : rr = r
    · have b1 : (kk == (2 : Int)) = true := by rw [beq_iff_eq]; exact h1
      have d1 : decide (kk = (2 : Int)) = true := decide_eq_true h1
      have b2 : (rr == r) = true := by rw [beq_iff_eq]; exact h2
      have d2 : decide (rr = r) = true := decide_eq_true h2
      have e : isAn x r = true := HI.out.2 ⟨h1, h2⟩
      go_enter Tryz.func38, Tryz.ntmps38
      go_wp2
      go_ret
      exact ⟨by rw [e]; rfl, HB.out⟩
    · have b1 : (kk == (2 : Int)) = true := by rw [beq_iff_eq]; exact h1
      have d1 : decide (kk = (2 : Int)) = true := decide_eq_true h1
      have b2 : (rr == r) = false := by rw [beq_eq_false_iff_ne]; exact h2
      have d2 : decide (rr = r) = false := decide_eq_false h2
      have e : isAn x r = false := by rw [Bool.eq_false_iff]; intro hh; exact h2 (HI.out.1 hh).2
      go_enter Tryz.func38, Tryz.ntmps38
      go_wp2
      go_ret
      exact ⟨by rw [e]; rfl, HB.out⟩
  · have b1 : (kk == (2 : Int)) = false := by rw [beq_eq_false_iff_ne]; exact h1
    have d1 : decide (kk = (2 : Int)) = false := decide_eq_false h1
    have e : isAn x r = false := by rw [Bool.eq_false_iff]; intro hh; exact h1 (HI.out.1 hh).1
    go_enter Tryz.func38, Tryz.ntmps38
    go_wp2
    go_ret
    exact ⟨by rw [e]; rfl, HB.out⟩
attribute [local go_sem] Oper.semAt_some
theorem wpListIn_build_none {F : Fence} {n : Nat} {P : Program} {ops : Array Oper} {rest : List Oper} {o : Oper} {a : Act} {w : World} {Q : Exit → Act → World → Prop} (hg : o.guard = none) (t : TypeId) (ho : o.op = .build t #[])
    (cs : Array Value) (hb : P.built t [] = some cs) (h : wpListIn F n P ops Q rest (a.put o.dst (.agg cs)) w) : wpListIn F n P ops Q (o :: rest) a w := by
  refine wpListIn_plain hg fun K hK => ?_
  have hk := hK _ _ h
  refine ⟨fun f hf => (by simp [Oper.about, ho] at hf), ?_⟩
  rw [Oper.semAt_plain F _ _ (by rw [ho]; intro c hc; cases hc)]
  have hr := run_build (P := P) w t #[] cs (by simpa using hb)
  unfold execOp
  simp [ho, hr]
  exact hk
theorem results_row_cell {P : Program} {fn : Func} {p q : Tmp} {ty ty2 : TypeId} (h : fn.results = #[.cell p ty, .cell q ty2]) (tmps : Array Value) (w : World) (g g2 : Nat) (t : TypeId) (cs : Array Value) (fr : Nat × Nat) (d : TypeDesc)
    (hp : tmps.getD p undef = .pointer (some ⟨g, 0, none⟩)) (hq : tmps.getD q undef = .pointer (some ⟨g2, 0, none⟩)) (hg : w.heap[g]? = some (.cells cs t fr)) (v : Value) (hv : (loadVar ty2 ⟨g2, 0, none⟩).run P w = .ok v w)
    (hu : P.underlying ty = some d) (hd : (match d with | .struct _ | .array _ _ => true | _ => false) = true) (hi : (P.info? ty).map (·.size) = some cs.size) :
    (results fn tmps).run P w = .ok (.tuple #[.agg cs, v]) w := by
  have hp' : tmps[p]?.getD undef = .pointer (some ⟨g, 0, none⟩) := by simpa using hp
  have hq' : tmps[q]?.getD undef = .pointer (some ⟨g2, 0, none⟩) := by simpa using hq
  simp [results, h, hp', hq', asAddr, run_loadVar_row w g t ty cs fr d hg hu hd hi, hv]
theorem wrote_from {B g : Nat} {D : Array Value} {t : TypeId} {W W' : World} (h : Wrote g D t W W') (hg : g < B) : KeepsFrom B W W' :=
  ⟨(h.below 0 W (Below.refl _ _) (Nat.zero_le _)).size, fun k o hB hk ho => by rw [h.other k (by omega)]; exact hk⟩
structure LatB (w : World) (r : Int) (g4 gb : Nat) (S : Array Value) (b : Bool) (W : World) : Prop where
  r : W.heap[w.heap.size]? = some (.cells #[.int .i64 r] 3 (0, 0))
  s : W.heap[g4]? = some (.cells S 29 (0, 0))
  b : W.heap[gb]? = some (.cells #[.bool b] 4 (0, 0))
  bl : Below w.heap.size w W
  z : gb + 2 ≤ W.heap.size
theorem LatB.own {w : World} {r : Int} {g4 gb : Nat} {S : Array Value} {b : Bool} {X Y : World} {row : Option Nat} {B : Nat} (h : LatB w r g4 gb S b X) (hB : w.heap.size ≤ B) (hg : X.grownBy Y row) (hr : ∀ r, row = some r → B ≤ r ∧ ∃ o : Obj, X.heap[r]? = some o ∧ o.isCells = false) : LatB w r g4 gb S b Y :=
  ⟨cells_stay h.r hg (fun r e => (hr r e).2), cells_stay h.s hg (fun r e => (hr r e).2), cells_stay h.b hg (fun r e => (hr r e).2), h.bl.grown hg (Nat.le_trans h.bl.size (Nat.le_refl _)) (fun k e => by have := (hr k e).1; omega), Nat.le_trans h.z hg.size⟩
theorem LatB.keep {w : World} {r : Int} {g4 gb : Nat} {S : Array Value} {b : Bool} {X Y : World} (h : LatB w r g4 gb S b X) (hb : Below X.heap.size X Y) : LatB w r g4 gb S b Y :=
  ⟨(hb.block _ (heap_lt h.r)).trans h.r, (hb.block _ (heap_lt h.s)).trans h.s, (hb.block _ (heap_lt h.b)).trans h.b, h.bl.trans (hb.mono h.bl.size), Nat.le_trans h.z hb.size⟩
set_option maxHeartbeats 8000000 in
theorem latest_in (n : Nat) (hn : 3 ≤ n) (a : Option Addr) (len cap : Nat) (l : List ItT) (r : Int) (w : World) (h : InL w a len cap l) (R : Array Value) (HR : Hid (R = (scells (latS l r)).toArray)) :
    CallsIn Fence.wide n Tryz.prog 20 #[.slice a len cap, .int .i64 r] w fun e w' => e = .returned (.tuple #[.agg R, .bool (latA l r).isSome]) ∧ Below w.heap.size w w' := by
  have h1 : 1 ≤ n := by omega
  obtain ⟨Z, HZ, HAZ, HBZ, HNZ⟩ := noughtsI
  obtain ⟨ZS, HZS, HAS, HBS, H69⟩ := noughtsS
  have HLN := hidk h.rd.ln
  have HOK := hidk h.rd.ok
  have hA : ∀ g o, a = some ⟨g, o, none⟩ → 0 < len → g < w.heap.size := fun g o e h0 => by
    obtain ⟨g', o', e', hl⟩ := h.rd.at h0
    rw [e] at e'; cases e'; exact hl
  have HS69 : Hid ((Tryz.prog.info? 29).map (·.size) = some ZS.size) := by show _ = _; rw [sizeS, H69.out]
  refine callsIn_of_wp_marks Tryz.func20 rfl trivial ?_ rfl
  simp only [Tryz.ntmps20, List.size_toArray, List.length_cons, List.length_nil, Nat.reduceAdd, Nat.reduceSub, Array.replicate_succ, Array.replicate_zero, List.push_toArray, List.append_toArray, List.nil_append, List.cons_append]
  gi_wp2_with (first
    | (show wpListIn _ _ _ _ _ ({ dst := some 4, op := _, type := _, pos := _, after := _, guard := _ } :: _) _ _; refine wpListIn_new_var rfl 29 rfl ZS HAS.out ?_; intro g4 w1 HM; try simp only [Act.put, pS1, pS2, pS3])
    | (refine ⟨trivial, ?_⟩; gi_at_call 37; refine (bki_in (n - 1) _ _ _ _).mono ?_; rintro e w' ⟨rfl, rfl⟩)
    | fail)
  have hsz0 : (w.alloc (.cells #[.int .i64 r] 3)).heap.size = w.heap.size + 1 := by simp
  have e4 : g4 = w.heap.size + 1 := by rw [HM.out.new, hsz0]
  have hr1 : w1.heap[w.heap.size]? = some (.cells #[.int .i64 r] 3 (0, 0)) := (HM.out.below.block _ (by omega)).trans (heap_alloc_new w _)
  have hb1 : Below w.heap.size w w1 := ((Below.refl _ w).alloc (Nat.le_refl _) (.cells #[.int .i64 r] 3)).trans (HM.out.below.mono (by omega))
  have h41 : g4 < w1.heap.size := heap_lt HM.out.row
  obtain ⟨gb, hgb⟩ : ∃ gb, w1.heap.size = gb := ⟨_, rfl⟩
  have hB0 : Below w.heap.size w ((w1.alloc (.cells #[.bool false] 4)).alloc (.cells #[.slice a len cap] 24)) := hb1.trans ((((Below.refl _ w1).alloc (Nat.le_refl _) _).alloc (by simp) _).mono hb1.size)
  have hsz : ((w1.alloc (.cells #[.bool false] 4)).alloc (.cells #[.slice a len cap] 24)).heap.size = gb + 2 := by rw [← hgb]; simp
  have b0 : ((w1.alloc (.cells #[.bool false] 4)).alloc (.cells #[.slice a len cap] 24)).heap[w.heap.size]? = some (.cells #[.int .i64 r] 3 (0, 0)) := heap_keep (heap_keep hr1)
  have b1 : ((w1.alloc (.cells #[.bool false] 4)).alloc (.cells #[.slice a len cap] 24)).heap[g4]? = some (.cells ZS 29 (0, 0)) := heap_keep (heap_keep HM.out.row)
  have b2 := (Boxed.new w1 4 (.bool false)).alloc (.cells #[.slice a len cap] 24)
  have b3 := Boxed.new (w1.alloc (.cells #[.bool false] 4)) 24 (.slice a len cap)
  simp only [World.size_alloc] at b2 b3
  rw [hgb] at b2 b3 h41
  try simp only [World.size_alloc]
  rw [hgb]
  obtain ⟨W0, hW0⟩ : ∃ W0, ((w1.alloc (.cells #[.bool false] 4)).alloc (.cells #[.slice a len cap] 24)) = W0 := ⟨_, rfl⟩
  rw [hW0] at b0 b1 b2 b3 hB0 hsz ⊢
  have h4lo : w.heap.size < g4 := by omega
  clear hW0 HM hr1 hb1 hgb e4
  have hge : gb + 2 ≤ W0.heap.size := Nat.le_of_eq hsz.symm
  have F0 : LatB w r g4 gb ZS false W0 := ⟨b0, b1, b2, hB0, hge⟩
  have hRd := h.rd.keep hB0
  refine wpIn_rangeFunc_ownH rfl h1 (gf := 60) (lb := #[.pointer (some ⟨gb + 1, 0, none⟩)]) rfl trivial (enters_of Tryz.func60 (by kernel_rfl) rfl)
    (bki_stops (n - 1) (by omega) (gb + 1) w.heap.size a len cap l W0 (by have := h.le; omega) (by omega) (by omega) b3.cell hRd hA) kpE_t (kpE_b (by omega) (by omega) (by omega)) (Below.refl _ _) (fun _ => rfl)
    (fun pre W => LatB w r g4 gb ZS false W ∧ ∀ i ∈ pre, isAn (itC l i) r = false)
    (fun cd pre W => cd = .ret ∧ ∃ pre' x, pre = pre' ++ [x] ∧ (∀ i ∈ pre', isAn (itC l i) r = false) ∧ isAn (itC l x) r = true ∧ LatB w r g4 gb (scells (itC l x).e.h).toArray true W)
    (fun pre X Y row hs hg hr => ⟨hs.1.own (by omega) hg hr, hs.2⟩)
    (fun cd pre X Y row hs hg hr => by
      obtain ⟨hc, pre', x, e1, e2, e3, e4⟩ := hs
      exact ⟨hc, pre', x, e1, e2, e3, e4.own (by omega) hg hr⟩)
    ⟨F0, fun x hx => by cases hx⟩
    (fun x a' W => ∃ Bx, W.heap[Bx]? = some (.cells (icells (itC l x)).toArray 47 (0, 0)) ∧ a' = { tmps := #[.slice a len cap, .int .i64 r, undef, .pointer (some ⟨w.heap.size, 0, none⟩), .pointer (some ⟨g4, 0, none⟩), .pointer (some ⟨gb, 0, none⟩), undef, .pointer (some ⟨Bx, 0, none⟩), .slice a len cap, .func (.func 60) #[] #[.pointer (some ⟨gb + 1, 0, none⟩)], .int .i64 (x : Int), .agg (icells (itC l x)).toArray, undef, undef, undef, undef, undef, undef, undef], defers := [] })
    (fun x a' _ X Y row hs hg hr => by obtain ⟨Bx, k2, k3⟩ := hs; exact ⟨Bx, cells_stay k2 hg (fun r e => (hr r e).2), k3⟩)
    ?assign ?body ?done ?stop
  case assign =>
    rintro lp pre x W K ⟨hF, hz⟩ hK
    obtain ⟨U, HU, HSU, H1U, HNU⟩ := item_row (itC l x) (itC_ok HOK.out x)
    have HZU : Hid (Z.size = U.size) := by show _ = _; rw [HNZ.out, HNU.out]
    dsimp only [encI]
    rw [← HU.out] at hK ⊢
    have hls := hF.bl.size
    have l3 := hF.z
    have HFF := hidk hF
    have HKK := hidk hK
    clear hF hK HU HNU HZ HBZ HZS HBS
    simp only [List.zip_toArray, List.foldl_toArray, List.zip_cons_cons, List.zip_nil_right, List.foldl_cons, List.foldl_nil, List.setIfInBounds_toArray, List.set_cons_succ, List.set_cons_zero]
    gi_wp2_with (first
      | (show wpListIn _ _ _ _ _ ({ dst := some 7, op := _, type := _, pos := _, after := _, guard := _ } :: _) _ _; refine wpListIn_new_var rfl 47 rfl Z HAZ.out ?_; intro g9 w1 HM; have HG := hidk HM.out.row; try simp only [Act.put, pS1, pS2, pS3])
      | (refine wpListIn_set_var rfl 47 (.tmp 7) (.tmp 11) rfl g9 U rfl rfl 47 Z HG.out HSU.out HZU.out H1U.out ?_; intro w2 HW; have HB2 : Hid (Below W.heap.size W w2) := HW.out.below W.heap.size W HM.out.below (by rw [HM.out.new]; exact Nat.le_refl _); have HG2 := hidk HW.out.row; try simp only [Act.put, pS1, pS2, pS3])
      | fail)
    exact HKK.out _ _ (KeepsFrom.of_grownBy (grown_of_below11 HB2.out) (fun j e => by cases e)) (kpE_below (by omega) (by omega) (by omega) HB2.out) ⟨HFF.out.keep HB2.out, hz⟩ ⟨g9, HG2.out, rfl⟩
  case body =>
    rintro lp pre x a' W hl0 ⟨rr, hlr⟩ ⟨hF, hz⟩ ⟨Bx, hBx, rfl⟩ hlt
    have HFF := hidk hF
    have hox := itC_ok HOK.out x
    obtain ⟨U, HU, HSU, H1U, HNU⟩ := item_row (itC l x) hox
    obtain ⟨T, HT, HST, H1T, HNT⟩ := sign_row (itC l x).e.h hox.h hox.g
    have HZT : Hid (ZS.size = T.size) := by show _ = _; rw [H69.out, HNT.out]
    have HRU : Hid (W.rangeAt Bx 0 U.toList) := by
      show World.rangeAt _ _ _ _
      have := range_row (l := U.toList) (W := W) (g := Bx) (t := 47) (fr := (0, 0)) (by rw [HU.out]; simpa using hBx)
      exact this
    have HRT : Hid (∀ V : World, Below W.heap.size W V → V.rangeAt Bx 5 T.toList) := fun V hb => by
      have hBx2 := (hb.block _ (heap_lt hBx)).trans hBx
      have h0 := range_row (l := icells (itC l x)) (W := V) (g := Bx) (t := 47) (fr := (0, 0)) hBx2
      rw [HT.out]
      have := range_head h0
      simpa using this
    have cR : W.cell? ⟨w.heap.size, 0, none⟩ = some (.int .i64 r) := by rw [cell_of_row W _ 0 _ _ (0, 0) hF.r]; rfl
    obtain ⟨an, Han⟩ : ∃ b, Hid (isAn (itC l x) r = b) := ⟨_, hidk rfl⟩
    have IS : Hid (Calls Tryz.prog 38 #[.agg U, .int .i64 r] W fun e w' => e = .returned (.bool an) ∧ Below W.heap.size W w') := by rw [← Han.out]; exact anIs_any (itC l x) r W U HU
    have hg0 := heap_lt hF.s
    have hz3 := hF.z
    have hls := hF.bl.size
    rw [← HU.out] at hBx ⊢
    clear hF HU HNU HNT HZ HBZ HZS HBS H1U HNZ hRd
    gi_wp2_with (first
      | (show wpListIn _ _ _ _ _ ({ dst := some 12, op := _, type := _, pos := _, after := _, guard := _ } :: _) _ _; refine wpListIn_mid (by rfl) 47 (.tmp 7) rfl Bx 0 rfl U _ HRU.out Tryz.underlying47 rfl HSU.out ?_; try simp only [Act.put, pS1, pS2, pS3])
      | fail)
    refine ⟨trivial, fun h => (by cases h), ?_⟩
    refine (CallsIn.inRound lp (callsIn_wide.2 IS.out)).mono ?_
    rintro e W1 ⟨rfl, hb1⟩
    have HF1 := hidk (HFF.out.keep hb1)
    have HRT1 := hidk (HRT.out W1 hb1)
    have HB1 := hidk hb1
    clear hb1 IS HRT HRU HFF cR
    cases an
    · gi_wp2
      refine ⟨KeepsFrom.of_grownBy (grown_of_below11 HB1.out) (fun j e => by cases e), kpE_below (by omega) (by omega) (by omega) HB1.out, HF1.out, fun y hy => ?_⟩
      rcases List.mem_append.1 hy with h | h
      · exact hz y h
      · rw [List.mem_singleton] at h; rw [h]; exact Han.out
    · have HG4 := hidk HF1.out.s
      have HGB := hidk HF1.out.b
      gi_wp2_with (first
        | (show wpListIn _ _ _ _ _ ({ dst := some 17, op := _, type := _, pos := _, after := _, guard := _ } :: _) _ _; refine wpListIn_mid (by rfl) 29 (.tmp 16) rfl Bx 5 rfl T _ HRT1.out Tryz.underlying29 rfl HST.out ?_; try simp only [Act.put, pS1, pS2, pS3])
        | (refine wpListIn_set_var rfl 29 (.tmp 4) (.tmp 17) rfl g4 T rfl rfl 29 ZS HG4.out HST.out HZT.out H1T.out ?_; intro W2 HW; have HGB2 := hidk ((HW.out.other gb (by omega)).trans HGB.out); have cB : W2.cell? ⟨gb, 0, none⟩ = some (.bool false) := (by rw [cell_of_row W2 _ 0 _ _ (0, 0) HGB2.out]; rfl); have fB := frozen_of_row W2 gb 0 _ _ HGB2.out; try simp only [Act.put, pS1, pS2, pS3])
        | fail)
      refine ⟨?_, rfl, pre, x, rfl, hz, Han.out, ?_⟩
      · exact (KeepsFrom.of_grownBy (grown_of_below11 HB1.out) (fun j e => by cases e)).trans ((wrote_from HW.out (by omega)).trans ((KeepsOthers.setCell _ _ _).from _))
      · have hbl2 : Below w.heap.size w W2 := HW.out.below _ _ HF1.out.bl (by omega)
        rw [← HT.out]
        refine ⟨set_other ((HW.out.other _ (by omega)).trans HF1.out.r) (by omega) _, set_other HW.out.row (by omega) _, Boxed.set _ (show Boxed W2 gb 4 (.bool false) from HGB2.out), hbl2.setCell (p := ⟨gb, 0, none⟩) (by show w.heap.size ≤ gb; omega) _, ?_⟩
        have hs2 := (HW.out.below 0 W1 (Below.refl _ _) (Nat.zero_le _)).size
        have := HF1.out.z
        simp only [World.size_setCell]
        omega
  case done =>
    rintro D ys W hD rfl ⟨hF, hz⟩ hK
    rw [← HLN.out] at hz
    have HFN := hidk (lat_done hz)
    have HG4 := hidk hF.s
    have HGB := hidk hF.b
    have HRZ : Hid (R = ZS) := by show _ = _; rw [HR.out, HZS.out]; unfold latS; rw [HFN.out]; rfl
    have HH1 : Hid (ZS.all (·.oneCell') = true) := by show _ = _; rw [HZS.out]; exact one_cellsS _
    have HF := hidk hF
    have HKD := hidk hK
    clear hF hz hK HZ HBZ HZS
    gi_wp2_with (first
      | (show wpListIn _ _ _ _ _ ({ dst := some 18, op := _, type := _, pos := _, after := _, guard := _ } :: _) _ _; refine wpListIn_build_none rfl 29 rfl ZS HBS.out ?_; try simp only [Act.put, pS1, pS2, pS3])
      | (refine wpListIn_set_var rfl 29 (.tmp 4) (.tmp 18) rfl g4 ZS rfl rfl 29 ZS HG4.out HS69.out rfl HH1.out ?_; intro W2 HW; have HGB2 := hidk ((HW.out.other gb (by omega)).trans HGB.out); have cB : W2.cell? ⟨gb, 0, none⟩ = some (.bool false) := (by rw [cell_of_row W2 _ 0 _ _ (0, 0) HGB2.out]; rfl); have fB := frozen_of_row W2 gb 0 _ _ HGB2.out; try simp only [Act.put, pS1, pS2, pS3])
      | fail)
    have hbl2 : Below w.heap.size w W2 := HW.out.below _ _ HF.out.bl (by omega)
    have hs2 := (HW.out.below 0 W (Below.refl _ _) (Nat.zero_le _)).size
    have FIN : LatB w r g4 gb ZS false (W2.setCell ⟨gb, 0, none⟩ (.bool false)) :=
      ⟨set_other ((HW.out.other _ (by omega)).trans HF.out.r) (by omega) _, set_other HW.out.row (by omega) _, Boxed.set _ (show Boxed W2 gb 4 (.bool false) from HGB2.out), hbl2.setCell (p := ⟨gb, 0, none⟩) (by show w.heap.size ≤ gb; omega) _, by have := HF.out.z; simp only [World.size_setCell]; omega⟩
    have hK' : (W2.setCell ⟨gb, 0, none⟩ (.bool false)).heap[D]? = some (.deferred (some [])) := (KeepsOthers.setCell W2 ⟨gb, 0, none⟩ (.bool false)).same D _ ((HW.out.other D (by omega)).trans HKD.out) rfl
    refine ⟨by simp, .inl ⟨_, _, rfl, run_takeDeferred hK', ?_⟩⟩
    have FE := FIN.own (B := W0.heap.size) (by omega) (grownBy_putObj' _ D (.deferred none)) (fun r e => by cases e; exact ⟨hD, _, hK', rfl⟩)
    have q2 := cell_of_row _ _ 0 _ _ (0, 0) FE.b
    refine ⟨.tuple #[.agg ZS, .bool false], ?_, by rw [HFN.out, HRZ.out]; rfl, FE.bl⟩
    exact results_row_cell (p := 4) (q := 5) (ty := 29) (ty2 := 4) rfl _ _ g4 gb 29 ZS (0, 0) _ rfl rfl FE.s (.bool false) (by simp [go_sem, q2]) Tryz.underlying29 rfl HS69.out
  case stop =>
    rintro D cd pre W hD hpre ⟨rfl, pre', x, rfl, hz, hx, hF⟩ hK
    rw [← HLN.out] at hpre
    have HFN := hidk (lat_stop hpre hz hx)
    have HRZ : Hid ((scells (itC l x).e.h).toArray = R) := by show _ = _; rw [HR.out]; unfold latS; rw [HFN.out]; rfl
    rw [HRZ.out] at hF
    have HSR : Hid ((Tryz.prog.info? 29).map (·.size) = some R.size) := by show _ = _; rw [sizeS, ← HRZ.out]; have ok := itC_ok HOK.out x; simp [scells_length _ ok.h ok.g]
    gi_wp2
    refine ⟨by simp, .inl ⟨_, _, rfl, run_takeDeferred hK, ?_⟩⟩
    have FE := hF.own (B := W0.heap.size) (by omega) (grownBy_putObj' _ D (.deferred none)) (fun r e => by cases e; exact ⟨hD, _, hK, rfl⟩)
    have q2 := cell_of_row _ _ 0 _ _ (0, 0) FE.b
    refine ⟨.tuple #[.agg R, .bool true], ?_, by rw [HFN.out]; rfl, FE.bl⟩
    exact results_row_cell (p := 4) (q := 5) (ty := 29) (ty2 := 4) rfl _ _ g4 gb 29 R (0, 0) _ rfl rfl FE.s (.bool true) (by simp [go_sem, q2]) Tryz.underlying29 rfl HSR.out
theorem anLatest (a : Option Addr) (len cap : Nat) (l : List ItT) (r : Int) (w : World) (h : InL w a len cap l) (R : Array Value) (HR : Hid (R = (scells (latS l r)).toArray)) :
    Calls Tryz.prog 20 #[.slice a len cap, .int .i64 r] w fun e w' => e = .returned (.tuple #[.agg R, .bool (latA l r).isSome]) ∧ Below w.heap.size w w' := callsIn_wide.1 (latest_in 3 (Nat.le_refl _) a len cap l r w h R HR)
end Go.Proofs.YtjalebncfnekiaaGreatDoor
/- What the calls of package anchors answer. -/
namespace Go.Proofs.YtjalebncfnekiaaGreatDoor
open Go.RowKit Nums Sums
set_option linter.unusedVariables false
set_option linter.unusedSimpArgs false
set_option maxRecDepth 100000
structure AnchorsC : Prop where
  latest : ∀ (a : Option Addr) (len cap : Nat) (l : List ItT) (r : Int) (w : World) (h : InL w a len cap l) (hr : In64 r) (R : Array Value) (HR : Hid (R = (scells (latS l r)).toArray)),
    Calls Tryz.prog 20 #[.slice a len cap, .int .i64 r] w fun e w' => e = .returned (.tuple #[.agg R, .bool (latA l r).isSome]) ∧ Below w.heap.size w w'
  place : ∀ (a : Option Addr) (len cap : Nat) (l : List ItT) (r s : Int) (w : World) (h : InL w a len cap l) (hr : In64 r) (hs : In64 s),
    Calls Tryz.prog 21 #[.slice a len cap, .int .i64 r, .int .i64 s] w fun e w' => e = .returned (.tuple #[.int .i64 (((plcA l r s).getD 0 : Nat) : Int), .bool (plcA l r s).isSome]) ∧ Below w.heap.size w w'
  adm : ∀ (master : List UInt8) (a : Option Addr) (len cap : Nat) (l : List ItT) (s : SgT) (m : Int) (p : Option Addr) (pl pc : Nat) (proof : List (List UInt8)) (w : World) (M C : Array Value) (HM : Hid (M = (cellsOf master).toArray)) (HC : Hid (C = (scells s).toArray)) (hm : master.length = 32) (h : InL w a len cap l) (hs : InS s) (im : In64 m) (hp : LReads w p pl pc proof) (hT : TabH w),
    Calls Tryz.prog 7 #[.agg M, .slice a len cap, .agg C, .int .i64 m, .slice p pl pc] w fun e w' => e = .returned (.int .i64 (admE master l s m proof)) ∧ Below w.heap.size w w'
  apart : ∀ (master : List UInt8) (s t : SgT) (w : World) (M C D : Array Value) (HM : Hid (M = (cellsOf master).toArray)) (HC : Hid (C = (scells s).toArray)) (HD : Hid (D = (scells t).toArray)) (hm : master.length = 32) (hs : InS s) (ht : InS t) (hT : TabH w),
    Calls Tryz.prog 10 #[.agg M, .agg C, .agg D] w fun e w' => e = .returned (.bool (apB master s t)) ∧ Below w.heap.size w w'
def zeroK : List UInt8 := List.replicate 32 0
theorem builtKey : Tryz.prog.built 23 [] = some (cellsOf zeroK).toArray := by kernel_rfl
def hdN (e : Int) : HdT := ⟨2, e, 0, sumD [], 0⟩
theorem hdN_digs (e : Int) : (hdN e).d.length = 32 := sumD_length _
theorem builtHN (e : Int) (D R : Array Value) (HD : Hid (D = (cellsOf (sumD [])).toArray)) (HR : Hid (R = (hcells (hdN e)).toArray)) : Tryz.prog.built 27 [(0, .int .i64 2), (1, .int .i64 e), (3, .agg D)] = some R := by
  have hi := infoH
  cases hq : Tryz.prog.info? 27 with
  | none => rw [hq] at hi; cases hi
  | some i =>
    rw [hq] at hi
    simp only [Option.map_some, Option.some.injEq, Prod.mk.injEq] at hi
    have hD := size23
    have h3 : (Tryz.prog.info? 3).map (·.size) = some 1 := by kernel_rfl
    cases hqD : Tryz.prog.info? 25 with
    | none => rw [hqD] at hD; cases hD
    | some iD =>
      cases hq3 : Tryz.prog.info? 3 with
      | none => rw [hq3] at h3; cases h3
      | some i3 =>
        rw [hqD] at hD
        rw [hq3] at h3
        simp only [Option.map_some, Option.some.injEq] at hD h3
        unfold Program.built
        simp only [hq, Tryz.underlying27, hi.1, List.mapM_cons, List.mapM_nil, hqD, hq3, hD, h3, Option.map_some, Option.bind_eq_bind, Option.bind_some, Option.pure_def]
        show Instr.fill _ (hcells zeroH).toArray _ = some R
        have hd32 : D.size = 32 := by rw [HD.out]; simp [cellsOf_length, sumD_length]
        refine (fill_val _ 0 0 1 (.int .i64 2) #[.int .i64 2] _ [] [.int .i64 0] ([.int .i64 0, .int .i64 0] ++ cellsOf (List.replicate 32 0) ++ [.int .i64 0]) _ rfl rfl rfl (by simp [hcells, zeroH]) rfl rfl).trans ?_
        refine (fill_val _ 1 1 1 (.int .i64 e) #[.int .i64 e] _ [.int .i64 2] [.int .i64 0] ([.int .i64 0] ++ cellsOf (List.replicate 32 0) ++ [.int .i64 0]) _ rfl rfl rfl (by simp) rfl rfl).trans ?_
        refine (fill_val _ 3 3 32 (.agg D) D _ [.int .i64 2, .int .i64 e, .int .i64 0] (cellsOf (List.replicate 32 0)) [.int .i64 0] _ rfl rfl hd32 (by simp) rfl (by simp [cellsOf_length])).trans ?_
        simp only [Instr.fill, List.append_nil, Option.some.injEq]
        rw [HR.out, HD.out]
        rfl
def anI (e : Int) (s : SgT) : ItT := ⟨e, ⟨2, 0, 0, ByteArray.empty, s, zeroC⟩⟩
theorem anI_ok (e : Int) (s : SgT) (hd : s.h.d.length = 32) (hg : s.g.length = 32) : OkE (anI e s).e := ⟨hd, hg, rfl⟩
theorem builtAE (s : SgT) (hd : s.h.d.length = 32) (hg : s.g.length = 32) (S R : Array Value) (HS : Hid (S = (scells s).toArray)) (HR : Hid (R = (ecells (anI 0 s).e).toArray)) : Tryz.prog.built 45 [(0, .int .i64 2), (4, .agg S)] = some R := by
  have hi := infoE
  cases hq : Tryz.prog.info? 45 with
  | none => rw [hq] at hi; cases hi
  | some i =>
    rw [hq] at hi
    simp only [Option.map_some, Option.some.injEq, Prod.mk.injEq] at hi
    have hH : (Tryz.prog.info? 41).map (·.size) = some 1 := by kernel_rfl
    have h9 : (Tryz.prog.info? 9).map (·.size) = some 1 := by kernel_rfl
    have h3 : (Tryz.prog.info? 3).map (·.size) = some 1 := by kernel_rfl
    have hS := sizeS
    cases hqH : Tryz.prog.info? 41 with
    | none => rw [hqH] at hH; cases hH
    | some iH =>
    cases hq9 : Tryz.prog.info? 9 with
    | none => rw [hq9] at h9; cases h9
    | some i9 =>
    cases hq3 : Tryz.prog.info? 3 with
    | none => rw [hq3] at h3; cases h3
    | some i3 =>
    cases hqS : Tryz.prog.info? 29 with
    | none => rw [hqS] at hS; cases hS
    | some iS =>
    rw [hqH] at hH
    rw [hq9] at h9
    rw [hq3] at h3
    rw [hqS] at hS
    simp only [Option.map_some, Option.some.injEq] at hH h9 h3 hS
    unfold Program.built
    simp only [hq, Tryz.underlying45, hi.1, List.mapM_cons, List.mapM_nil, hqH, hq9, hq3, hqS, hH, h9, h3, hS, Option.map_some, Option.bind_eq_bind, Option.bind_some, Option.pure_def]
    cases hqC : Tryz.prog.info? 43 with
    | none => have hC : (Tryz.prog.info? 43).isSome = true := by kernel_rfl
              rw [hqC] at hC; cases hC
    | some iC =>
    simp only [Option.map_some, Option.bind_some]
    show Instr.fill _ (ecells zeroE).toArray _ = some R
    have h69 : S.size = 69 := by rw [HS.out]; simp [scells_length _ hd hg]
    have hz69 : (scells zeroS).length = 69 := scells_length _ rfl rfl
    refine (fill_val _ 0 0 1 (.int .i64 2) #[.int .i64 2] _ [] [.int .i64 0] ([.int .i64 0, .int .i64 0, .string ByteArray.empty] ++ scells zeroS ++ ccells zeroC) _ rfl rfl rfl (by simp [ecells, zeroE]) rfl rfl).trans ?_
    refine (fill_val _ 4 4 69 (.agg S) S _ [.int .i64 2, .int .i64 0, .int .i64 0, .string ByteArray.empty] (scells zeroS) (ccells zeroC) _ rfl rfl h69 (by simp) rfl (by simp [hz69])).trans ?_
    simp only [Instr.fill, List.append_nil, Option.some.injEq]
    rw [HR.out, HS.out]
    simp [anI, ecells]
set_option maxHeartbeats 4000000 in
theorem itemL_any (e : Int) (s : SgT) (hd : s.h.d.length = 32) (hg : s.g.length = 32) (w : World) (S X : Array Value) (HS : Hid (S = (scells s).toArray)) (HX : Hid (X = (icells (anI e s)).toArray)) :
    Calls Tryz.prog 19 #[.int .i64 e, .agg S] w fun x w' => x = .returned (.agg X) ∧ Below w.heap.size w w' := by
  have ok := anI_ok e s hd hg
  obtain ⟨Z, HZ, HA, HBZ, HNZ⟩ := noughtsI
  obtain ⟨U, HU, HSU, H1U, H109⟩ := entry_row (anI 0 s).e (anI_ok 0 s hd hg)
  have HB1 : Hid (Tryz.prog.built 45 [(0, .int .i64 2), (4, .agg S)] = some U) := builtAE s hd hg S U HS HU
  have HB2 : Hid (Tryz.prog.built 47 [(0, .int .i64 e), (1, .agg U)] = some X) := builtI (anI e s) ok U X HU HX
  have HSX : Hid ((Tryz.prog.info? 47).map (·.size) = some X.size) := by show _ = _; rw [sizeI, HX.out]; simp [icells_length _ ok]
  have H1X : Hid (X.all (·.oneCell') = true) := by show _ = _; rw [HX.out]; exact one_cellsI _
  have HZX : Hid (Z.size = X.size) := by show _ = _; rw [HNZ.out, HX.out]; simp [icells_length _ ok]
  have HSS : Hid ((Tryz.prog.info? 29).map (·.size) = some S.size) := by show _ = _; rw [sizeS, HS.out]; simp [scells_length _ hd hg]
  have HBO : Hid (Below w.heap.size w (w.alloc (.cells S 29))) := (Below.refl _ _).alloc (Nat.le_refl _) _
  have HGS := hidk (heap_alloc_new w (.cells S 29))
  clear HX HZ HBZ HU HNZ H109 HS ok
  go_enter Tryz.func19, Tryz.ntmps19
  go_wp2_with (first
    | (show aD 4 _ _ _ _ _ _ _ _ _ _ _; refine wpList_new_var rfl 47 rfl Z HA.out ?_; intro g w1 HM; have HG := hidk HM.out.row; have hgg : w.heap.size ≤ g := (by rw [HM.out.new]; exact HBO.out.size); have HGS1 : Hid (w1.heap[w.heap.size]? = some (.cells S 29 (0, 0))) := (by show _ = _; rw [HM.out.below.block _ (heap_lt HGS.out)]; exact HGS.out); try simp only [Act.put, pS1, pS2, pS3])
    | (show aD 6 _ _ _ _ _ _ _ _ _ _ _; refine wpList_load_row_w (by rfl) 29 (.tmp 3) rfl w.heap.size rfl 29 S (0, 0) _ HGS1.out Tryz.underlying29 rfl HSS.out ?_; try simp only [Act.put, pS1, pS2, pS3])
    | (show aD 7 _ _ _ _ _ _ _ _ _ _ _; refine wpList_build_some rfl 45 _ rfl [(0, .int .i64 2), (4, .agg S)] rfl U HB1.out ?_; try simp only [Act.put, pS1, pS2, pS3])
    | (show aD 8 _ _ _ _ _ _ _ _ _ _ _; refine wpList_build_some rfl 47 _ rfl [(0, .int .i64 e), (1, .agg U)] rfl X HB2.out ?_; try simp only [Act.put, pS1, pS2, pS3])
    | (refine wpList_set_var rfl 47 (.tmp 4) (.tmp 8) rfl g X rfl rfl 47 Z HG.out HSX.out HZX.out H1X.out ?_; intro w2 HW; try simp only [Act.put, pS1, pS2, pS3])
    | fail)
  refine bodyPost_ret (v := .agg X) ?_ rfl ⟨rfl, HW.out.below w.heap.size w (HBO.out.trans (HM.out.below.mono HBO.out.size)) hgg⟩
  exact results_cell_row (p := 4) (ty := 47) rfl _ _ g 47 X (0, 0) _ rfl HW.out.row Tryz.underlying47 rfl HSX.out
def sgN (e : Int) : SgT := signO zeroK (hdN e) 1
theorem sgN_digs (e : Int) : (sgN e).h.d.length = 32 ∧ (sgN e).g.length = 32 := by
  unfold sgN signO
  by_cases h : signsO (hdN e) 1 = true
  · rw [if_pos h]; exact ⟨hdN_digs e, tagD_length sumD_length _ _ _⟩
  · rw [if_neg h]; exact ⟨rfl, rfl⟩
set_option maxHeartbeats 4000000 in
theorem signedL_any (hc : HeadC) (e : Int) (he : In64 e) (w : World) (hT : TabH w) (R : Array Value) (HR : Hid (R = (scells (sgN e)).toArray)) :
    Calls Tryz.prog 18 #[.int .i64 e] w fun x w' => x = .returned (.agg R) ∧ Below w.heap.size w w' := by
  obtain ⟨Z, HZ, HA, HBZ, H69⟩ := noughtsS
  obtain ⟨K, HK⟩ : ∃ K : Array Value, Hid (K = (cellsOf zeroK).toArray) := ⟨_, hidk rfl⟩
  obtain ⟨D, HD⟩ : ∃ D : Array Value, Hid (D = (cellsOf (sumD [])).toArray) := ⟨_, hidk rfl⟩
  obtain ⟨C, HC⟩ : ∃ C : Array Value, Hid (C = (hcells (hdN e)).toArray) := ⟨_, hidk rfl⟩
  obtain ⟨z, hz⟩ : ∃ z, signE (hdN e) 1 = z := ⟨_, rfl⟩
  have HBK : Hid (Tryz.prog.built 23 [] = some K) := by show _ = _; rw [HK.out]; exact builtKey
  have HBH : Hid (Tryz.prog.built 27 [(0, .int .i64 2), (1, .int .i64 e), (3, .agg D)] = some C) := builtHN e D C HD HC
  have EM : Hid (∀ W, Below w.heap.size w W → Calls Tryz.prog 31 #[] W fun x w' => x = .returned (.agg D) ∧ Below W.heap.size W w') := fun W hb => empty_any W (hT.keep hb) D HD
  have SG : Hid (∀ W, Below w.heap.size w W → Calls Tryz.prog 36 #[.agg K, .agg C, .int .i64 1] W fun x w' => x = .returned (.tuple #[.agg R, .int .i64 z]) ∧ Below W.heap.size W w') := fun W hb => by
    rw [← hz]
    exact hc.sign zeroK (hdN e) 1 W K C R HK HC rfl ⟨hdN_digs e, (by show In64 2; unfold In64; decide), he, (by show In64 0; unfold In64; decide), (by show In64 0; unfold In64; decide)⟩ (by unfold In64; decide) (hT.keep hb) HR
  have hl := sgN_digs e
  have HSR : Hid ((Tryz.prog.info? 29).map (·.size) = some R.size) := by show _ = _; rw [sizeS, HR.out]; simp [scells_length _ hl.1 hl.2]
  have HZR : Hid (Z.size = R.size) := by show _ = _; rw [H69.out, HR.out]; simp [scells_length _ hl.1 hl.2]
  have H1R : Hid (R.all (·.oneCell') = true) := by show _ = _; rw [HR.out]; exact one_cellsS _
  clear HR HC HD HK HZ HBZ H69 hl hz hc hT he
  go_enter Tryz.func18, Tryz.ntmps18
  go_wp2_with (first
    | (show aD 2 _ _ _ _ _ _ _ _ _ _ _; refine wpList_new_var rfl 29 rfl Z HA.out ?_; intro g2 wa HMA; try simp only [Act.put, pS1, pS2, pS3])
    | (show aD 6 _ _ _ _ _ _ _ _ _ _ _; refine wpList_build_some rfl 23 _ rfl [] rfl K HBK.out ?_; try simp only [Act.put, pS1, pS2, pS3])
    | fail)
  refine (EM.out _ HMA.out.below).mono ?_
  rintro x w1 ⟨rfl, hb1⟩
  have HB1 := hidk (HMA.out.below.trans (hb1.mono HMA.out.below.size))
  have HG2 : Hid (w1.heap[g2]? = some (.cells Z 29 (0, 0))) := by show _ = _; rw [hb1.block _ (heap_lt HMA.out.row)]; exact HMA.out.row
  have hg2 : w.heap.size ≤ g2 := Nat.le_of_eq HMA.out.new.symm
  clear hb1 HMA
  go_wp2_with (first
    | (show aD 9 _ _ _ _ _ _ _ _ _ _ _; refine wpList_build_some rfl 27 _ rfl [(0, .int .i64 2), (1, .int .i64 e), (3, .agg D)] rfl C HBH.out ?_; try simp only [Act.put, pS1, pS2, pS3])
    | fail)
  refine (SG.out _ HB1.out).mono ?_
  rintro x w2 ⟨rfl, hb2⟩
  have HB2 := hidk (HB1.out.trans (hb2.mono HB1.out.size))
  have HG2' : Hid (w2.heap[g2]? = some (.cells Z 29 (0, 0))) := by show _ = _; rw [hb2.block _ (heap_lt HG2.out)]; exact HG2.out
  clear hb2 HB1 HG2
  go_wp2_with (first
    | (show aD 3 _ _ _ _ _ _ _ _ _ _ _; refine wpList_new_var rfl 29 rfl Z HA.out ?_; intro g3 w3 HM3; have HG3 := hidk HM3.out.row; have HG23 : Hid (w3.heap[g2]? = some (.cells Z 29 (0, 0))) := (by show _ = _; rw [HM3.out.below.block _ (heap_lt HG2'.out)]; exact HG2'.out); have hn : g2 < g3 := (by rw [HM3.out.new]; exact heap_lt HG2'.out); have HB3 := hidk (HB2.out.trans (HM3.out.below.mono HB2.out.size)); try simp only [Act.put, pS1, pS2, pS3])
    | (refine wpList_set_var rfl 29 (.tmp 3) (.tmp 11) rfl g3 R rfl rfl 29 Z HG3.out HSR.out HZR.out H1R.out ?_; intro w4 HW4; have HG34 := hidk HW4.out.row; have HG24 : Hid (w4.heap[g2]? = some (.cells Z 29 (0, 0))) := (by show _ = _; rw [HW4.out.other g2 (by omega)]; exact HG23.out); have HB4 := hidk (HW4.out.below _ _ HB3.out (by omega)); try simp only [Act.put, pS1, pS2, pS3])
    | (show aD 13 _ _ _ _ _ _ _ _ _ _ _; refine wpList_load_row_w (by rfl) 29 (.tmp 3) rfl g3 rfl 29 R (0, 0) _ HG34.out Tryz.underlying29 rfl HSR.out ?_; try simp only [Act.put, pS1, pS2, pS3])
    | (refine wpList_set_var rfl 29 (.tmp 2) (.tmp 13) rfl g2 R rfl rfl 29 Z HG24.out HSR.out HZR.out H1R.out ?_; intro w5 HW5; try simp only [Act.put, pS1, pS2, pS3])
    | fail)
  refine bodyPost_ret (v := .agg R) ?_ rfl ⟨rfl, HW5.out.below _ _ HB4.out (by omega)⟩
  exact results_cell_row (p := 2) (ty := 29) rfl _ _ g2 29 R (0, 0) _ rfl HW5.out.row Tryz.underlying29 rfl HSR.out
theorem range_sh {w : World} {g o : Nat} {s : SgT} (h : w.rangeAt g o (scells s)) : w.rangeAt g o (hcells s.h) := fun j v hj => h j v (by
  unfold scells
  rw [List.append_assoc, List.getElem?_append_left (List.getElem?_eq_some_iff.1 hj).1]
  exact hj)
theorem sh_row {W : World} {g : Nat} {s : SgT} {X : Array Value} (HX : Hid (X = (scells s).toArray)) (h : W.heap[g]? = some (.cells X 29 (0, 0))) : W.rangeAt g 0 (hcells s.h) :=
  range_sh (range_row (l := scells s) (W := W) (g := g) (t := 29) (fr := (0, 0)) (by rw [← HX.out]; exact h))
theorem hd_row {W : World} {g : Nat} {h : HdT} (hd : h.d.length = 32) {X : Array Value} (HX : Hid (X = (hcells h).toArray)) (hh : W.heap[g]? = some (.cells X 27 (0, 0))) : HRow W g 0 h :=
  hrow_of hd (range_row (l := hcells h) (W := W) (g := g) (t := 27) (fr := (0, 0)) (by rw [← HX.out]; exact hh))
theorem builtHE (D R : Array Value) (HD : Hid (D = (cellsOf (sumD [])).toArray)) (HR : Hid (R = (hcells ⟨0, 0, 0, sumD [], 0⟩).toArray)) : Tryz.prog.built 27 [(3, .agg D)] = some R := by
  have hi := infoH
  cases hq : Tryz.prog.info? 27 with
  | none => rw [hq] at hi; cases hi
  | some i =>
    rw [hq] at hi
    simp only [Option.map_some, Option.some.injEq, Prod.mk.injEq] at hi
    have hD := size23
    have h3 : (Tryz.prog.info? 3).map (·.size) = some 1 := by kernel_rfl
    cases hqD : Tryz.prog.info? 25 with
    | none => rw [hqD] at hD; cases hD
    | some iD =>
      cases hq3 : Tryz.prog.info? 3 with
      | none => rw [hq3] at h3; cases h3
      | some i3 =>
        rw [hqD] at hD
        rw [hq3] at h3
        simp only [Option.map_some, Option.some.injEq] at hD h3
        unfold Program.built
        simp only [hq, Tryz.underlying27, hi.1, List.mapM_cons, List.mapM_nil, hqD, hq3, hD, h3, Option.map_some, Option.bind_eq_bind, Option.bind_some, Option.pure_def]
        show Instr.fill _ (hcells zeroH).toArray _ = some R
        have hd32 : D.size = 32 := by rw [HD.out]; simp [cellsOf_length, sumD_length]
        refine (fill_val _ 3 3 32 (.agg D) D _ [.int .i64 0, .int .i64 0, .int .i64 0] (cellsOf (List.replicate 32 0)) [.int .i64 0] _ rfl rfl hd32 (by simp [hcells, zeroH]) rfl (by simp [cellsOf_length])).trans ?_
        simp only [Instr.fill, List.append_nil, Option.some.injEq]
        rw [HR.out, HD.out]
        rfl
theorem lastH_d (o : Option SgT) (h : ∀ s, o = some s → s.h.d.length = 32) : (lastH o).d.length = 32 := by
  cases o with
  | none => exact sumD_length _
  | some s => exact h s rfl
theorem lat_okd {l : List ItT} {r : Int} (h : ∀ x ∈ l, OkE x.e) : ∀ s, latA l r = some s → s.h.d.length = 32 := fun s hs => by
  obtain ⟨x, hx, _, rfl⟩ := latA_mem hs
  exact (h x hx).h
set_option maxHeartbeats 8000000 in
theorem anLastHead (a : Option Addr) (len cap : Nat) (l : List ItT) (r : Int) (w : World) (h : InL w a len cap l) (hT : TabH w) (R : Array Value) (HR : Hid (R = (hcells (lastH (latA l r))).toArray)) :
    Calls Tryz.prog 16 #[.slice a len cap, .int .i64 r] w fun e w' => e = .returned (.agg R) ∧ Below w.heap.size w w' := by
  obtain ⟨ZH, HZH, HAH, HBH, H36⟩ := noughtsH
  obtain ⟨ZS, HZS, HAS, HBS, H69⟩ := noughtsS
  have hok := latS_ok (l := l) (r := r) h.rd.ok
  obtain ⟨T, HT, HST, H1T, N69⟩ := sign_row (latS l r) hok.1 hok.2
  have HZT : Hid (ZS.size = T.size) := by show _ = _; rw [H69.out, N69.out]
  have hd := lastH_d (latA l r) (lat_okd h.rd.ok)
  have HSR : Hid ((Tryz.prog.info? 27).map (·.size) = some R.size) := by show _ = _; rw [sizeH, HR.out]; simp [hcells_length _ hd]
  have H1R : Hid (R.all (·.oneCell') = true) := by show _ = _; rw [HR.out]; exact one_cells _
  have HZR : Hid (ZH.size = R.size) := by show _ = _; rw [H36.out, HR.out]; simp [hcells_length _ hd]
  obtain ⟨E, HE⟩ : ∃ D : Array Value, Hid (D = (cellsOf (sumD [])).toArray) := ⟨_, hidk rfl⟩
  have EM : Hid (∀ W, Below w.heap.size w W → Calls Tryz.prog 31 #[] W fun x w' => x = .returned (.agg E) ∧ Below W.heap.size W w') := fun W hb => empty_any W (hT.keep hb) E HE
  obtain ⟨y, Hy⟩ : ∃ y, Hid ((latA l r).isSome = y) := ⟨_, hidk rfl⟩
  have LT : Hid (∀ W, Below w.heap.size w W → Calls Tryz.prog 20 #[.slice a len cap, .int .i64 r] W fun e w' => e = .returned (.tuple #[.agg T, .bool y]) ∧ Below W.heap.size W w') := fun W hb => by rw [← Hy.out]; exact anLatest a len cap l r W (h.keep hb) T HT
  have HRNG : Hid (y = true → ∀ (V : World) (g : Nat), V.heap[g]? = some (.cells T 29 (0, 0)) → V.rangeAt g 0 R.toList) := fun hy V g hv => by
    have h0 := sh_row HT hv
    have e : (latS l r).h = lastH (latA l r) := by
      have := Hy.out.trans hy
      unfold latS
      cases hl : latA l r with
      | none => rw [hl] at this; cases this
      | some s => rfl
    rw [e] at h0
    rw [HR.out]
    exact h0
  have HBE : Hid (y = false → Tryz.prog.built 27 [(3, .agg E)] = some R) := fun hy => by
    refine builtHE E R HE ?_
    have := Hy.out.trans hy
    cases hl : latA l r with
    | none => rw [hl] at HR; exact HR
    | some s => rw [hl] at this; cases this
  clear HR hd hok HT HZH HZS HBH HBS H36 H69 N69 HE h hT
  cases y
  · replace HBE := hidk (HBE.out rfl)
    clear HRNG
    go_enter Tryz.func16, Tryz.ntmps16
    go_wp2_with (first
      | ((with_reducible show aD 4 _ _ _ _ _ _ _ _ _ _ _); refine wpList_new_var rfl 27 rfl ZH HAH.out ?_; intro g4 w1 HM4; have HR4 := hidk HM4.out.row; have HB1 := hidk HM4.out.below; have h4 : w.heap.size ≤ g4 := (by rw [HM4.out.new]; exact Nat.le_refl _); try simp only [Act.put, pS1, pS2, pS3])
      | fail)
    refine (LT.out _ HB1.out).mono ?_
    rintro e w2 ⟨rfl, hb2⟩
    have HB2 := hidk (HB1.out.trans (hb2.mono HB1.out.size))
    have HR42 := hidk ((hb2.block _ (heap_lt HR4.out)).trans HR4.out)
    clear hb2 HB1 HR4 LT
    go_wp2_with (first
      | ((with_reducible show aD 5 _ _ _ _ _ _ _ _ _ _ _); refine wpList_new_var rfl 29 rfl ZS HAS.out ?_; intro g5 w3 HM5; have HR5 := hidk HM5.out.row; try simp only [Act.put, pS1, pS2, pS3])
      | (refine wpList_set_var rfl 29 (.tmp 5) (.tmp 11) rfl g5 T rfl rfl 29 ZS HR5.out HST.out HZT.out H1T.out ?_; intro w4 HW5; have hb4 : Below w2.heap.size w2 w4 := HW5.out.below _ _ HM5.out.below (by rw [HM5.out.new]; exact Nat.le_refl _); have HB4 := hidk (HB2.out.trans (hb4.mono HB2.out.size)); have HR44 := hidk ((hb4.block _ (heap_lt HR42.out)).trans HR42.out); have HR54 := hidk HW5.out.row;  clear hb4; try simp only [Act.put, pS1, pS2, pS3])
      | fail)
    refine (EM.out _ HB4.out).mono ?_
    rintro e w5 ⟨rfl, hb5⟩
    have HB5 := hidk (HB4.out.trans (hb5.mono HB4.out.size))
    have HR45 := hidk ((hb5.block _ (heap_lt HR44.out)).trans HR44.out)
    clear hb5 EM
    go_wp2_with (first
      | ((with_reducible show aD 17 _ _ _ _ _ _ _ _ _ _ _); refine wpList_build_one rfl 27 3 (.tmp 16) rfl R (.agg E) rfl HBE.out ?_; try simp only [Act.put, pS1, pS2, pS3])
      | (refine wpList_set_var rfl 27 (.tmp 4) (.tmp 17) rfl g4 R rfl rfl 27 ZH HR45.out HSR.out HZR.out H1R.out ?_; intro w6 HW4; have HB9 := hidk (HW4.out.below _ _ HB5.out h4); try simp only [Act.put, pS1, pS2, pS3])
      | fail)
    refine bodyPost_ret (v := .agg R) ?_ rfl ⟨rfl, HB9.out⟩
    exact results_cell_row (p := 4) (ty := 27) rfl _ _ g4 27 R (0, 0) _ rfl HW4.out.row Tryz.underlying27 rfl HSR.out
  · replace HRNG := hidk (HRNG.out rfl)
    clear HBE
    go_enter Tryz.func16, Tryz.ntmps16
    go_wp2_with (first
      | ((with_reducible show aD 4 _ _ _ _ _ _ _ _ _ _ _); refine wpList_new_var rfl 27 rfl ZH HAH.out ?_; intro g4 w1 HM4; have HR4 := hidk HM4.out.row; have HB1 := hidk HM4.out.below; have h4 : w.heap.size ≤ g4 := (by rw [HM4.out.new]; exact Nat.le_refl _); try simp only [Act.put, pS1, pS2, pS3])
      | fail)
    refine (LT.out _ HB1.out).mono ?_
    rintro e w2 ⟨rfl, hb2⟩
    have HB2 := hidk (HB1.out.trans (hb2.mono HB1.out.size))
    have HR42 := hidk ((hb2.block _ (heap_lt HR4.out)).trans HR4.out)
    clear hb2 HB1 HR4 LT
    go_wp2_with (first
      | ((with_reducible show aD 5 _ _ _ _ _ _ _ _ _ _ _); refine wpList_new_var rfl 29 rfl ZS HAS.out ?_; intro g5 w3 HM5; have HR5 := hidk HM5.out.row; try simp only [Act.put, pS1, pS2, pS3])
      | (refine wpList_set_var rfl 29 (.tmp 5) (.tmp 11) rfl g5 T rfl rfl 29 ZS HR5.out HST.out HZT.out H1T.out ?_; intro w4 HW5; have hb4 : Below w2.heap.size w2 w4 := HW5.out.below _ _ HM5.out.below (by rw [HM5.out.new]; exact Nat.le_refl _); have HB4 := hidk (HB2.out.trans (hb4.mono HB2.out.size)); have HR44 := hidk ((hb4.block _ (heap_lt HR42.out)).trans HR42.out); have HR54 := hidk HW5.out.row; have HRN := hidk (HRNG.out _ _ HW5.out.row); clear hb4; try simp only [Act.put, pS1, pS2, pS3])
      | ((with_reducible show aD 15 _ _ _ _ _ _ _ _ _ _ _); refine wpList_mid_w (by rfl) 27 (.tmp 14) rfl g5 0 rfl R _ HRN.out Tryz.underlying27 rfl HSR.out ?_; try simp only [Act.put, pS1, pS2, pS3])
      | (refine wpList_set_var rfl 27 (.tmp 4) (.tmp 15) rfl g4 R rfl rfl 27 ZH HR44.out HSR.out HZR.out H1R.out ?_; intro w6 HW4; have HB9 := hidk (HW4.out.below _ _ HB4.out h4); try simp only [Act.put, pS1, pS2, pS3])
      | fail)
    refine bodyPost_ret (v := .agg R) ?_ rfl ⟨rfl, HB9.out⟩
    exact results_cell_row (p := 4) (ty := 27) rfl _ _ g4 27 R (0, 0) _ rfl HW4.out.row Tryz.underlying27 rfl HSR.out
structure HeldK (w : World) (K A : Array Value) (V : World) : Prop where
  b : Below w.heap.size w V
  k : V.heap[w.heap.size]? = some (.cells K 23 (0, 0))
  a : V.heap[w.heap.size + 1]? = some (.cells A 29 (0, 0))
theorem HeldK.keep {w : World} {K A : Array Value} {V V' : World} (h : HeldK w K A V) (hb : Below V.heap.size V V') : HeldK w K A V' :=
  ⟨h.b.trans (hb.mono h.b.size), (hb.block _ (heap_lt h.k)).trans h.k, (hb.block _ (heap_lt h.a)).trans h.a⟩
theorem heldK (w : World) (K A : Array Value) : HeldK w K A ((w.alloc (.cells K 23)).alloc (.cells A 29)) := by
  have h1 : (w.alloc (.cells K 23)).heap.size = w.heap.size + 1 := by show (w.heap.push _).size = _; simp
  refine ⟨((Below.refl _ _).alloc (Nat.le_refl _) _).alloc (by omega) _, heap_keep (heap_alloc_new w _), ?_⟩
  have := heap_alloc_new (w.alloc (.cells K 23)) (.cells A 29)
  rw [h1] at this
  exact this
set_option maxHeartbeats 16000000 in
theorem anAdmit (hc : HistoryC) (hd : HeadC) (ck : P5.CheckC) (master : List UInt8) (a : Option Addr) (len cap : Nat) (l : List ItT) (s : SgT) (m : Int) (p : Option Addr) (pl pc : Nat) (proof : List (List UInt8)) (w : World) (K A : Array Value) (HK : Hid (K = (cellsOf master).toArray)) (HA : Hid (A = (scells s).toArray)) (hm : master.length = 32) (h : InL w a len cap l) (hs : InS s) (im : In64 m) (hp : LReads w p pl pc proof) (hT : TabH w) :
    Calls Tryz.prog 7 #[.agg K, .slice a len cap, .agg A, .int .i64 m, .slice p pl pc] w fun e w' => e = .returned (.int .i64 (admE master l s m proof)) ∧ Below w.heap.size w w' := by
  have H0 := hidk (heldK w K A)
  have HSK : Hid ((Tryz.prog.info? 23).map (·.size) = some K.size) := by show _ = _; rw [sizeY, HK.out]; simp [cellsOf_length, hm]
  have HSA : Hid ((Tryz.prog.info? 29).map (·.size) = some A.size) := by show _ = _; rw [sizeS, HA.out]; simp [scells_length _ hs.h.d hs.g]
  obtain ⟨ZH, HZH, HAH, HBH, H36⟩ := noughtsH
  obtain ⟨x, Hx⟩ : ∃ x, Hid (admE master l s m proof = x) := ⟨_, hidk rfl⟩
  rw [Hx.out]
  obtain ⟨v, Hv⟩ : ∃ v, Hid (verE master s = v) := ⟨_, hidk rfl⟩
  obtain ⟨lh, Hl⟩ : ∃ lh, Hid (lastH (latA l s.h.r) = lh) := ⟨_, hidk rfl⟩
  obtain ⟨b, Hb⟩ : ∃ b, Hid (rightL l = b) := ⟨_, hidk rfl⟩
  obtain ⟨c, Hc⟩ : ∃ c, Hid (P5.conE m lh.d s.h.s s.h.d proof = c) := ⟨_, hidk rfl⟩
  have hld : lh.d.length = 32 := by rw [← Hl.out]; exact lastH_d _ (lat_okd h.rd.ok)
  obtain ⟨R, HR, HSR, H1R, N36⟩ := head_row5 lh hld
  have HZR : Hid (ZH.size = R.size) := by show _ = _; rw [H36.out, N36.out]
  have HAD : Hid ((if b = false then 120 else if v = 0 then (if s.h.e < lh.e ∨ s.h.s < lh.s ∨ m ≠ lh.s then 122 else if c = 0 then 0 else 121) else v) = x) := by
    show _ = _
    rw [← Hx.out, ← Hc.out, ← Hl.out, ← Hv.out, ← Hb.out]
    rfl
  obtain ⟨rr, Hrr⟩ : ∃ k, Hid (s.h.r = k) := ⟨_, hidk rfl⟩
  obtain ⟨ee, Hee⟩ : ∃ k, Hid (s.h.e = k) := ⟨_, hidk rfl⟩
  obtain ⟨zz, Hzz⟩ : ∃ k, Hid (s.h.s = k) := ⟨_, hidk rfl⟩
  obtain ⟨le, Hle⟩ : ∃ k, Hid (lh.e = k) := ⟨_, hidk rfl⟩
  obtain ⟨lz, Hlz⟩ : ∃ k, Hid (lh.s = k) := ⟨_, hidk rfl⟩
  obtain ⟨D, HD⟩ : ∃ D : Array Value, Hid (D = (cellsOf s.h.d).toArray) := ⟨_, hidk rfl⟩
  obtain ⟨E, HE⟩ : ∃ D : Array Value, Hid (D = (cellsOf lh.d).toArray) := ⟨_, hidk rfl⟩
  have HSD : Hid ((Tryz.prog.info? 25).map (·.size) = some D.size) := by show _ = _; rw [size23, HD.out]; simp [cellsOf_length, hs.h.d]
  have HSE : Hid ((Tryz.prog.info? 25).map (·.size) = some E.size) := by show _ = _; rw [size23, HE.out]; simp [cellsOf_length, hld]
  have CH : Hid (∀ W, Below w.heap.size w W → Calls Tryz.prog 14 #[.slice a len cap] W fun e w' => e = .returned (.int .i64 (if b = true then 0 else 100)) ∧ Below W.heap.size W w') := fun W hb => by rw [← Hb.out]; exact hc.check a len cap l W (h.keep hb)
  have VE : Hid (∀ W, Below w.heap.size w W → Calls Tryz.prog 15 #[.agg K, .agg A] W fun e w' => e = .returned (.int .i64 v) ∧ Below W.heap.size W w') := fun W hb => by rw [← Hv.out]; exact hd.verify master s W K A HK HA hm hs (hT.keep hb)
  have LH : Hid (∀ W, Below w.heap.size w W → Calls Tryz.prog 16 #[.slice a len cap, .int .i64 rr] W fun e w' => e = .returned (.agg R) ∧ Below W.heap.size W w') := fun W hb => by rw [← Hrr.out]; exact anLastHead a len cap l s.h.r W (h.keep hb) (hT.keep hb) R (by show _ = _; rw [HR.out, Hl.out])
  have CO : Hid (∀ W, Below w.heap.size w W → Calls Tryz.prog 17 #[.int .i64 m, .agg E, .int .i64 zz, .agg D, .slice p pl pc] W fun e w' => e = .returned (.int .i64 c) ∧ Below W.heap.size W w') := fun W hb => by rw [← Hc.out, ← Hzz.out]; exact ck.consistent m lh.d s.h.s s.h.d proof p pl pc W E D HE HD hld hs.h.d im hs.h.s (hp.keep hb) (hT.keep hb)
  have HCA : Hid (∀ V : World, V.heap[w.heap.size + 1]? = some (.cells A 29 (0, 0)) → V.cell? ⟨w.heap.size + 1, 0, none⟩ = some (.int .i64 rr) ∧ V.cell? ⟨w.heap.size + 1, 1, none⟩ = some (.int .i64 ee) ∧ V.cell? ⟨w.heap.size + 1, 2, none⟩ = some (.int .i64 zz) ∧ V.rangeAt (w.heap.size + 1) 3 D.toList) := fun V hv => by
    have ra := hrow_of hs.h.d (sh_row HA hv)
    refine ⟨by rw [← Hrr.out]; simpa using ra.r, by rw [← Hee.out]; simpa using ra.e, by rw [← Hzz.out]; simpa using ra.s, by rw [HD.out]; simpa using ra.d⟩
  have HCL : Hid (∀ (V : World) (g : Nat), V.heap[g]? = some (.cells R 27 (0, 0)) → V.cell? ⟨g, 1, none⟩ = some (.int .i64 le) ∧ V.cell? ⟨g, 2, none⟩ = some (.int .i64 lz) ∧ V.rangeAt g 3 E.toList) := fun V g hv => by
    have ra := hd_row hld HR hv
    refine ⟨by rw [← Hle.out]; simpa using ra.e, by rw [← Hlz.out]; simpa using ra.s, by rw [HE.out]; simpa using ra.d⟩
  rw [Hee.out, Hzz.out, Hle.out, Hlz.out] at HAD
  clear hc hd ck HK HA hm h hs im hp hT HZH HBH H36 N36 Hx Hv Hl Hb Hc hld HR Hrr Hee Hzz Hle Hlz HD HE
  go_enter Tryz.func7, Tryz.ntmps7
  go_wp2_with fail
  refine (CH.out _ H0.out.b).mono ?_
  rintro e w1 ⟨rfl, hb1⟩
  have H1 := hidk (H0.out.keep hb1)
  clear hb1 H0 CH
  cases b
  · obtain rfl : 120 = x := HAD.out
    go_wp2
    go_ret
    exact ⟨rfl, H1.out.b⟩
  have HAD2 : Hid ((if v = 0 then (if ee < le ∨ zz < lz ∨ m ≠ lz then 122 else if c = 0 then 0 else 121) else v) = x) := HAD.out
  clear HAD
  go_wp2_with (first
    | ((with_reducible show aD 16 _ _ _ _ _ _ _ _ _ _ _); refine wpList_load_row_w (by rfl) 23 (.tmp 5) rfl w.heap.size rfl 23 K (0, 0) _ H1.out.k Tryz.underlying23 rfl HSK.out ?_; try simp only [Act.put, pS1, pS2, pS3])
    | ((with_reducible show aD 17 _ _ _ _ _ _ _ _ _ _ _); refine wpList_load_row_w (by rfl) 29 (.tmp 7) rfl (w.heap.size + 1) rfl 29 A (0, 0) _ H1.out.a Tryz.underlying29 rfl HSA.out ?_; try simp only [Act.put, pS1, pS2, pS3])
    | fail)
  refine (VE.out _ H1.out.b).mono ?_
  rintro e w2 ⟨rfl, hb2⟩
  have H2 := hidk (H1.out.keep hb2)
  clear hb2 H1 VE
  by_cases hv0 : v = 0
  · subst hv0
    have HAD3 : Hid ((if ee < le ∨ zz < lz ∨ m ≠ lz then 122 else if c = 0 then 0 else 121) = x) := HAD2.out
    clear HAD2
    obtain ⟨cr, ce, cz, HD2⟩ := HCA.out _ H2.out.a
    clear HD2
    by_cases h1 : ee < le
    · have d1 : decide (ee < le) = true := decide_eq_true h1
      have hx := HAD3.out
      rw [if_pos (.inl h1)] at hx
      subst hx
      clear HAD3 h1
      go_wp2_with fail
      refine (LH.out _ H2.out.b).mono ?_
      rintro e w3 ⟨rfl, hb3⟩
      have H3 := hidk (H2.out.keep hb3)
      clear hb3 H2 LH cr ce cz
      go_wp2_with (first
        | ((with_reducible show aD 12 _ _ _ _ _ _ _ _ _ _ _); refine wpList_new_var rfl 27 rfl ZH HAH.out ?_; intro g12 w4 HM12; have HR12 := hidk HM12.out.row; try simp only [Act.put, pS1, pS2, pS3])
        | (refine wpList_set_var rfl 27 (.tmp 12) (.tmp 26) rfl g12 R rfl rfl 27 ZH HR12.out HSR.out HZR.out H1R.out ?_; intro w5 HW12; have hb5 : Below w3.heap.size w3 w5 := HW12.out.below _ _ HM12.out.below (by rw [HM12.out.new]; exact Nat.le_refl _); have H5 := hidk (H3.out.keep hb5); obtain ⟨cr, ce, cz, RD⟩ := HCA.out _ H5.out.a; obtain ⟨ke, kz, RE⟩ := HCL.out _ _ HW12.out.row; have HRD := hidk RD; have HRE := hidk RE; clear RD RE hb5; try simp only [Act.put, pS1, pS2, pS3])
        | fail)
      go_ret
      exact ⟨rfl, H5.out.b⟩
    · have d1 : decide (ee < le) = false := decide_eq_false h1
      by_cases h2 : zz < lz
      · have d2 : decide (zz < lz) = true := decide_eq_true h2
        have hx := HAD3.out
        rw [if_pos (.inr (.inl h2))] at hx
        subst hx
        clear HAD3 h1 h2
        go_wp2_with fail
        refine (LH.out _ H2.out.b).mono ?_
        rintro e w3 ⟨rfl, hb3⟩
        have H3 := hidk (H2.out.keep hb3)
        clear hb3 H2 LH cr ce cz
        go_wp2_with (first
          | ((with_reducible show aD 12 _ _ _ _ _ _ _ _ _ _ _); refine wpList_new_var rfl 27 rfl ZH HAH.out ?_; intro g12 w4 HM12; have HR12 := hidk HM12.out.row; try simp only [Act.put, pS1, pS2, pS3])
          | (refine wpList_set_var rfl 27 (.tmp 12) (.tmp 26) rfl g12 R rfl rfl 27 ZH HR12.out HSR.out HZR.out H1R.out ?_; intro w5 HW12; have hb5 : Below w3.heap.size w3 w5 := HW12.out.below _ _ HM12.out.below (by rw [HM12.out.new]; exact Nat.le_refl _); have H5 := hidk (H3.out.keep hb5); obtain ⟨cr, ce, cz, RD⟩ := HCA.out _ H5.out.a; obtain ⟨ke, kz, RE⟩ := HCL.out _ _ HW12.out.row; have HRD := hidk RD; have HRE := hidk RE; clear RD RE hb5; try simp only [Act.put, pS1, pS2, pS3])
          | fail)
        go_ret
        exact ⟨rfl, H5.out.b⟩
      · have d2 : decide (zz < lz) = false := decide_eq_false h2
        by_cases h3 : m = lz
        · subst h3
          have hx := HAD3.out
          rw [if_neg (by omega)] at hx
          replace hx := hidk hx
          clear HAD3 h1 h2
          go_wp2_with fail
          refine (LH.out _ H2.out.b).mono ?_
          rintro e w3 ⟨rfl, hb3⟩
          have H3 := hidk (H2.out.keep hb3)
          clear hb3 H2 LH cr ce cz
          go_wp2_with (first
            | ((with_reducible show aD 12 _ _ _ _ _ _ _ _ _ _ _); refine wpList_new_var rfl 27 rfl ZH HAH.out ?_; intro g12 w4 HM12; have HR12 := hidk HM12.out.row; try simp only [Act.put, pS1, pS2, pS3])
            | (refine wpList_set_var rfl 27 (.tmp 12) (.tmp 26) rfl g12 R rfl rfl 27 ZH HR12.out HSR.out HZR.out H1R.out ?_; intro w5 HW12; have hb5 : Below w3.heap.size w3 w5 := HW12.out.below _ _ HM12.out.below (by rw [HM12.out.new]; exact Nat.le_refl _); have H5 := hidk (H3.out.keep hb5); obtain ⟨cr, ce, cz, RD⟩ := HCA.out _ H5.out.a; obtain ⟨ke, kz, RE⟩ := HCL.out _ _ HW12.out.row; have HRD := hidk RD; have HRE := hidk RE; clear RD RE hb5; try simp only [Act.put, pS1, pS2, pS3])
            | ((with_reducible show aD 49 _ _ _ _ _ _ _ _ _ _ _); refine wpList_mid_w (by rfl) 25 (.tmp 48) rfl g12 3 rfl E _ HRE.out Tryz.underlying25 rfl HSE.out ?_; try simp only [Act.put, pS1, pS2, pS3])
            | ((with_reducible show aD 55 _ _ _ _ _ _ _ _ _ _ _); refine wpList_mid_w (by rfl) 25 (.tmp 54) rfl (w.heap.size + 1) 3 rfl D _ HRD.out Tryz.underlying25 rfl HSD.out ?_; try simp only [Act.put, pS1, pS2, pS3])
            | fail)
          refine (CO.out _ H5.out.b).mono ?_
          rintro e w6 ⟨rfl, hb6⟩
          have H6 := hidk (H5.out.keep hb6)
          clear hb6 CO
          by_cases hc0 : c = 0
          · subst hc0
            have hx2 := hx.out
            rw [if_pos rfl] at hx2
            subst hx2
            go_wp2
            go_ret
            exact ⟨rfl, H6.out.b⟩
          · have hx2 := hx.out
            rw [if_neg hc0] at hx2
            subst hx2
            have bc : (!(c == 0)) = true := by simp [hc0]
            have bc2 : (c != 0) = true := by simpa using hc0
            go_wp2
            go_ret
            exact ⟨rfl, H6.out.b⟩
        · have b3 : (!(m == lz)) = true := by simp [h3]
          have b3b : (m != lz) = true := by simpa using h3
          have hx := HAD3.out
          rw [if_pos (.inr (.inr h3))] at hx
          subst hx
          clear HAD3 h1 h2 h3
          go_wp2_with fail
          refine (LH.out _ H2.out.b).mono ?_
          rintro e w3 ⟨rfl, hb3⟩
          have H3 := hidk (H2.out.keep hb3)
          clear hb3 H2 LH cr ce cz
          go_wp2_with (first
            | ((with_reducible show aD 12 _ _ _ _ _ _ _ _ _ _ _); refine wpList_new_var rfl 27 rfl ZH HAH.out ?_; intro g12 w4 HM12; have HR12 := hidk HM12.out.row; try simp only [Act.put, pS1, pS2, pS3])
            | (refine wpList_set_var rfl 27 (.tmp 12) (.tmp 26) rfl g12 R rfl rfl 27 ZH HR12.out HSR.out HZR.out H1R.out ?_; intro w5 HW12; have hb5 : Below w3.heap.size w3 w5 := HW12.out.below _ _ HM12.out.below (by rw [HM12.out.new]; exact Nat.le_refl _); have H5 := hidk (H3.out.keep hb5); obtain ⟨cr, ce, cz, RD⟩ := HCA.out _ H5.out.a; obtain ⟨ke, kz, RE⟩ := HCL.out _ _ HW12.out.row; have HRD := hidk RD; have HRE := hidk RE; clear RD RE hb5; try simp only [Act.put, pS1, pS2, pS3])
            | fail)
          go_ret
          exact ⟨rfl, H5.out.b⟩
  · have hx := HAD2.out
    rw [if_neg hv0] at hx
    subst hx
    have bv : (!(v == 0)) = true := by simp [hv0]
    have bv2 : (v != 0) = true := by simpa using hv0
    go_wp2
    go_ret
    exact ⟨rfl, H2.out.b⟩
structure HeldT (w : World) (K A B : Array Value) (V : World) : Prop where
  b : Below w.heap.size w V
  k : V.heap[w.heap.size]? = some (.cells K 23 (0, 0))
  a : V.heap[w.heap.size + 1]? = some (.cells A 29 (0, 0))
  c : V.heap[w.heap.size + 1 + 1]? = some (.cells B 29 (0, 0))
theorem HeldT.keep {w : World} {K A B : Array Value} {V V' : World} (h : HeldT w K A B V) (hb : Below V.heap.size V V') : HeldT w K A B V' :=
  ⟨h.b.trans (hb.mono h.b.size), (hb.block _ (heap_lt h.k)).trans h.k, (hb.block _ (heap_lt h.a)).trans h.a, (hb.block _ (heap_lt h.c)).trans h.c⟩
theorem HeldT.drew {w : World} {K A B : Array Value} {V : World} (h : HeldT w K A B V) : HeldT w K A B V.drew := h.keep (Below.refl _ _).drew
theorem HeldT.wrote {w : World} {K A B : Array Value} {V V' : World} {g : Nat} {D : Array Value} {t : TypeId} (h : HeldT w K A B V) (hw : Wrote g D t V V') (hg : w.heap.size + 1 + 1 < g) : HeldT w K A B V' :=
  ⟨hw.below _ _ h.b (by omega), (hw.other _ (by omega)).trans h.k, (hw.other _ (by omega)).trans h.a, (hw.other _ (by omega)).trans h.c⟩
theorem heldT (w : World) (K A B : Array Value) : HeldT w K A B (((w.alloc (.cells K 23)).alloc (.cells A 29)).alloc (.cells B 29)) := by
  have h0 := heldK w K A
  have h2 : ((w.alloc (.cells K 23)).alloc (.cells A 29)).heap.size = w.heap.size + 1 + 1 := by simp
  refine ⟨h0.b.alloc (by omega) _, heap_keep h0.k, heap_keep h0.a, ?_⟩
  have := heap_alloc_new ((w.alloc (.cells K 23)).alloc (.cells A 29)) (.cells B 29)
  rw [h2] at this
  exact this
set_option maxHeartbeats 16000000 in
theorem anApart (hd : HeadC) (master : List UInt8) (s t : SgT) (w : World) (K A B : Array Value) (HK : Hid (K = (cellsOf master).toArray)) (HA : Hid (A = (scells s).toArray)) (HB : Hid (B = (scells t).toArray)) (hm : master.length = 32) (hs : InS s) (ht : InS t) (hT : TabH w) :
    Calls Tryz.prog 10 #[.agg K, .agg A, .agg B] w fun e w' => e = .returned (.bool (apB master s t)) ∧ Below w.heap.size w w' := by
  have H0 := hidk (heldT w K A B)
  have HSK : Hid ((Tryz.prog.info? 23).map (·.size) = some K.size) := by show _ = _; rw [sizeY, HK.out]; simp [cellsOf_length, hm]
  have HSA : Hid ((Tryz.prog.info? 29).map (·.size) = some A.size) := by show _ = _; rw [sizeS, HA.out]; simp [scells_length _ hs.h.d hs.g]
  have HSB : Hid ((Tryz.prog.info? 29).map (·.size) = some B.size) := by show _ = _; rw [sizeS, HB.out]; simp [scells_length _ ht.h.d ht.g]
  obtain ⟨ZH, HZH, HAH, HBH, H36⟩ := noughtsH
  obtain ⟨x, Hx⟩ : ∃ x, Hid (apB master s t = x) := ⟨_, hidk rfl⟩
  rw [Hx.out]
  obtain ⟨v, Hv⟩ : ∃ v, Hid (verE master s = v) := ⟨_, hidk rfl⟩
  obtain ⟨u, Hu⟩ : ∃ v, Hid (verE master t = v) := ⟨_, hidk rfl⟩
  obtain ⟨X, HX, HSX, H1X, N36⟩ := head_row5 s.h hs.h.d
  obtain ⟨Y, HY, HSY, H1Y, M36⟩ := head_row5 t.h ht.h.d
  have HZX : Hid (ZH.size = X.size) := by show _ = _; rw [H36.out, N36.out]
  have HZY : Hid (ZH.size = Y.size) := by show _ = _; rw [H36.out, M36.out]
  obtain ⟨cd, hcd⟩ : ∃ b, (!decide (s.h.d = t.h.d)) = b := ⟨_, rfl⟩
  obtain ⟨ar, Har⟩ : ∃ k, Hid (s.h.r = k) := ⟨_, hidk rfl⟩
  obtain ⟨br, Hbr⟩ : ∃ k, Hid (t.h.r = k) := ⟨_, hidk rfl⟩
  obtain ⟨ae, Hae⟩ : ∃ k, Hid (s.h.e = k) := ⟨_, hidk rfl⟩
  obtain ⟨be, Hbe⟩ : ∃ k, Hid (t.h.e = k) := ⟨_, hidk rfl⟩
  obtain ⟨az, Haz⟩ : ∃ k, Hid (s.h.s = k) := ⟨_, hidk rfl⟩
  obtain ⟨bz, Hbz⟩ : ∃ k, Hid (t.h.s = k) := ⟨_, hidk rfl⟩
  have HAP : Hid ((decide (v = 0) && (decide (u = 0) && (decide (ar = br) && (decide (ae = be) && (decide (az = bz) && cd))))) = x) := by
    show _ = _
    rw [← Hx.out, ← Hv.out, ← Hu.out, ← Har.out, ← Hbr.out, ← Hae.out, ← Hbe.out, ← Haz.out, ← Hbz.out, ← hcd]
    rfl
  obtain ⟨D, HD⟩ : ∃ D : Array Value, Hid (D = (cellsOf s.h.d).toArray) := ⟨_, hidk rfl⟩
  obtain ⟨E, HE⟩ : ∃ D : Array Value, Hid (D = (cellsOf t.h.d).toArray) := ⟨_, hidk rfl⟩
  have HSD : Hid ((Tryz.prog.info? 25).map (·.size) = some D.size) := by show _ = _; rw [size23, HD.out]; simp [cellsOf_length, hs.h.d]
  have HSE : Hid ((Tryz.prog.info? 25).map (·.size) = some E.size) := by show _ = _; rw [size23, HE.out]; simp [cellsOf_length, ht.h.d]
  have nqd : ∀ W, (binOp .neq 25 (.agg D) (.agg E)).run Tryz.prog W = .ok (.bool cd) W := fun W => neqDigV _ _ hs.h.d ht.h.d D E HD HE cd hcd W
  have VA : Hid (∀ W, Below w.heap.size w W → Calls Tryz.prog 15 #[.agg K, .agg A] W fun e w' => e = .returned (.int .i64 v) ∧ Below W.heap.size W w') := fun W hb => by rw [← Hv.out]; exact hd.verify master s W K A HK HA hm hs (hT.keep hb)
  have VB : Hid (∀ W, Below w.heap.size w W → Calls Tryz.prog 15 #[.agg K, .agg B] W fun e w' => e = .returned (.int .i64 u) ∧ Below W.heap.size W w') := fun W hb => by rw [← Hu.out]; exact hd.verify master t W K B HK HB hm ht (hT.keep hb)
  have HRA : Hid (∀ V : World, V.heap[w.heap.size + 1]? = some (.cells A 29 (0, 0)) → V.rangeAt (w.heap.size + 1) 0 X.toList) := fun V hv => by rw [HX.out]; exact sh_row HA hv
  have HRB : Hid (∀ V : World, V.heap[w.heap.size + 1 + 1]? = some (.cells B 29 (0, 0)) → V.rangeAt (w.heap.size + 1 + 1) 0 Y.toList) := fun V hv => by rw [HY.out]; exact sh_row HB hv
  have HCA : Hid (∀ (V : World) (g : Nat), V.heap[g]? = some (.cells X 27 (0, 0)) → V.cell? ⟨g, 0, none⟩ = some (.int .i64 ar) ∧ V.cell? ⟨g, 1, none⟩ = some (.int .i64 ae) ∧ V.cell? ⟨g, 2, none⟩ = some (.int .i64 az) ∧ V.rangeAt g 3 D.toList) := fun V g hv => by
    have ra := hd_row hs.h.d HX hv
    refine ⟨by rw [← Har.out]; simpa using ra.r, by rw [← Hae.out]; simpa using ra.e, by rw [← Haz.out]; simpa using ra.s, by rw [HD.out]; simpa using ra.d⟩
  have HCB : Hid (∀ (V : World) (g : Nat), V.heap[g]? = some (.cells Y 27 (0, 0)) → V.cell? ⟨g, 0, none⟩ = some (.int .i64 br) ∧ V.cell? ⟨g, 1, none⟩ = some (.int .i64 be) ∧ V.cell? ⟨g, 2, none⟩ = some (.int .i64 bz) ∧ V.rangeAt g 3 E.toList) := fun V g hv => by
    have ra := hd_row ht.h.d HY hv
    refine ⟨by rw [← Hbr.out]; simpa using ra.r, by rw [← Hbe.out]; simpa using ra.e, by rw [← Hbz.out]; simpa using ra.s, by rw [HE.out]; simpa using ra.d⟩
  clear hd HK HA HB hm hs ht hT HZH HBH H36 N36 M36 Hx Hv Hu HX HY Har Hbr Hae Hbe Haz Hbz HD HE hcd
  go_enter Tryz.func10, Tryz.ntmps10
  go_wp2_with (first
    | ((with_reducible show aD 10 _ _ _ _ _ _ _ _ _ _ _); refine wpList_load_row_w (by rfl) 23 (.tmp 3) rfl w.heap.size rfl 23 K (0, 0) _ H0.out.k Tryz.underlying23 rfl HSK.out ?_; try simp only [Act.put, pS1, pS2, pS3])
    | ((with_reducible show aD 11 _ _ _ _ _ _ _ _ _ _ _); refine wpList_load_row_w (by rfl) 29 (.tmp 4) rfl (w.heap.size + 1) rfl 29 A (0, 0) _ H0.out.a Tryz.underlying29 rfl HSA.out ?_; try simp only [Act.put, pS1, pS2, pS3])
    | fail)
  refine (VA.out _ H0.out.b).mono ?_
  rintro e w1 ⟨rfl, hb1⟩
  have H1 := hidk (H0.out.keep hb1)
  clear hb1 H0 VA
  by_cases hv0 : v = 0
  · subst hv0
    go_wp2_with (first
      | ((with_reducible show aD 15 _ _ _ _ _ _ _ _ _ _ _); refine wpList_load_row_w (by rfl) 23 (.tmp 3) rfl w.heap.size rfl 23 K (0, 0) _ H1.out.k Tryz.underlying23 rfl HSK.out ?_; try simp only [Act.put, pS1, pS2, pS3])
      | ((with_reducible show aD 16 _ _ _ _ _ _ _ _ _ _ _); refine wpList_load_row_w (by rfl) 29 (.tmp 5) rfl (w.heap.size + 1 + 1) rfl 29 B (0, 0) _ H1.out.c Tryz.underlying29 rfl HSB.out ?_; try simp only [Act.put, pS1, pS2, pS3])
      | fail)
    refine (VB.out _ H1.out.b).mono ?_
    rintro e w2 ⟨rfl, hb2⟩
    have H2 := hidk (H1.out.keep hb2)
    clear hb2 H1 VB
    by_cases hu0 : u = 0
    · subst hu0
      have HAP2 : Hid ((decide (ar = br) && (decide (ae = be) && (decide (az = bz) && cd))) = x) := HAP.out
      clear HAP
      go_wp2_with fail
      refine wp_region_held_drew (S := (HeldT w K A B)) (by kernel_rfl) H2.out.drew (fun hHeld => ?_)
      refine zX 0 (.pointer (some ⟨w.heap.size + 1, 0, none⟩)) rfl hHeld ?_
      try simp only [Act.put, pS1, pS2, pS3]
      refine zW 1 (.agg X) rfl (yieldsIf_mid (by rfl) 27 (.tmp 20) rfl (w.heap.size + 1) 0 rfl X _ (fun V hv => HRA.out V hv.a) Tryz.underlying27 rfl HSX.out) hHeld ?_
      try simp only [Act.put, pS1, pS2, pS3]
      refine zX 2 (.pointer (some ⟨w.heap.size + 1 + 1, 0, none⟩)) rfl hHeld ?_
      try simp only [Act.put, pS1, pS2, pS3]
      refine zW 3 (.agg Y) rfl (yieldsIf_mid (by rfl) 27 (.tmp 22) rfl (w.heap.size + 1 + 1) 0 rfl Y _ (fun V hv => HRB.out V hv.c) Tryz.underlying27 rfl HSY.out) hHeld ?_
      try simp only [Act.put, pS1, pS2, pS3]
      refine wpAnyH_ready (rs := [4, 5]) (by kernel_rfl) (by simp) ?_
      refine (AllReadyH.cons (o := { dst := some 7, op := .alloc 27, type := 0, pos := "anchors.go:59", after := #[], guard := none }) rfl (fun K hK => ?_) (AllReadyH.cons (o := { dst := some 8, op := .alloc 27, type := 0, pos := "anchors.go:59", after := #[], guard := none }) rfl (fun K hK => ?_) AllReadyH.nil))
      · refine step_new_var (by rfl) 27 rfl ZH HAH.out ?_
        intro g7 u4 HM7
        have HR7 := hidk HM7.out.row
        have h7 : w.heap.size + 1 + 1 < g7 := (by have := heap_lt hHeld.c; rw [HM7.out.new]; exact this)
        try (have h78 : g8 ≠ g7 := (by have := heap_lt HR8.out; have := HM7.out.new; omega))
        try replace HR8 := hidk ((HM7.out.below.block _ (heap_lt HR8.out)).trans HR8.out)
        refine hK.out _ _ (hHeld.keep HM7.out.below) (fun hHeld => ?_)
        clear hK K
        try simp only [Act.put, pS1, pS2, pS3]
        refine wpAnyH_ready (rs := [5]) (by kernel_rfl) (by simp) ?_
        refine (AllReadyH.cons (o := { dst := some 8, op := .alloc 27, type := 0, pos := "anchors.go:59", after := #[], guard := none }) rfl (fun K hK => ?_) AllReadyH.nil)
        refine step_new_var (by rfl) 27 rfl ZH HAH.out ?_
        intro g8 u5 HM8
        have HR8 := hidk HM8.out.row
        have h8 : w.heap.size + 1 + 1 < g8 := (by have := heap_lt hHeld.c; rw [HM8.out.new]; exact this)
        try (have h78 : g8 ≠ g7 := (by have := heap_lt HR7.out; have := HM8.out.new; omega))
        try replace HR7 := hidk ((HM8.out.below.block _ (heap_lt HR7.out)).trans HR7.out)
        refine hK.out _ _ (hHeld.keep HM8.out.below) (fun hHeld => ?_)
        clear hK K
        try simp only [Act.put, pS1, pS2, pS3]
        refine wpAnyH_ready (rs := [6]) (by kernel_rfl) (by simp) ?_
        refine (AllReadyH.cons (o := { dst := none, op := .store 27 (.tmp 7) (.tmp 21), type := 0, pos := "anchors.go:59", after := #[zD 4, zD 1, zP 0, zP 1, { on := 2, ground := Ground.textOnly Departure.lateStores }, { on := 3, ground := Ground.textOnly Departure.lateStores }, zP 4, zP 5], guard := none }) rfl (fun K hK => ?_) AllReadyH.nil)
        refine step_set_var (by rfl) 27 (.tmp 7) (.tmp 21) rfl g7 X rfl rfl 27 ZH HR7.out HSX.out HZX.out H1X.out ?_
        intro u6 HW7
        replace HR8 := hidk ((HW7.out.other g8 h78).trans HR8.out)
        replace HR7 := hidk HW7.out.row
        refine hK.out _ _ (hHeld.wrote HW7.out h7) (fun hHeld => ?_)
        clear hK K
        try simp only [Act.put, pS1, pS2, pS3]
        refine wpAnyH_ready (rs := [7]) (by kernel_rfl) (by simp) ?_
        refine (AllReadyH.cons (o := { dst := none, op := .store 27 (.tmp 8) (.tmp 23), type := 0, pos := "anchors.go:59", after := #[zD 5, zD 3, zC 6, zP 0, zP 1, zP 2, zP 3, zP 4, zP 5, zP 6], guard := none }) rfl (fun K hK => ?_) AllReadyH.nil)
        refine step_set_var (by rfl) 27 (.tmp 8) (.tmp 23) rfl g8 Y rfl rfl 27 ZH HR8.out HSY.out HZY.out H1Y.out ?_
        intro u7 HW8
        replace HR7 := hidk ((HW8.out.other g7 (Ne.symm h78)).trans HR7.out)
        replace HR8 := hidk HW8.out.row
        have HB9 := hidk (hHeld.wrote HW8.out h8).b
        obtain ⟨ca0, ca1, ca2, DA⟩ := HCA.out _ _ HR7.out
        obtain ⟨cb0, cb1, cb2, DB⟩ := HCB.out _ _ HR8.out
        have HDA := hidk DA
        have HDB := hidk DB
        clear DA DB HM7 HM8 HW7
        refine hK.out _ _ (hHeld.wrote HW8.out h8) (fun hHeld => ?_)
        clear hK K
        try simp only [Act.put, pS1, pS2, pS3]
        refine wpAnyH_done (by kernel_rfl) ?_ _
        clear hHeld
        by_cases h1 : ar = br
        · subst h1
          by_cases h2 : ae = be
          · subst h2
            by_cases h3 : az = bz
            · subst h3
              have e3 : (decide (ar = ar) && (decide (ae = ae) && (decide (az = az) && cd))) = cd := by simp
              rw [e3] at HAP2
              clear e3
              go_wp2_with (first
                | ((with_reducible show aD 46 _ _ _ _ _ _ _ _ _ _ _); refine wpList_mid_w (by rfl) 25 (.tmp 45) rfl g7 3 rfl D _ HDA.out Tryz.underlying25 rfl HSD.out ?_; try simp only [Act.put, pS1, pS2, pS3])
                | ((with_reducible show aD 48 _ _ _ _ _ _ _ _ _ _ _); refine wpList_mid_w (by rfl) 25 (.tmp 47) rfl g8 3 rfl E _ HDB.out Tryz.underlying25 rfl HSE.out ?_; try simp only [Act.put, pS1, pS2, pS3])
                | fail)
              go_ret
              exact ⟨by rw [← HAP2.out]; rfl, HB9.out⟩
            · have b3 : (az == bz) = false := by rw [beq_eq_false_iff_ne]; exact h3
              have d3 : decide (az = bz) = false := decide_eq_false h3
              have e3 : (decide (ar = ar) && (decide (ae = ae) && (decide (az = bz) && cd))) = false := by simp [h3]
              rw [e3] at HAP2
              clear e3 h3
              go_wp2_with (first
                | ((with_reducible show aD 46 _ _ _ _ _ _ _ _ _ _ _); refine wpList_mid_w (by rfl) 25 (.tmp 45) rfl g7 3 rfl D _ HDA.out Tryz.underlying25 rfl HSD.out ?_; try simp only [Act.put, pS1, pS2, pS3])
                | ((with_reducible show aD 48 _ _ _ _ _ _ _ _ _ _ _); refine wpList_mid_w (by rfl) 25 (.tmp 47) rfl g8 3 rfl E _ HDB.out Tryz.underlying25 rfl HSE.out ?_; try simp only [Act.put, pS1, pS2, pS3])
                | fail)
              go_ret
              exact ⟨by rw [← HAP2.out]; rfl, HB9.out⟩
          · have b2 : (ae == be) = false := by rw [beq_eq_false_iff_ne]; exact h2
            have d2 : decide (ae = be) = false := decide_eq_false h2
            have e3 : (decide (ar = ar) && (decide (ae = be) && (decide (az = bz) && cd))) = false := by simp [h2]
            rw [e3] at HAP2
            clear e3 h2
            go_wp2_with (first
              | ((with_reducible show aD 46 _ _ _ _ _ _ _ _ _ _ _); refine wpList_mid_w (by rfl) 25 (.tmp 45) rfl g7 3 rfl D _ HDA.out Tryz.underlying25 rfl HSD.out ?_; try simp only [Act.put, pS1, pS2, pS3])
              | ((with_reducible show aD 48 _ _ _ _ _ _ _ _ _ _ _); refine wpList_mid_w (by rfl) 25 (.tmp 47) rfl g8 3 rfl E _ HDB.out Tryz.underlying25 rfl HSE.out ?_; try simp only [Act.put, pS1, pS2, pS3])
              | fail)
            go_ret
            exact ⟨by rw [← HAP2.out]; rfl, HB9.out⟩
        · have b1 : (ar == br) = false := by rw [beq_eq_false_iff_ne]; exact h1
          have d1 : decide (ar = br) = false := decide_eq_false h1
          have e3 : (decide (ar = br) && (decide (ae = be) && (decide (az = bz) && cd))) = false := by simp [h1]
          rw [e3] at HAP2
          clear e3 h1
          go_wp2_with (first
            | ((with_reducible show aD 46 _ _ _ _ _ _ _ _ _ _ _); refine wpList_mid_w (by rfl) 25 (.tmp 45) rfl g7 3 rfl D _ HDA.out Tryz.underlying25 rfl HSD.out ?_; try simp only [Act.put, pS1, pS2, pS3])
            | ((with_reducible show aD 48 _ _ _ _ _ _ _ _ _ _ _); refine wpList_mid_w (by rfl) 25 (.tmp 47) rfl g8 3 rfl E _ HDB.out Tryz.underlying25 rfl HSE.out ?_; try simp only [Act.put, pS1, pS2, pS3])
            | fail)
          go_ret
          exact ⟨by rw [← HAP2.out]; rfl, HB9.out⟩
      · refine step_new_var (by rfl) 27 rfl ZH HAH.out ?_
        intro g8 u5 HM8
        have HR8 := hidk HM8.out.row
        have h8 : w.heap.size + 1 + 1 < g8 := (by have := heap_lt hHeld.c; rw [HM8.out.new]; exact this)
        try (have h78 : g8 ≠ g7 := (by have := heap_lt HR7.out; have := HM8.out.new; omega))
        try replace HR7 := hidk ((HM8.out.below.block _ (heap_lt HR7.out)).trans HR7.out)
        refine hK.out _ _ (hHeld.keep HM8.out.below) (fun hHeld => ?_)
        clear hK K
        try simp only [Act.put, pS1, pS2, pS3]
        refine wpAnyH_ready (rs := [4]) (by kernel_rfl) (by simp) ?_
        refine (AllReadyH.cons (o := { dst := some 7, op := .alloc 27, type := 0, pos := "anchors.go:59", after := #[], guard := none }) rfl (fun K hK => ?_) AllReadyH.nil)
        refine step_new_var (by rfl) 27 rfl ZH HAH.out ?_
        intro g7 u4 HM7
        have HR7 := hidk HM7.out.row
        have h7 : w.heap.size + 1 + 1 < g7 := (by have := heap_lt hHeld.c; rw [HM7.out.new]; exact this)
        try (have h78 : g8 ≠ g7 := (by have := heap_lt HR8.out; have := HM7.out.new; omega))
        try replace HR8 := hidk ((HM7.out.below.block _ (heap_lt HR8.out)).trans HR8.out)
        refine hK.out _ _ (hHeld.keep HM7.out.below) (fun hHeld => ?_)
        clear hK K
        try simp only [Act.put, pS1, pS2, pS3]
        refine wpAnyH_ready (rs := [6]) (by kernel_rfl) (by simp) ?_
        refine (AllReadyH.cons (o := { dst := none, op := .store 27 (.tmp 7) (.tmp 21), type := 0, pos := "anchors.go:59", after := #[zD 4, zD 1, zP 0, zP 1, { on := 2, ground := Ground.textOnly Departure.lateStores }, { on := 3, ground := Ground.textOnly Departure.lateStores }, zP 4, zP 5], guard := none }) rfl (fun K hK => ?_) AllReadyH.nil)
        refine step_set_var (by rfl) 27 (.tmp 7) (.tmp 21) rfl g7 X rfl rfl 27 ZH HR7.out HSX.out HZX.out H1X.out ?_
        intro u6 HW7
        replace HR8 := hidk ((HW7.out.other g8 h78).trans HR8.out)
        replace HR7 := hidk HW7.out.row
        refine hK.out _ _ (hHeld.wrote HW7.out h7) (fun hHeld => ?_)
        clear hK K
        try simp only [Act.put, pS1, pS2, pS3]
        refine wpAnyH_ready (rs := [7]) (by kernel_rfl) (by simp) ?_
        refine (AllReadyH.cons (o := { dst := none, op := .store 27 (.tmp 8) (.tmp 23), type := 0, pos := "anchors.go:59", after := #[zD 5, zD 3, zC 6, zP 0, zP 1, zP 2, zP 3, zP 4, zP 5, zP 6], guard := none }) rfl (fun K hK => ?_) AllReadyH.nil)
        refine step_set_var (by rfl) 27 (.tmp 8) (.tmp 23) rfl g8 Y rfl rfl 27 ZH HR8.out HSY.out HZY.out H1Y.out ?_
        intro u7 HW8
        replace HR7 := hidk ((HW8.out.other g7 (Ne.symm h78)).trans HR7.out)
        replace HR8 := hidk HW8.out.row
        have HB9 := hidk (hHeld.wrote HW8.out h8).b
        obtain ⟨ca0, ca1, ca2, DA⟩ := HCA.out _ _ HR7.out
        obtain ⟨cb0, cb1, cb2, DB⟩ := HCB.out _ _ HR8.out
        have HDA := hidk DA
        have HDB := hidk DB
        clear DA DB HM7 HM8 HW7
        refine hK.out _ _ (hHeld.wrote HW8.out h8) (fun hHeld => ?_)
        clear hK K
        try simp only [Act.put, pS1, pS2, pS3]
        refine wpAnyH_done (by kernel_rfl) ?_ _
        clear hHeld
        by_cases h1 : ar = br
        · subst h1
          by_cases h2 : ae = be
          · subst h2
            by_cases h3 : az = bz
            · subst h3
              have e3 : (decide (ar = ar) && (decide (ae = ae) && (decide (az = az) && cd))) = cd := by simp
              rw [e3] at HAP2
              clear e3
              go_wp2_with (first
                | ((with_reducible show aD 46 _ _ _ _ _ _ _ _ _ _ _); refine wpList_mid_w (by rfl) 25 (.tmp 45) rfl g7 3 rfl D _ HDA.out Tryz.underlying25 rfl HSD.out ?_; try simp only [Act.put, pS1, pS2, pS3])
                | ((with_reducible show aD 48 _ _ _ _ _ _ _ _ _ _ _); refine wpList_mid_w (by rfl) 25 (.tmp 47) rfl g8 3 rfl E _ HDB.out Tryz.underlying25 rfl HSE.out ?_; try simp only [Act.put, pS1, pS2, pS3])
                | fail)
              go_ret
              exact ⟨by rw [← HAP2.out]; rfl, HB9.out⟩
            · have b3 : (az == bz) = false := by rw [beq_eq_false_iff_ne]; exact h3
              have d3 : decide (az = bz) = false := decide_eq_false h3
              have e3 : (decide (ar = ar) && (decide (ae = ae) && (decide (az = bz) && cd))) = false := by simp [h3]
              rw [e3] at HAP2
              clear e3 h3
              go_wp2_with (first
                | ((with_reducible show aD 46 _ _ _ _ _ _ _ _ _ _ _); refine wpList_mid_w (by rfl) 25 (.tmp 45) rfl g7 3 rfl D _ HDA.out Tryz.underlying25 rfl HSD.out ?_; try simp only [Act.put, pS1, pS2, pS3])
                | ((with_reducible show aD 48 _ _ _ _ _ _ _ _ _ _ _); refine wpList_mid_w (by rfl) 25 (.tmp 47) rfl g8 3 rfl E _ HDB.out Tryz.underlying25 rfl HSE.out ?_; try simp only [Act.put, pS1, pS2, pS3])
                | fail)
              go_ret
              exact ⟨by rw [← HAP2.out]; rfl, HB9.out⟩
          · have b2 : (ae == be) = false := by rw [beq_eq_false_iff_ne]; exact h2
            have d2 : decide (ae = be) = false := decide_eq_false h2
            have e3 : (decide (ar = ar) && (decide (ae = be) && (decide (az = bz) && cd))) = false := by simp [h2]
            rw [e3] at HAP2
            clear e3 h2
            go_wp2_with (first
              | ((with_reducible show aD 46 _ _ _ _ _ _ _ _ _ _ _); refine wpList_mid_w (by rfl) 25 (.tmp 45) rfl g7 3 rfl D _ HDA.out Tryz.underlying25 rfl HSD.out ?_; try simp only [Act.put, pS1, pS2, pS3])
              | ((with_reducible show aD 48 _ _ _ _ _ _ _ _ _ _ _); refine wpList_mid_w (by rfl) 25 (.tmp 47) rfl g8 3 rfl E _ HDB.out Tryz.underlying25 rfl HSE.out ?_; try simp only [Act.put, pS1, pS2, pS3])
              | fail)
            go_ret
            exact ⟨by rw [← HAP2.out]; rfl, HB9.out⟩
        · have b1 : (ar == br) = false := by rw [beq_eq_false_iff_ne]; exact h1
          have d1 : decide (ar = br) = false := decide_eq_false h1
          have e3 : (decide (ar = br) && (decide (ae = be) && (decide (az = bz) && cd))) = false := by simp [h1]
          rw [e3] at HAP2
          clear e3 h1
          go_wp2_with (first
            | ((with_reducible show aD 46 _ _ _ _ _ _ _ _ _ _ _); refine wpList_mid_w (by rfl) 25 (.tmp 45) rfl g7 3 rfl D _ HDA.out Tryz.underlying25 rfl HSD.out ?_; try simp only [Act.put, pS1, pS2, pS3])
            | ((with_reducible show aD 48 _ _ _ _ _ _ _ _ _ _ _); refine wpList_mid_w (by rfl) 25 (.tmp 47) rfl g8 3 rfl E _ HDB.out Tryz.underlying25 rfl HSE.out ?_; try simp only [Act.put, pS1, pS2, pS3])
            | fail)
          go_ret
          exact ⟨by rw [← HAP2.out]; rfl, HB9.out⟩
    · have bu : (!(u == 0)) = true := by simp [hu0]
      have bu2 : (u != 0) = true := by simpa using hu0
      have hx := HAP.out
      rw [decide_eq_false hu0, Bool.false_and, Bool.and_false] at hx
      subst hx
      go_wp2
      go_ret
      exact ⟨rfl, H2.out.b⟩
  · have bv : (!(v == 0)) = true := by simp [hv0]
    have bv2 : (v != 0) = true := by simpa using hv0
    have hx := HAP.out
    rw [decide_eq_false hv0, Bool.false_and] at hx
    subst hx
    go_wp2
    go_ret
    exact ⟨rfl, H1.out.b⟩
def log3 : List ItT := [userI 1 1, userI 2 5, userI 1 3]
def TabF11 (w : World) : Prop := True
theorem TabF11.keep {w w' : World} (h : TabF11 w) (hb : Below w.heap.size w w') : TabF11 w' := trivial
structure HeldF (w : World) (gl g6 : Nat) (XL : Array Value) (V : World) : Prop where
  b : Below w.heap.size w V
  i : InL V (some ⟨gl, 0, none⟩) 3 3 log3
  t : TabF11 V
  g : V.heap[g6]? = some (.cells XL 47 (0, 0))
theorem HeldF.keep {w : World} {gl g6 : Nat} {XL : Array Value} {V V' : World} (h : HeldF w gl g6 XL V) (hb : Below V.heap.size V V') : HeldF w gl g6 XL V' :=
  ⟨h.b.trans (hb.mono h.b.size), h.i.keep hb, h.t.keep hb, (hb.block _ (heap_lt h.g)).trans h.g⟩
theorem HeldF.drew {w : World} {gl g6 : Nat} {XL : Array Value} {V : World} (h : HeldF w gl g6 XL V) : HeldF w gl g6 XL V.drew := h.keep (Below.refl _ _).drew
theorem signsN (e : Int) (h : 1 ≤ e ∧ e ≤ 10) : signsO (hdN e) 1 = true := by
  unfold signsO
  have : rightH (hdN e) = true := (rightH_iff _).2 ⟨by show (1 : Int) ≤ 2; decide, by show (2 : Int) ≤ 5; decide, h.1, by show e ≤ 900000000; omega, by show (0 : Int) ≤ 0; decide, by show (0 : Int) ≤ 100000; decide, by show (0 : Int) ≤ 0; decide, by show (0 : Int) ≤ 900000000; decide⟩
  rw [this]
  decide
theorem sgN_eq (e : Int) (h : 1 ≤ e ∧ e ≤ 10) : sgN e = ⟨hdN e, 1, tagD zeroK (hdN e) 1⟩ := by unfold sgN signO; rw [if_pos (signsN e h)]
theorem sgN_may (e : Int) (h : 1 ≤ e ∧ e ≤ 10) : mayS (sgN e) = true := by
  have hs := signsN e h
  unfold signsO at hs
  rw [Bool.and_eq_true] at hs
  rw [sgN_eq e h, mayS_iff]
  exact ⟨hs.1, by show (1 : Int) ≤ 1; decide, by show (1 : Int) ≤ 3; decide⟩
theorem sgN_ver (e : Int) (h : 1 ≤ e ∧ e ≤ 10) : verE zeroK (sgN e) = 0 := by
  unfold verE
  rw [if_pos (sgN_may e h), if_pos]
  rw [sgN_eq e h]
theorem sgN_in (e : Int) (h : 1 ≤ e ∧ e ≤ 10) : InS (sgN e) := may_in (sgN_may e h) (sgN_digs e).1 (sgN_digs e).2
theorem sgN_h (e : Int) (h : 1 ≤ e ∧ e ≤ 10) : (sgN e).h = hdN e := by rw [sgN_eq e h]
theorem anN_in (e : Int) (h : 1 ≤ e ∧ e ≤ 10) : InI (anI 1 (sgN e)) := ⟨(by show In64 1; unfold In64; decide), (by show In64 2; unfold In64; decide), (by show In64 0; unfold In64; decide), (by show In64 0; unfold In64; decide), by show 0 ≤ 100000; omega, sgN_in e h, zeroC_in⟩
theorem anN_right (e : Int) (h : 1 ≤ e ∧ e ≤ 10) : rightL [anI 1 (sgN e)] = true := by
  rw [rightL_iff]
  refine ⟨by show 1 ≤ 2000; omega, fun i hi => ?_⟩
  obtain rfl : i = 0 := by simp at hi; omega
  rw [okAt_zero hi]
  show rightI (anI 1 (sgN e)) = true
  rw [rightI_iff]
  refine ⟨by show (1 : Int) ≤ 1; decide, by show (1 : Int) ≤ 900000000; decide, ?_⟩
  unfold rightE
  rw [if_neg (by show ¬ (2 : Int) = 1; decide), if_pos (by rfl)]
  show (_ && mayS (sgN e) && _) = true
  rw [sgN_may e h]
  show (decide ((0 : Int) = 0 ∧ (0 : Int) = 0 ∧ ByteArray.empty.size = 0) && true && eqCB zeroC zeroC) = true
  decide
theorem lat_one (e r : Int) : latA [anI 1 (sgN e)] r = if isAn (anI 1 (sgN e)) r = true then some (sgN e) else none := rfl
theorem anN_is (e r : Int) (h : 1 ≤ e ∧ e ≤ 10) : isAn (anI 1 (sgN e)) r = decide ((2 : Int) = r) := by
  unfold isAn
  show (decide ((2 : Int) = 2) && decide ((sgN e).h.r = r)) = _
  rw [sgN_h e h]
  rfl
theorem lat_two (e : Int) (h : 1 ≤ e ∧ e ≤ 10) : latA [anI 1 (sgN e)] 2 = some (sgN e) := by rw [lat_one, anN_is e 2 h]; rfl
theorem lat_three (e : Int) (h : 1 ≤ e ∧ e ≤ 10) : latA [anI 1 (sgN e)] 3 = none := by rw [lat_one, anN_is e 3 h]; rfl
theorem plc_none (e : Int) (h : 1 ≤ e ∧ e ≤ 10) : plcA [anI 1 (sgN e)] 2 0 = none := plcA_no fun y hy => by
  obtain rfl : y = anI 1 (sgN e) := by simpa using hy
  unfold abA
  show (_ && decide ((0 : Int) < (sgN e).h.s)) = false
  rw [sgN_h e h]
  show (_ && false) = false
  rw [Bool.and_false]
theorem adm_first : admE zeroK [] (sgN 1) 0 [] = 0 := by
  unfold admE
  rw [if_neg (by decide), if_pos (sgN_ver 1 (by omega)), latA_nil, sgN_h 1 (by omega)]
  rw [if_neg (by show ¬ ((1 : Int) < 0 ∨ (0 : Int) < 0 ∨ (0 : Int) ≠ 0); omega)]
  have hc : P5.conE 0 (sumD []) 0 (sumD []) [] = 0 := by rw [P5.conE_none _ _ _ _ (by omega), if_pos rfl, if_pos ⟨rfl, fun _ => rfl⟩]
  exact if_pos hc
theorem adm_other : admE zeroK [] (sgN 1) 1 [] = 122 := by
  unfold admE
  rw [if_neg (by decide), if_pos (sgN_ver 1 (by omega)), latA_nil, sgN_h 1 (by omega)]
  rw [if_pos (by show ((1 : Int) < 0 ∨ (0 : Int) < 0 ∨ (1 : Int) ≠ 0); omega)]
theorem adm_behind : admE zeroK [anI 1 (sgN 2)] (sgN 1) 0 [] = 122 := by
  unfold admE
  rw [if_neg (by rw [anN_right 2 (by omega)]; decide), if_pos (sgN_ver 1 (by omega)), sgN_h 1 (by omega)]
  refine if_pos (.inl ?_)
  show (1 : Int) < (lastH (latA [anI 1 (sgN 2)] 2)).e
  rw [lat_two 2 (by omega)]
  show (1 : Int) < (sgN 2).h.e
  rw [sgN_h 2 (by omega)]
  show (1 : Int) < 2
  omega
structure HeldA (w : World) (gl g1 g3 : Nat) (S : Array Value) (V : World) : Prop where
  b : Below w.heap.size w V
  t : TabH V
  i : InL V (some ⟨gl, 0, none⟩) 1 1 [anI 1 (sgN 1)]
  a : V.heap[g1]? = some (.cells S 29 (0, 0))
  s : V.heap[g3]? = some (.cells S 29 (0, 0))
theorem HeldA.keep {w : World} {gl g1 g3 : Nat} {S : Array Value} {V V' : World} (h : HeldA w gl g1 g3 S V) (hb : Below V.heap.size V V') : HeldA w gl g1 g3 S V' :=
  ⟨h.b.trans (hb.mono h.b.size), h.t.keep hb, h.i.keep hb, (hb.block _ (heap_lt h.a)).trans h.a, (hb.block _ (heap_lt h.s)).trans h.s⟩
theorem HeldA.drew {w : World} {gl g1 g3 : Nat} {S : Array Value} {V : World} (h : HeldA w gl g1 g3 S V) : HeldA w gl g1 g3 S V.drew := h.keep (Below.refl _ _).drew
theorem yieldsIf_a {ops : Array Oper} {w : World} {gl g1 g3 : Nat} {S : Array Value} {op : Oper} {a : Act} (hw : Region.wanted op (yielded ops a.tmps) = true) (hi : (Tryz.prog.info? 29).map (·.size) = some S.size) (ho : op.op = .load 29 (.tmp 1) := by rfl) (hx : a.eval (.tmp 1) = .pointer (some ⟨g1, 0, none⟩) := by rfl) : YieldsIf Tryz.prog ops (HeldA w gl g1 g3 S) op (.agg S) a :=
  yieldsIf_mid hw 29 (.tmp 1) ho g1 0 hx S _ (fun V h => by have := range_row (l := S.toList) (W := V) (g := g1) (by simpa using h.a); exact this) Tryz.underlying29 rfl hi
theorem yieldsIf_s {ops : Array Oper} {w : World} {gl g1 g3 : Nat} {S : Array Value} {op : Oper} {a : Act} (hw : Region.wanted op (yielded ops a.tmps) = true) (hi : (Tryz.prog.info? 29).map (·.size) = some S.size) (ho : op.op = .load 29 (.tmp 3) := by rfl) (hx : a.eval (.tmp 3) = .pointer (some ⟨g3, 0, none⟩) := by rfl) : YieldsIf Tryz.prog ops (HeldA w gl g1 g3 S) op (.agg S) a :=
  yieldsIf_mid hw 29 (.tmp 3) ho g3 0 hx S _ (fun V h => by have := range_row (l := S.toList) (W := V) (g := g3) (by simpa using h.s); exact this) Tryz.underlying29 rfl hi
set_option maxHeartbeats 16000000 in
theorem admits_true (hd : HeadC) (an : AnchorsC) (w : World) (hT : TabH w) : Calls Tryz.prog 8 #[] w fun e w' => e = .returned (.bool true) ∧ Below w.heap.size w w' := by
  have i64 : ∀ z : Int, 0 ≤ z → z ≤ 10 → In64 z := fun z h0 h1 => by unfold In64; omega
  have r1 : (1 : Int) ≤ 1 ∧ (1 : Int) ≤ 10 := by omega
  have r2 : (1 : Int) ≤ 2 ∧ (2 : Int) ≤ 10 := by omega
  obtain ⟨S, HS, HSS, H1S, N69⟩ := sign_row (sgN 1) (sgN_digs 1).1 (sgN_digs 1).2
  obtain ⟨S2, HS2, HSS2, H1S2, N692⟩ := sign_row (sgN 2) (sgN_digs 2).1 (sgN_digs 2).2
  obtain ⟨Z, HZ, HA, HBZ, H69⟩ := noughtsS
  have ok1 := anI_ok 1 (sgN 1) (sgN_digs 1).1 (sgN_digs 1).2
  have ok2 := anI_ok 1 (sgN 2) (sgN_digs 2).1 (sgN_digs 2).2
  obtain ⟨X, HX, SX, OX, NX⟩ := item_row (anI 1 (sgN 1)) ok1
  obtain ⟨X2, HX2, SX2, OX2, NX2⟩ := item_row (anI 1 (sgN 2)) ok2
  obtain ⟨K, HK⟩ : ∃ K : Array Value, Hid (K = (cellsOf zeroK).toArray) := ⟨_, hidk rfl⟩
  have HZC : Hid ((#[.int .u8 0, .int .u8 0, .int .u8 0, .int .u8 0, .int .u8 0, .int .u8 0, .int .u8 0, .int .u8 0, .int .u8 0, .int .u8 0, .int .u8 0, .int .u8 0, .int .u8 0, .int .u8 0, .int .u8 0, .int .u8 0, .int .u8 0, .int .u8 0, .int .u8 0, .int .u8 0, .int .u8 0, .int .u8 0, .int .u8 0, .int .u8 0, .int .u8 0, .int .u8 0, .int .u8 0, .int .u8 0, .int .u8 0, .int .u8 0, .int .u8 0, .int .u8 0] : Array Value) = K) := by show _ = _; rw [HK.out]; rfl
  have HZS : Hid (Z.size = S.size) := by show _ = _; rw [H69.out, N69.out]
  have HSZ : Hid ((Tryz.prog.info? 29).map (·.size) = some Z.size) := by show _ = _; rw [sizeS, H69.out]
  have H1Z : Hid (Z.all (·.oneCell') = true) := by show _ = _; rw [HZ.out]; exact one_cellsS _
  have U1 : Hid (Calls Tryz.prog 18 #[.int .i64 1] w fun x w' => x = .returned (.agg S) ∧ Below w.heap.size w w') := signedL_any hd 1 (i64 1 (by omega) (by omega)) w hT S HS
  have U2 : Hid (∀ W, TabH W → Calls Tryz.prog 18 #[.int .i64 2] W fun x w' => x = .returned (.agg S2) ∧ Below W.heap.size W w') := fun W ht => signedL_any hd 2 (i64 2 (by omega) (by omega)) W ht S2 HS2
  have I1 : Hid (∀ W, Calls Tryz.prog 19 #[.int .i64 1, .agg S] W fun x w' => x = .returned (.agg X) ∧ Below W.heap.size W w') := fun W => itemL_any 1 (sgN 1) (sgN_digs 1).1 (sgN_digs 1).2 W S X HS HX
  have I2 : Hid (∀ W, Calls Tryz.prog 19 #[.int .i64 1, .agg S2] W fun x w' => x = .returned (.agg X2) ∧ Below W.heap.size W w') := fun W => itemL_any 1 (sgN 2) (sgN_digs 2).1 (sgN_digs 2).2 W S2 X2 HS2 HX2
  have okL1 : ∀ x ∈ [anI 1 (sgN 1)], OkE x.e := by intro x hx; obtain rfl : x = anI 1 (sgN 1) := (by simpa using hx); exact ok1
  have inL1 : ∀ x ∈ [anI 1 (sgN 1)], InI x := by intro x hx; obtain rfl : x = anI 1 (sgN 1) := (by simpa using hx); exact anN_in 1 (by omega)
  have eX1 : X = (icL [anI 1 (sgN 1)]).toArray := by rw [HX.out, icL_cons, icL_nil, List.append_nil]
  have B1 : Hid (∀ W : World, (Instr.buildSlice 24 1 #[(0, .agg X)]).run Tryz.prog W = .ok (.slice (some ⟨W.heap.size, 0, none⟩) 1 1) (W.alloc (.cells X 47))) := fun W => by
    rw [run_build_items W 1 [anI 1 (sgN 1)] okL1 rfl (by omega) (by omega) _ (by rw [HX.out]; rfl), eX1]
  have L1 : Hid (∀ W : World, InL (W.alloc (.cells X 47)) (some ⟨W.heap.size, 0, none⟩) 1 1 [anI 1 (sgN 1)]) := fun W => ⟨IReads.new W [anI 1 (sgN 1)] 1 rfl okL1 (by omega) X eX1, (fun e => by cases e), inL1, by omega⟩
  have okL2 : ∀ x ∈ [anI 1 (sgN 2)], OkE x.e := by intro x hx; obtain rfl : x = anI 1 (sgN 2) := (by simpa using hx); exact ok2
  have inL2 : ∀ x ∈ [anI 1 (sgN 2)], InI x := by intro x hx; obtain rfl : x = anI 1 (sgN 2) := (by simpa using hx); exact anN_in 2 (by omega)
  have eX2 : X2 = (icL [anI 1 (sgN 2)]).toArray := by rw [HX2.out, icL_cons, icL_nil, List.append_nil]
  have B2 : Hid (∀ W : World, (Instr.buildSlice 24 1 #[(0, .agg X2)]).run Tryz.prog W = .ok (.slice (some ⟨W.heap.size, 0, none⟩) 1 1) (W.alloc (.cells X2 47))) := fun W => by
    rw [run_build_items W 1 [anI 1 (sgN 2)] okL2 rfl (by omega) (by omega) _ (by rw [HX2.out]; rfl), eX2]
  have L2 : Hid (∀ W : World, InL (W.alloc (.cells X2 47)) (some ⟨W.heap.size, 0, none⟩) 1 1 [anI 1 (sgN 2)]) := fun W => ⟨IReads.new W [anI 1 (sgN 2)] 1 rfl okL2 (by omega) X2 eX2, (fun e => by cases e), inL2, by omega⟩
  have E1 : Hid (∀ W g, InL W (some ⟨g, 0, none⟩) 1 1 [anI 1 (sgN 1)] → Calls Tryz.prog 20 #[.slice (some ⟨g, 0, none⟩) 1 1, .int .i64 2] W fun e w' => e = .returned (.tuple #[.agg S, .bool true]) ∧ Below W.heap.size W w') := fun W g h => by
    have := an.latest _ 1 1 [anI 1 (sgN 1)] 2 W h (i64 2 (by omega) (by omega)) S (by show _ = _; unfold latS; rw [lat_two 1 r1]; exact HS.out)
    rwa [lat_two 1 r1] at this
  have E2 : Hid (∀ W g, InL W (some ⟨g, 0, none⟩) 1 1 [anI 1 (sgN 1)] → Calls Tryz.prog 20 #[.slice (some ⟨g, 0, none⟩) 1 1, .int .i64 3] W fun e w' => e = .returned (.tuple #[.agg Z, .bool false]) ∧ Below W.heap.size W w') := fun W g h => by
    have := an.latest _ 1 1 [anI 1 (sgN 1)] 3 W h (i64 3 (by omega) (by omega)) Z (by show _ = _; unfold latS; rw [lat_three 1 r1]; exact HZ.out)
    rwa [lat_three 1 r1] at this
  have E3 : Hid (∀ W g, InL W (some ⟨g, 0, none⟩) 1 1 [anI 1 (sgN 1)] → Calls Tryz.prog 21 #[.slice (some ⟨g, 0, none⟩) 1 1, .int .i64 2, .int .i64 0] W fun e w' => e = .returned (.tuple #[.int .i64 0, .bool false]) ∧ Below W.heap.size W w') := fun W g h => by
    have := an.place _ 1 1 [anI 1 (sgN 1)] 2 0 W h (i64 2 (by omega) (by omega)) (i64 0 (by omega) (by omega))
    rwa [plc_none 1 r1] at this
  have nil : ∀ W : World, InL W none 0 0 [] := fun W => ⟨ireads_none W, (fun _ => rfl), (fun x hx => by cases hx), by omega⟩
  have pn : ∀ W : World, LReads W none 0 0 [] := fun W => ⟨rfl, (fun d hd => by cases hd), Nat.le_refl _, Nat.zero_le _, .inl rfl⟩
  have A1 : Hid (∀ W, TabH W → Calls Tryz.prog 7 #[.agg K, .slice none 0 0, .agg S, .int .i64 0, .slice none 0 0] W fun e w' => e = .returned (.int .i64 0) ∧ Below W.heap.size W w') := fun W ht => by
    have := an.adm zeroK none 0 0 [] (sgN 1) 0 none 0 0 [] W K S HK HS rfl (nil W) (sgN_in 1 r1) (i64 0 (by omega) (by omega)) (pn W) ht
    rwa [adm_first] at this
  have A2 : Hid (∀ W, TabH W → Calls Tryz.prog 7 #[.agg K, .slice none 0 0, .agg S, .int .i64 1, .slice none 0 0] W fun e w' => e = .returned (.int .i64 122) ∧ Below W.heap.size W w') := fun W ht => by
    have := an.adm zeroK none 0 0 [] (sgN 1) 1 none 0 0 [] W K S HK HS rfl (nil W) (sgN_in 1 r1) (i64 1 (by omega) (by omega)) (pn W) ht
    rwa [adm_other] at this
  have A3 : Hid (∀ W g, InL W (some ⟨g, 0, none⟩) 1 1 [anI 1 (sgN 2)] → TabH W → Calls Tryz.prog 7 #[.agg K, .slice (some ⟨g, 0, none⟩) 1 1, .agg S, .int .i64 0, .slice none 0 0] W fun e w' => e = .returned (.int .i64 122) ∧ Below W.heap.size W w') := fun W g h ht => by
    have := an.adm zeroK _ 1 1 [anI 1 (sgN 2)] (sgN 1) 0 none 0 0 [] W K S HK HS rfl h (sgN_in 1 r1) (i64 0 (by omega) (by omega)) (pn W) ht
    rwa [adm_behind] at this
  have A4 : Hid (∀ W, TabH W → Calls Tryz.prog 10 #[.agg K, .agg S, .agg S] W fun e w' => e = .returned (.bool false) ∧ Below W.heap.size W w') := fun W ht => by
    have := an.apart zeroK (sgN 1) (sgN 1) W K S S HK HS HS rfl (sgN_in 1 r1) (sgN_in 1 r1) ht
    rwa [apB_self] at this
  have EQS : Hid (∀ W, (binOp .eql 29 (.agg S) (.agg S)).run Tryz.prog W = .ok (.bool true) W) := fun W => eqSigned _ _ (sgN_digs 1).1 (sgN_digs 1).1 (sgN_digs 1).2 (sgN_digs 1).2 S S HS HS true (by simp) W
  have HT := hidk hT
  clear hd an hT HS HS2 HZ HK HX HX2 ok1 ok2 okL1 okL2 inL1 inL2 eX1 eX2 nil pn i64 r1 r2 HBZ
  go_enter Tryz.func8, Tryz.ntmps8
  go_wp2_with fail
  refine U1.out.mono ?_
  rintro e w1 ⟨rfl, hb1⟩
  go_wp2_with (first
    | (show aD 1 _ _ _ _ _ _ _ _ _ _ _; refine wpList_new_var rfl 29 rfl Z HA.out ?_; intro g1 wa HM; have HG := hidk HM.out.row; have hg1 : w.heap.size ≤ g1 := (by rw [HM.out.new]; exact hb1.size); have HBa := hidk (hb1.trans (HM.out.below.mono hb1.size)); try simp only [Act.put, pS1, pS2, pS3])
    | (refine wpList_set_var rfl 29 (.tmp 1) (.tmp 9) rfl g1 S rfl rfl 29 Z HG.out HSS.out HZS.out H1S.out ?_; intro w2 HW; have HG1 := hidk HW.out.row; have HB2 := hidk (HW.out.below _ _ HBa.out hg1); try simp only [Act.put, pS1, pS2, pS3])
    | (show aD 10 _ _ _ _ _ _ _ _ _ _ _; refine wpList_load_row_w (by rfl) 29 (.tmp 1) rfl g1 rfl 29 S (0, 0) _ HG1.out Tryz.underlying29 rfl HSS.out ?_; try simp only [Act.put, pS1, pS2, pS3])
    | fail)
  clear hb1 HM HG HBa HW U1
  refine (I1.out _).mono ?_
  rintro e w3 ⟨rfl, hb3⟩
  have HH : Hid (Below w.heap.size w (w3.alloc (.cells X 47)) ∧ InL (w3.alloc (.cells X 47)) (some ⟨w3.heap.size, 0, none⟩) 1 1 [anI 1 (sgN 1)] ∧ (w3.alloc (.cells X 47)).heap[g1]? = some (.cells S 29 (0, 0))) := by
    have hB3 := HB2.out.trans (hb3.mono HB2.out.size)
    have hb4 : Below w3.heap.size w3 (w3.alloc (.cells X 47)) := (Below.refl _ _).alloc (Nat.le_refl _) _
    have h1 : w3.heap[g1]? = some (.cells S 29 (0, 0)) := by rw [hb3.block _ (heap_lt HG1.out)]; exact HG1.out
    exact ⟨hB3.trans (hb4.mono hB3.size), L1.out w3, by rw [hb4.block _ (heap_lt h1)]; exact h1⟩
  obtain ⟨gl, hgl⟩ : ∃ gl, w3.heap.size = gl := ⟨_, rfl⟩
  have HBU := hidk (B1.out w3)
  rw [hgl] at HH HBU
  obtain ⟨v1, hv1⟩ : ∃ v, w3.alloc (.cells X 47) = v := ⟨_, rfl⟩
  rw [hv1] at HH HBU
  clear hb3 hgl hv1 B1 L1 I1 HB2 HG1
  obtain ⟨hh1, hh2, hh3⟩ := HH.out
  have HB1 := hidk hh1
  have HI1 := hidk hh2
  have HG1 := hidk hh3
  clear hh1 hh2 hh3 HH
  go_wp2_with (first
    | (show aD 12 _ _ _ _ _ _ _ _ _ _ _; refine wpList_build_run rfl 24 1 _ rfl #[(0, .agg X)] rfl _ _ HBU.out ?_; try simp only [Act.put, pS1, pS2, pS3])
    | fail)
  refine (E1.out _ _ HI1.out).mono ?_
  rintro e v2 ⟨rfl, hbj⟩
  have HI2 := hidk (HI1.out.keep hbj)
  have HB2 := hidk (HB1.out.trans (hbj.mono HB1.out.size))
  have HG2 : Hid (v2.heap[g1]? = some (.cells S 29 (0, 0))) := by show _ = _; rw [hbj.block _ (heap_lt HG1.out)]; exact HG1.out
  clear hbj HI1 HB1 HG1 HBU
  go_wp2_with (first
    | (show aD 3 _ _ _ _ _ _ _ _ _ _ _; refine wpList_new_var rfl 29 rfl Z HA.out ?_; intro g3 u3 HM; have HG := hidk HM.out.row; try simp only [Act.put, pS1, pS2, pS3])
    | (refine wpList_set_var rfl 29 (.tmp 3) (.tmp 16) rfl g3 S rfl rfl 29 Z HG.out HSS.out HZS.out H1S.out ?_; intro v3 HW; have hbj : Below v2.heap.size v2 v3 := HW.out.below _ _ HM.out.below (by rw [HM.out.new]; exact Nat.le_refl _); have HS3 := hidk HW.out.row; have HI3 := hidk (HI2.out.keep hbj); have HB3 := hidk (HB2.out.trans (hbj.mono HB2.out.size)); have HG3 : Hid (v3.heap[g1]? = some (.cells S 29 (0, 0))) := (by show _ = _; rw [hbj.block _ (heap_lt HG2.out)]; exact HG2.out); try simp only [Act.put, pS1, pS2, pS3])
    | fail)
  clear HM HG HW hbj HI2 HB2 HG2
  refine (E2.out _ _ HI3.out).mono ?_
  rintro e v4 ⟨rfl, hbj⟩
  have HI4 := hidk (HI3.out.keep hbj)
  have HB4 := hidk (HB3.out.trans (hbj.mono HB3.out.size))
  have HG4 : Hid (v4.heap[g1]? = some (.cells S 29 (0, 0))) := by show _ = _; rw [hbj.block _ (heap_lt HG3.out)]; exact HG3.out
  have HS4 : Hid (v4.heap[g3]? = some (.cells S 29 (0, 0))) := by show _ = _; rw [hbj.block _ (heap_lt HS3.out)]; exact HS3.out
  clear hbj HI3 HB3 HG3 HS3
  go_wp2_with (first
    | (show aD 5 _ _ _ _ _ _ _ _ _ _ _; refine wpList_new_var rfl 29 rfl Z HA.out ?_; intro g5 u5 HM; have HG := hidk HM.out.row; try simp only [Act.put, pS1, pS2, pS3])
    | (refine wpList_set_var rfl 29 (.tmp 5) (.tmp 21) rfl g5 Z rfl rfl 29 Z HG.out HSZ.out rfl H1Z.out ?_; intro v5 HW; have hbj : Below v4.heap.size v4 v5 := HW.out.below _ _ HM.out.below (by rw [HM.out.new]; exact Nat.le_refl _); have HI5 := hidk (HI4.out.keep hbj); have HB5 := hidk (HB4.out.trans (hbj.mono HB4.out.size)); have HG5 : Hid (v5.heap[g1]? = some (.cells S 29 (0, 0))) := (by show _ = _; rw [hbj.block _ (heap_lt HG4.out)]; exact HG4.out); have HS5 : Hid (v5.heap[g3]? = some (.cells S 29 (0, 0))) := (by show _ = _; rw [hbj.block _ (heap_lt HS4.out)]; exact HS4.out); try simp only [Act.put, pS1, pS2, pS3])
    | fail)
  clear HM HG HW hbj HI4 HB4 HG4 HS4
  refine (E3.out _ _ HI5.out).mono ?_
  rintro e v6 ⟨rfl, hbj⟩
  have HB6 := HB5.out.trans (hbj.mono HB5.out.size)
  have HH0 : Hid (HeldA w gl g1 g3 S v6) := ⟨HB6, HT.out.keep HB6, HI5.out.keep hbj, (by rw [hbj.block _ (heap_lt HG5.out)]; exact HG5.out), by rw [hbj.block _ (heap_lt HS5.out)]; exact HS5.out⟩
  clear hbj HI5 HB5 HG5 HS5 HB6 HT E1 E2 E3
  have eqs := EQS.out
  go_wp2_with fail
  refine wp_region_held_drew (S := (HeldA w gl g1 g3 S)) (by kernel_rfl) HH0.out.drew (fun hHeld => ?_)
  refine zW 0 (.agg K) rfl (Or.inl ⟨by rfl, by intro W hSw; go_simp; exact HZC.out⟩) hHeld ?_
  try simp only [Act.put, pS1, pS2, pS3]
  refine zW 1 (.agg S) rfl (yieldsIf_a (by rfl) HSS.out) hHeld ?_
  try simp only [Act.put, pS1, pS2, pS3]
  refine wpAnyH_ready (rs := [2]) (by kernel_rfl) (by simp) ?_
  refine (AllReadyH.cons (o := { dst := some 30, op := .call { callee := .value (.func 7), args := #[.tmp 28, .const (.slice none 0 0), .tmp 29, .const (.int .i64 0), .const (.slice none 0 0)], argTypes := #[23, 24, 29, 3, 30] }, type := 34, pos := "law.go:33", after := #[zD 0, zD 1], guard := none }) rfl (fun K hK => ?_) AllReadyH.nil)
  go_simp
  refine (A1.out _ hHeld.t).mono ?_
  rintro e w2 ⟨rfl, hb2⟩
  go_wp2_with fail
  refine hK.out _ _ (hHeld.keep hb2) (fun hHeld => ?_)
  clear hK K
  try simp only [Act.put, pS1, pS2, pS3]
  refine zX 3 (.bool true) rfl hHeld ?_
  try simp only [Act.put, pS1, pS2, pS3]
  refine zX 4 (.bool true) rfl hHeld ?_
  try simp only [Act.put, pS1, pS2, pS3]
  refine zW 5 (.agg K) rfl (Or.inl ⟨by rfl, by intro W hSw; go_simp; exact HZC.out⟩) hHeld ?_
  try simp only [Act.put, pS1, pS2, pS3]
  refine zW 6 (.agg S) rfl (yieldsIf_a (by rfl) HSS.out) hHeld ?_
  try simp only [Act.put, pS1, pS2, pS3]
  refine wpAnyH_ready (rs := [7]) (by kernel_rfl) (by simp) ?_
  refine (AllReadyH.cons (o := { dst := some 35, op := .call { callee := .value (.func 7), args := #[.tmp 33, .const (.slice none 0 0), .tmp 34, .const (.int .i64 1), .const (.slice none 0 0)], argTypes := #[23, 24, 29, 3, 30] }, type := 34, pos := "law.go:33", after := #[zD 5, zD 6, zC 4, zG 4], guard := some (4, true) }) rfl (fun K hK => ?_) AllReadyH.nil)
  go_simp
  refine (A2.out _ hHeld.t).mono ?_
  rintro e w7 ⟨rfl, hb7⟩
  go_wp2_with fail
  refine hK.out _ _ (hHeld.keep hb7) (fun hHeld => ?_)
  clear hK K
  try simp only [Act.put, pS1, pS2, pS3]
  refine zX 8 (.bool true) rfl hHeld ?_
  try simp only [Act.put, pS1, pS2, pS3]
  refine zX 9 (.bool true) rfl hHeld ?_
  try simp only [Act.put, pS1, pS2, pS3]
  refine zX 10 (.bool true) rfl hHeld ?_
  try simp only [Act.put, pS1, pS2, pS3]
  refine zX 11 (.bool true) rfl hHeld ?_
  try simp only [Act.put, pS1, pS2, pS3]
  refine zX 12 (.bool true) rfl hHeld ?_
  try simp only [Act.put, pS1, pS2, pS3]
  refine zX 13 (.bool true) rfl hHeld ?_
  try simp only [Act.put, pS1, pS2, pS3]
  refine zW 14 (.agg S) rfl (yieldsIf_s (by rfl) HSS.out) hHeld ?_
  try simp only [Act.put, pS1, pS2, pS3]
  refine zW 15 (.agg S) rfl (yieldsIf_a (by rfl) HSS.out) hHeld ?_
  try simp only [Act.put, pS1, pS2, pS3]
  refine zW 16 (.bool true) rfl (Or.inl ⟨by rfl, by intro W hSw; have := eqs W; go_simp⟩) hHeld ?_
  try simp only [Act.put, pS1, pS2, pS3]
  refine zX 17 (.bool true) rfl hHeld ?_
  try simp only [Act.put, pS1, pS2, pS3]
  refine zX 18 (.bool true) rfl hHeld ?_
  try simp only [Act.put, pS1, pS2, pS3]
  refine zX 19 (.bool false) rfl hHeld ?_
  try simp only [Act.put, pS1, pS2, pS3]
  refine zX 20 (.bool true) rfl hHeld ?_
  try simp only [Act.put, pS1, pS2, pS3]
  refine zX 21 (.bool true) rfl hHeld ?_
  try simp only [Act.put, pS1, pS2, pS3]
  refine zX 22 (.bool true) rfl hHeld ?_
  try simp only [Act.put, pS1, pS2, pS3]
  refine zX 23 (.bool false) rfl hHeld ?_
  try simp only [Act.put, pS1, pS2, pS3]
  refine zX 24 (.bool true) rfl hHeld ?_
  try simp only [Act.put, pS1, pS2, pS3]
  refine zX 25 (.bool true) rfl hHeld ?_
  try simp only [Act.put, pS1, pS2, pS3]
  refine zX 26 (.bool true) rfl hHeld ?_
  try simp only [Act.put, pS1, pS2, pS3]
  refine zW 27 (.agg K) rfl (Or.inl ⟨by rfl, by intro W hSw; go_simp; exact HZC.out⟩) hHeld ?_
  try simp only [Act.put, pS1, pS2, pS3]
  refine zW 31 (.agg S) rfl (yieldsIf_a (by rfl) HSS.out) hHeld ?_
  try simp only [Act.put, pS1, pS2, pS3]
  refine wpAnyH_ready (rs := [28]) (by kernel_rfl) (by simp) ?_
  refine (AllReadyH.cons (o := { dst := some 56, op := .call { callee := .value (.func 18), args := #[.const (.int .i64 2)], argTypes := #[3] }, type := 29, pos := "law.go:33", after := #[zC 26, zG 26], guard := some (26, true) }) rfl (fun K hK => ?_) AllReadyH.nil)
  go_simp
  refine (U2.out _ hHeld.t).mono ?_
  rintro e w28 ⟨rfl, hb28⟩
  go_wp2_with fail
  refine hK.out _ _ (hHeld.keep hb28) (fun hHeld => ?_)
  clear hK K
  try simp only [Act.put, pS1, pS2, pS3]
  refine wpAnyH_ready (rs := [29]) (by kernel_rfl) (by simp) ?_
  refine (AllReadyH.cons (o := { dst := some 57, op := .call { callee := .value (.func 19), args := #[.const (.int .i64 1), .tmp 56], argTypes := #[3, 29] }, type := 47, pos := "law.go:33", after := #[zD 28, zC 28, zG 26], guard := some (26, true) }) rfl (fun K hK => ?_) AllReadyH.nil)
  go_simp
  refine (I2.out _).mono ?_
  rintro e w29 ⟨rfl, hb29⟩
  go_wp2_with fail
  refine hK.out _ _ (hHeld.keep hb29) (fun hHeld => ?_)
  clear hK K
  try simp only [Act.put, pS1, pS2, pS3]
  refine wpAnyH_ready (rs := [30]) (by kernel_rfl) (by simp) ?_
  refine (AllReadyH.cons (o := { dst := some 58, op := .buildSlice 24 1 #[(0, .tmp 57)], type := 24, pos := "law.go:33", after := #[zD 29, zG 26], guard := some (26, true) }) rfl (fun K hK => ?_) AllReadyH.nil)
  refine step_build_run (by rfl) 24 1 _ rfl #[(0, .agg X2)] rfl _ _ (B2.out _) ?_
  have HL30 := hidk (L2.out (w29))
  refine hK.out _ _ (hHeld.keep ((Below.refl _ _).alloc (Nat.le_refl _) _)) (fun hHeld => ?_)
  clear hK K
  try simp only [Act.put, pS1, pS2, pS3]
  refine wpAnyH_ready (rs := [32]) (by kernel_rfl) (by simp) ?_
  refine (AllReadyH.cons (o := { dst := some 60, op := .call { callee := .value (.func 7), args := #[.tmp 55, .tmp 58, .tmp 59, .const (.int .i64 0), .const (.slice none 0 0)], argTypes := #[23, 24, 29, 3, 30] }, type := 34, pos := "law.go:33", after := #[zD 27, zD 30, zD 31, zC 29, zG 26], guard := some (26, true) }) rfl (fun K hK => ?_) AllReadyH.nil)
  go_simp
  refine (A3.out _ _ HL30.out hHeld.t).mono ?_
  rintro e w32 ⟨rfl, hb32⟩
  go_wp2_with fail
  refine hK.out _ _ (hHeld.keep hb32) (fun hHeld => ?_)
  clear hK K
  try simp only [Act.put, pS1, pS2, pS3]
  refine zX 33 (.bool true) rfl hHeld ?_
  try simp only [Act.put, pS1, pS2, pS3]
  refine zX 34 (.bool true) rfl hHeld ?_
  try simp only [Act.put, pS1, pS2, pS3]
  refine zX 35 (.bool true) rfl hHeld ?_
  try simp only [Act.put, pS1, pS2, pS3]
  refine zW 36 (.agg K) rfl (Or.inl ⟨by rfl, by intro W hSw; go_simp; exact HZC.out⟩) hHeld ?_
  try simp only [Act.put, pS1, pS2, pS3]
  refine zW 37 (.agg S) rfl (yieldsIf_a (by rfl) HSS.out) hHeld ?_
  try simp only [Act.put, pS1, pS2, pS3]
  refine zW 38 (.agg S) rfl (yieldsIf_a (by rfl) HSS.out) hHeld ?_
  try simp only [Act.put, pS1, pS2, pS3]
  refine wpAnyH_ready (rs := [39]) (by kernel_rfl) (by simp) ?_
  refine (AllReadyH.cons (o := { dst := some 67, op := .call { callee := .value (.func 10), args := #[.tmp 64, .tmp 65, .tmp 66], argTypes := #[23, 29, 29] }, type := 4, pos := "law.go:33", after := #[zD 36, zD 37, zD 38, zC 35, zG 35], guard := some (35, true) }) rfl (fun K hK => ?_) AllReadyH.nil)
  go_simp
  refine (A4.out _ hHeld.t).mono ?_
  rintro e w39 ⟨rfl, hb39⟩
  go_wp2_with fail
  refine hK.out _ _ (hHeld.keep hb39) (fun hHeld => ?_)
  clear hK K
  try simp only [Act.put, pS1, pS2, pS3]
  refine zX 40 (.bool true) rfl hHeld ?_
  try simp only [Act.put, pS1, pS2, pS3]
  refine zX 41 (.bool true) rfl hHeld ?_
  try simp only [Act.put, pS1, pS2, pS3]
  refine zX 42 (.bool true) rfl hHeld ?_
  try simp only [Act.put, pS1, pS2, pS3]
  refine wpAnyH_done (by kernel_rfl) ?_ _
  have HZ := hidk hHeld.b
  clear hHeld
  go_wp2
  go_ret
  exact ⟨rfl, HZ.out⟩
structure HeldB (w : World) (K A B : Array Value) (V : World) : Prop where
  b : Below w.heap.size w V
  k : V.heap[w.heap.size]? = some (.cells K 23 (0, 0))
  a : V.heap[w.heap.size + 1]? = some (.cells A 29 (0, 0))
  c : V.heap[w.heap.size + 2]? = some (.cells B 29 (0, 0))
theorem HeldB.keep {w : World} {K A B : Array Value} {V V' : World} (h : HeldB w K A B V) (hb : Below V.heap.size V V') : HeldB w K A B V' :=
  ⟨h.b.trans (hb.mono h.b.size), (hb.block _ (heap_lt h.k)).trans h.k, (hb.block _ (heap_lt h.a)).trans h.a, (hb.block _ (heap_lt h.c)).trans h.c⟩
end Go.Proofs.YtjalebncfnekiaaGreatDoor
/- The program's Place. -/
namespace Go.Proofs.YtjalebncfnekiaaGreatDoor
open Go.RowKit Go.Shelf Nums Sums
set_option linter.unusedVariables false
set_option linter.unusedSimpArgs false
set_option maxRecDepth 100000
attribute [local go_sem] Oper.semAt_some
theorem wpIn_calm13 {P : Program} {n : Nat} {c : Code} {K : Act → World → Prop} {Q : Exit → Act → World → Prop} {a : Act} {w : World} (h : c.wp P (Exit.then K (fun _ _ _ => False)) a w) : c.wpIn Fence.wide n P (Exit.then K Q) a w :=
  wpIn_wide.2 (wp_mono h fun e a w h => by cases e <;> first | exact h | exact h.elim)
structure PlcB (w : World) (r s q : Int) (b : Bool) (W : World) : Prop where
  r : W.heap[w.heap.size]? = some (.cells #[.int .i64 r] 3 (0, 0))
  s : W.heap[w.heap.size + 1]? = some (.cells #[.int .i64 s] 3 (0, 0))
  q : W.heap[w.heap.size + 1 + 1]? = some (.cells #[.int .i64 q] 3 (0, 0))
  b : W.heap[w.heap.size + 1 + 1 + 1]? = some (.cells #[.bool b] 4 (0, 0))
  bl : Below w.heap.size w W
  z : w.heap.size + 5 ≤ W.heap.size
theorem PlcB.own {w : World} {r s q : Int} {b : Bool} {X Y : World} {row : Option Nat} {B : Nat} (h : PlcB w r s q b X) (hB : w.heap.size ≤ B) (hg : X.grownBy Y row) (hr : ∀ r, row = some r → B ≤ r ∧ ∃ o : Obj, X.heap[r]? = some o ∧ o.isCells = false) : PlcB w r s q b Y :=
  ⟨cells_stay h.r hg (fun r e => (hr r e).2), cells_stay h.s hg (fun r e => (hr r e).2), cells_stay h.q hg (fun r e => (hr r e).2), cells_stay h.b hg (fun r e => (hr r e).2), h.bl.grown hg (Nat.le_trans h.bl.size (Nat.le_refl _)) (fun k e => by have := (hr k e).1; omega), Nat.le_trans h.z hg.size⟩
theorem PlcB.keep {w : World} {r s q : Int} {b : Bool} {X Y : World} (h : PlcB w r s q b X) (hb : Below X.heap.size X Y) : PlcB w r s q b Y :=
  ⟨(hb.block _ (heap_lt h.r)).trans h.r, (hb.block _ (heap_lt h.s)).trans h.s, (hb.block _ (heap_lt h.q)).trans h.q, (hb.block _ (heap_lt h.b)).trans h.b, h.bl.trans (hb.mono h.bl.size), Nat.le_trans h.z hb.size⟩
theorem PlcB.put {w : World} {r s q q' : Int} {b b' : Bool} {W : World} (h : PlcB w r s q b W) : PlcB w r s q' b' ((W.setCell ⟨w.heap.size + 1 + 1, 0, none⟩ (.int .i64 q')).setCell ⟨w.heap.size + 1 + 1 + 1, 0, none⟩ (.bool b')) := by
  refine ⟨?_, ?_, ?_, ?_, (h.bl.setCell (p := ⟨w.heap.size + 1 + 1, 0, none⟩) (by show w.heap.size ≤ w.heap.size + 1 + 1; omega) _).setCell (p := ⟨w.heap.size + 1 + 1 + 1, 0, none⟩) (by show w.heap.size ≤ w.heap.size + 1 + 1 + 1; omega) _, by simpa using h.z⟩
  · exact set_other (set_other h.r (by omega) _) (by omega) _
  · exact set_other (set_other h.s (by omega) _) (by omega) _
  · exact set_other (show (W.setCell ⟨w.heap.size + 1 + 1, 0, none⟩ (.int .i64 q')).heap[w.heap.size + 1 + 1]? = _ from Boxed.set _ (show Boxed W (w.heap.size + 1 + 1) 3 _ from h.q)) (by omega) _
  · exact Boxed.set _ (show Boxed (W.setCell ⟨w.heap.size + 1 + 1, 0, none⟩ (.int .i64 q')) (w.heap.size + 1 + 1 + 1) 4 (.bool b) from set_other h.b (by omega) _)
set_option maxHeartbeats 8000000 in
theorem place_in (n : Nat) (hn : 3 ≤ n) (a : Option Addr) (len cap : Nat) (l : List ItT) (r s : Int) (w : World) (h : InL w a len cap l) :
    CallsIn Fence.wide n Tryz.prog 21 #[.slice a len cap, .int .i64 r, .int .i64 s] w fun e w' => e = .returned (.tuple #[.int .i64 (((plcA l r s).getD 0 : Nat) : Int), .bool (plcA l r s).isSome]) ∧ Below w.heap.size w w' := by
  have h1 : 1 ≤ n := by omega
  obtain ⟨Z, HZ, HAZ, HBZ, HNZ⟩ := noughtsI
  have HLN := hidk h.rd.ln
  have HOK := hidk h.rd.ok
  have hA : ∀ g o, a = some ⟨g, o, none⟩ → 0 < len → g < w.heap.size := fun g o e h0 => by
    obtain ⟨g', o', e', hl⟩ := h.rd.at h0
    rw [e] at e'; cases e'; exact hl
  refine callsIn_of_wp_marks Tryz.func21 rfl trivial ?_ rfl
  simp only [Tryz.ntmps21, List.size_toArray, List.length_cons, List.length_nil, Nat.reduceAdd, Nat.reduceSub, Array.replicate_succ, Array.replicate_zero, List.push_toArray, List.append_toArray, List.nil_append, List.cons_append]
  gi_wp2_with (refine ⟨trivial, ?_⟩; gi_at_call 37; refine (bki_in (n - 1) _ _ _ _).mono ?_; rintro e w' ⟨rfl, rfl⟩)
  have hB0 : Below w.heap.size w (((((w.alloc (.cells #[.int .i64 r] 3)).alloc (.cells #[.int .i64 s] 3)).alloc (.cells #[.int .i64 0] 3)).alloc (.cells #[.bool false] 4)).alloc (.cells #[.slice a len cap] 24)) :=
    (((((Below.refl _ w).alloc (Nat.le_refl _) _).alloc (by simp) _).alloc (by simp; omega) _).alloc (by simp; omega) _).alloc (by simp; omega) _
  have hsz : (((((w.alloc (.cells #[.int .i64 r] 3)).alloc (.cells #[.int .i64 s] 3)).alloc (.cells #[.int .i64 0] 3)).alloc (.cells #[.bool false] 4)).alloc (.cells #[.slice a len cap] 24)).heap.size = w.heap.size + 5 := by simp
  have b0 := (((Boxed.new w 3 (.int .i64 r)).alloc (.cells #[.int .i64 s] 3)).alloc (.cells #[.int .i64 0] 3) |>.alloc (.cells #[.bool false] 4)).alloc (.cells #[.slice a len cap] 24)
  have b1 := ((Boxed.new (w.alloc (.cells #[.int .i64 r] 3)) 3 (.int .i64 s)).alloc (.cells #[.int .i64 0] 3) |>.alloc (.cells #[.bool false] 4)).alloc (.cells #[.slice a len cap] 24)
  have b2 := ((Boxed.new ((w.alloc (.cells #[.int .i64 r] 3)).alloc (.cells #[.int .i64 s] 3)) 3 (.int .i64 0)).alloc (.cells #[.bool false] 4)).alloc (.cells #[.slice a len cap] 24)
  have b3 := (Boxed.new (((w.alloc (.cells #[.int .i64 r] 3)).alloc (.cells #[.int .i64 s] 3)).alloc (.cells #[.int .i64 0] 3)) 4 (.bool false)).alloc (.cells #[.slice a len cap] 24)
  have b4 := Boxed.new ((((w.alloc (.cells #[.int .i64 r] 3)).alloc (.cells #[.int .i64 s] 3)).alloc (.cells #[.int .i64 0] 3)).alloc (.cells #[.bool false] 4)) 24 (.slice a len cap)
  simp only [World.size_alloc] at b0 b1 b2 b3 b4
  obtain ⟨W0, hW0⟩ : ∃ W0, (((((w.alloc (.cells #[.int .i64 r] 3)).alloc (.cells #[.int .i64 s] 3)).alloc (.cells #[.int .i64 0] 3)).alloc (.cells #[.bool false] 4)).alloc (.cells #[.slice a len cap] 24)) = W0 := ⟨_, rfl⟩
  rw [hW0] at b0 b1 b2 b3 b4 hB0 hsz ⊢
  clear hW0
  have hge : w.heap.size + 5 ≤ W0.heap.size := Nat.le_of_eq hsz.symm
  clear hsz
  have F0 : PlcB w r s 0 false W0 := ⟨b0, b1, b2, b3, hB0, hge⟩
  have hRd := h.rd.keep hB0
  refine wpIn_rangeFunc_ownH rfl h1 (gf := 60) (lb := #[.pointer (some ⟨w.heap.size + 1 + 1 + 1 + 1, 0, none⟩)]) rfl trivial (enters_of Tryz.func60 (by kernel_rfl) rfl)
    (bki_stops (n - 1) (by omega) (w.heap.size + 1 + 1 + 1 + 1) w.heap.size a len cap l W0 (by have := h.le; omega) (by omega) (by omega) b4.cell hRd hA) kpE_t (kpE_b (by omega) (by omega) (by omega)) (Below.refl _ _) (fun _ => rfl)
    (fun pre W => PlcB w r s (((plF l r s pre).getD 0 : Nat) : Int) (plF l r s pre).isSome W)
    (fun _ _ _ => False)
    (fun pre X Y row hs hg hr => hs.own (by omega) hg hr)
    (fun cd pre X Y row hs hg hr => hs)
    F0
    (fun x a' W => ∃ Bx, W.heap[Bx]? = some (.cells (icells (itC l x)).toArray 47 (0, 0)) ∧ a' = { tmps := #[.slice a len cap, .int .i64 r, .int .i64 s, undef, .pointer (some ⟨w.heap.size, 0, none⟩), .pointer (some ⟨w.heap.size + 1, 0, none⟩), .int .i64 0, .bool false, .pointer (some ⟨w.heap.size + 1 + 1, 0, none⟩), .pointer (some ⟨w.heap.size + 1 + 1 + 1, 0, none⟩), .int .i64 (x : Int), .pointer (some ⟨Bx, 0, none⟩), .slice a len cap, .func (.func 60) #[] #[.pointer (some ⟨w.heap.size + 1 + 1 + 1 + 1, 0, none⟩)], .int .i64 (x : Int), .agg (icells (itC l x)).toArray, undef, undef, undef, undef, undef, undef, undef, undef, undef, undef, undef, undef, undef, undef, undef], defers := [] })
    (fun x a' _ X Y row hs hg hr => by obtain ⟨Bx, k2, k3⟩ := hs; exact ⟨Bx, cells_stay k2 hg (fun r e => (hr r e).2), k3⟩)
    ?assign ?body ?done ?stop
  case assign =>
    rintro lp pre x W K hF hK
    obtain ⟨U, HU, HSU, H1U, HNU⟩ := item_row (itC l x) (itC_ok HOK.out x)
    have HZU : Hid (Z.size = U.size) := by show _ = _; rw [HNZ.out, HNU.out]
    dsimp only [encI]
    rw [← HU.out] at hK ⊢
    have hls := hF.bl.size
    have l3 := hF.z
    have HFF := hidk hF
    have HKK := hidk hK
    clear hF hK HU HNU HZ HBZ
    simp only [List.zip_toArray, List.foldl_toArray, List.zip_cons_cons, List.zip_nil_right, List.foldl_cons, List.foldl_nil, List.setIfInBounds_toArray, List.set_cons_succ, List.set_cons_zero]
    gi_wp2_with (first
      | (show wpListIn _ _ _ _ _ ({ dst := some 11, op := _, type := _, pos := _, after := _, guard := _ } :: _) _ _; refine wpListIn_new_var rfl 47 rfl Z HAZ.out ?_; intro g9 w1 HM; have HG := hidk HM.out.row; try simp only [Act.put, pS1, pS2, pS3])
      | (refine wpListIn_set_var rfl 47 (.tmp 11) (.tmp 15) rfl g9 U rfl rfl 47 Z HG.out HSU.out HZU.out H1U.out ?_; intro w2 HW; have HB2 : Hid (Below W.heap.size W w2) := HW.out.below W.heap.size W HM.out.below (by rw [HM.out.new]; exact Nat.le_refl _); have HG2 := hidk HW.out.row; try simp only [Act.put, pS1, pS2, pS3])
      | fail)
    exact HKK.out _ _ (KeepsFrom.of_grownBy (grown_of_below11 HB2.out) (fun j e => by cases e)) (kpE_below (by omega) (by omega) (by omega) HB2.out) (HFF.out.keep HB2.out) ⟨g9, HG2.out, rfl⟩
  case body =>
    rintro lp pre x a' W hl0 ⟨rr, hlr⟩ hF ⟨Bx, hBx, rfl⟩ hlt
    have HFF := hidk hF
    have hox := itC_ok HOK.out x
    obtain ⟨U, HU, HSU, H1U, HNU⟩ := item_row (itC l x) hox
    have HRU : Hid (W.rangeAt Bx 0 U.toList) := by
      show World.rangeAt _ _ _ _
      have := range_row (l := U.toList) (W := W) (g := Bx) (t := 47) (fr := (0, 0)) (by rw [HU.out]; simpa using hBx)
      exact this
    obtain ⟨zz, Hzz⟩ : ∃ z, Hid ((itC l x).e.h.h.s = z) := ⟨_, hidk rfl⟩
    have HCZ : Hid (∀ V : World, Below W.heap.size W V → V.cell? ⟨Bx, 7, none⟩ = some (.int .i64 zz)) := fun V hb => by
      have hBx2 := (hb.block _ (heap_lt hBx)).trans hBx
      rw [cell_of_row V Bx 7 _ _ (0, 0) hBx2, ← Hzz.out]
      rfl
    have cR : W.cell? ⟨w.heap.size, 0, none⟩ = some (.int .i64 r) := by rw [cell_of_row W _ 0 _ _ (0, 0) hF.r]; rfl
    obtain ⟨an, Han⟩ : ∃ b, Hid (isAn (itC l x) r = b) := ⟨_, hidk rfl⟩
    have IS : Hid (Calls Tryz.prog 38 #[.agg U, .int .i64 r] W fun e w' => e = .returned (.bool an) ∧ Below W.heap.size W w') := by rw [← Han.out]; exact anIs_any (itC l x) r W U HU
    have HAB : Hid (abA r s (itC l x) = (an && decide (s < zz))) := by show _ = _; unfold abA; rw [Han.out, Hzz.out]
    have HNO : Hid (abA r s (itC l x) = false → plF l r s (pre ++ [x]) = plF l r s pre) := fun hh => by rw [plF_snoc, hh]; rfl
    have HYES : Hid (abA r s (itC l x) = true → plF l r s (pre ++ [x]) = some x) := fun hh => by rw [plF_snoc, if_pos hh]
    have hz3 := hF.z
    have hls := hF.bl.size
    rw [← HU.out] at hBx ⊢
    obtain ⟨q, Hq⟩ : ∃ q : Int, Hid ((((plF l r s pre).getD 0 : Nat) : Int) = q) := ⟨_, hidk rfl⟩
    obtain ⟨b, Hb⟩ : ∃ b, Hid ((plF l r s pre).isSome = b) := ⟨_, hidk rfl⟩
    rw [Hq.out, Hb.out] at HFF
    clear hF HU HNU HZ HBZ H1U HNZ hRd F0 Han Hzz hox
    gi_wp2_with (first
      | (show wpListIn _ _ _ _ _ ({ dst := some 16, op := _, type := _, pos := _, after := _, guard := _ } :: _) _ _; refine wpListIn_mid (by rfl) 47 (.tmp 11) rfl Bx 0 rfl U _ HRU.out Tryz.underlying47 rfl HSU.out ?_; try simp only [Act.put, pS1, pS2, pS3])
      | fail)
    refine ⟨trivial, fun h => (by cases h), ?_⟩
    refine (CallsIn.inRound lp (callsIn_wide.2 IS.out)).mono ?_
    rintro e W1 ⟨rfl, hb1⟩
    have HF1 := hidk (HFF.out.keep hb1)
    have HB1 := hidk hb1
    have cZ := HCZ.out W1 hb1
    have cS : W1.cell? ⟨w.heap.size + 1, 0, none⟩ = some (.int .i64 s) := by rw [cell_of_row W1 _ 0 _ _ (0, 0) HF1.out.s]; rfl
    clear hb1 IS HCZ HRU HFF cR
    have HNN : Hid (abA r s (itC l x) = false → KeepsFrom W0.heap.size W W1 ∧ KpE w.heap.size (w.heap.size + 1 + 1 + 1 + 1) (w.heap.size + 1 + 1 + 1 + 1) W W1 ∧ PlcB w r s (((plF l r s (pre ++ [x])).getD 0 : Nat) : Int) (plF l r s (pre ++ [x])).isSome W1) := fun hh =>
      ⟨KeepsFrom.of_grownBy (grown_of_below11 HB1.out) (fun j e => by cases e), kpE_below (by omega) (by omega) (by omega) HB1.out, by rw [HNO.out hh, Hq.out, Hb.out]; exact HF1.out⟩
    cases an
    · gi_wp2
      exact HNN.out (by rw [HAB.out]; rfl)
    · by_cases h2 : s < zz
      · have d2 : decide (s < zz) = true := decide_eq_true h2
        have c2 : W1.cell? ⟨w.heap.size + 1 + 1, 0, none⟩ = some (.int .i64 q) := by rw [cell_of_row W1 _ 0 _ _ (0, 0) HF1.out.q]; rfl
        have f2 := frozen_of_row W1 (w.heap.size + 1 + 1) 0 _ _ HF1.out.q
        have c3 : W1.cell? ⟨w.heap.size + 1 + 1 + 1, 0, none⟩ = some (.bool b) := by rw [cell_of_row W1 _ 0 _ _ (0, 0) HF1.out.b]; rfl
        have f3 := frozen_of_row W1 (w.heap.size + 1 + 1 + 1) 0 _ _ HF1.out.b
        have FIN := hidk (HF1.out.put (q' := (x : Int)) (b' := true))
        have FK : Hid (KeepsFrom W0.heap.size W ((W1.setCell ⟨w.heap.size + 1 + 1, 0, none⟩ (.int .i64 (x : Int))).setCell ⟨w.heap.size + 1 + 1 + 1, 0, none⟩ (.bool true)) ∧ KpE w.heap.size (w.heap.size + 1 + 1 + 1 + 1) (w.heap.size + 1 + 1 + 1 + 1) W ((W1.setCell ⟨w.heap.size + 1 + 1, 0, none⟩ (.int .i64 (x : Int))).setCell ⟨w.heap.size + 1 + 1 + 1, 0, none⟩ (.bool true))) := by
          have hk := kpE_below (n₀ := w.heap.size) (Bs := w.heap.size + 1 + 1 + 1 + 1) (Bc := w.heap.size + 1 + 1 + 1 + 1) (by omega) (by omega) (by omega) HB1.out
          have hother : ∀ (V : World) (j : Nat) (v : Value), j ≠ w.heap.size + 1 + 1 + 1 + 1 → (V.setCell ⟨j, 0, none⟩ v).heap[w.heap.size + 1 + 1 + 1 + 1]? = V.heap[w.heap.size + 1 + 1 + 1 + 1]? := fun V j v hj => Below.heap_setCell _ _ _ _ (fun e => hj e.symm)
          refine ⟨(KeepsFrom.of_grownBy (grown_of_below11 HB1.out) (fun j e => by cases e)).trans (((KeepsOthers.setCell _ _ _).from _).trans ((KeepsOthers.setCell _ _ _).from _)), ⟨(hk.1.setCell (p := ⟨w.heap.size + 1 + 1, 0, none⟩) (by show w.heap.size ≤ w.heap.size + 1 + 1; omega) _).setCell (p := ⟨w.heap.size + 1 + 1 + 1, 0, none⟩) (by show w.heap.size ≤ w.heap.size + 1 + 1 + 1; omega) _, ?_, ?_⟩⟩
          · rw [hother _ _ _ (by omega), hother _ _ _ (by omega)]; exact hk.2.1
          · rw [hother _ _ _ (by omega), hother _ _ _ (by omega)]; exact hk.2.1
        have HY := hidk (HYES.out (by rw [HAB.out, d2]; rfl))
        clear HNN HNO HYES HAB HF1 HB1 h2
        gi_wp2
        refine ⟨FK.out.1, FK.out.2, ?_⟩
        show PlcB w r s (((plF l r s (pre ++ [x])).getD 0 : Nat) : Int) (plF l r s (pre ++ [x])).isSome _
        rw [HY.out]
        exact FIN.out
      · have d2 : decide (s < zz) = false := decide_eq_false h2
        have HN := hidk (HNN.out (by rw [HAB.out, d2]; rfl))
        clear HNN HNO HYES HAB HF1 HB1 h2
        gi_wp2
        exact HN.out
  case done =>
    rintro D ys W hD rfl hF hK
    have HPL := hidk (plF_all l r s)
    rw [HLN.out] at HPL
    rw [HPL.out] at hF
    obtain ⟨q, Hq⟩ : ∃ q : Int, Hid ((((plcA l r s).getD 0 : Nat) : Int) = q) := ⟨_, hidk rfl⟩
    obtain ⟨b, Hb⟩ : ∃ b, Hid ((plcA l r s).isSome = b) := ⟨_, hidk rfl⟩
    rw [Hq.out, Hb.out] at hF
    have c2 : W.cell? ⟨w.heap.size + 1 + 1, 0, none⟩ = some (.int .i64 q) := by rw [cell_of_row W _ 0 _ _ (0, 0) hF.q]; rfl
    have c3 : W.cell? ⟨w.heap.size + 1 + 1 + 1, 0, none⟩ = some (.bool b) := by rw [cell_of_row W _ 0 _ _ (0, 0) hF.b]; rfl
    have HF := hidk hF
    have HKD := hidk hK
    clear hF hK HPL F0 hRd b0 b1 b2 b3 b4 hB0
    gi_wp2
    refine wpIn_calm13 ?_
    refine wp_region_held_drew (S := (fun V => V.cell? ⟨w.heap.size + 1 + 1, 0, none⟩ = some (.int .i64 q) ∧ V.cell? ⟨w.heap.size + 1 + 1 + 1, 0, none⟩ = some (.bool b))) (by kernel_rfl) ⟨c2, c3⟩ (fun hHeld => ?_)
    refine zW 0 (.int .i64 q) rfl (Or.inl ⟨by rfl, by intro W hSw; have h1 := hSw.1; go_simp⟩) hHeld ?_
    try simp only [Act.put, pS1, pS2, pS3]
    refine zW 1 (.bool b) rfl (Or.inl ⟨by rfl, by intro W hSw; have h1 := hSw.2; go_simp⟩) hHeld ?_
    try simp only [Act.put, pS1, pS2, pS3]
    refine zX 2 (.int .i64 q) rfl hHeld ?_
    try simp only [Act.put, pS1, pS2, pS3]
    refine zX 3 (.bool b) rfl hHeld ?_
    try simp only [Act.put, pS1, pS2, pS3]
    refine wpAnyH_done (by kernel_rfl) ?_ _
    clear hHeld
    gi_wp2
    refine ⟨by simp, .inl ⟨_, _, rfl, run_takeDeferred (show W.drew.heap[D]? = _ from HKD.out), ?_⟩⟩
    have hgd := grownBy_putObj' W.drew D (.deferred none)
    have FE := (show PlcB w r s q b W.drew from HF.out.keep (Below.refl _ _).drew).own (B := W0.heap.size) (by omega) hgd (fun r e => by cases e; exact ⟨hD, _, HKD.out, rfl⟩)
    refine ⟨.tuple #[.int .i64 q, .bool b], ?_, by rw [Hq.out, Hb.out], FE.bl⟩
    simp [results, Tryz.f21, go_sem]
  case stop =>
    rintro D c pre W hD hpre hf hK
    exact hf.elim
theorem anPlace (a : Option Addr) (len cap : Nat) (l : List ItT) (r s : Int) (w : World) (h : InL w a len cap l) :
    Calls Tryz.prog 21 #[.slice a len cap, .int .i64 r, .int .i64 s] w fun e w' => e = .returned (.tuple #[.int .i64 (((plcA l r s).getD 0 : Nat) : Int), .bool (plcA l r s).isSome]) ∧ Below w.heap.size w w' := callsIn_wide.1 (place_in 3 (Nat.le_refl _) a len cap l r s w h)
end Go.Proofs.YtjalebncfnekiaaGreatDoor
/- The program's iterator over a log's leaves. -/
namespace Go.Proofs.YtjalebncfnekiaaGreatDoor
open Go.RowKit Go.Shelf Nums Sums
set_option linter.unusedVariables false
set_option linter.unusedSimpArgs false
set_option maxRecDepth 100000
attribute [local go_sem] Oper.semAt_some
structure Lf where
  d : List UInt8
  ok : d.length = 32
def KpL (n₀ Bs : Nat) (W W' : World) : Prop := Below n₀ W W' ∧ W'.heap[Bs]? = W.heap[Bs]?
end Go.Proofs.YtjalebncfnekiaaGreatDoor
/- The program's firstLeaves. -/
namespace Go.Proofs.YtjalebncfnekiaaGreatDoor
open Go.RowKit Go.Shelf Nums Sums
set_option linter.unusedVariables false
set_option linter.unusedSimpArgs false
set_option maxRecDepth 100000
attribute [local go_sem] Oper.semAt_some
def digsL (pre : List Lf) : List (List UInt8) := pre.map (·.d)
theorem digsL_snoc (pre : List Lf) (x : Lf) : digsL (pre ++ [x]) = digsL pre ++ [x.d] := by simp [digsL]
theorem digsL_length (pre : List Lf) : (digsL pre).length = pre.length := by simp [digsL]
structure FstI (w : World) (B Bf Bs : Nat) (a : Option Addr) (len cap : Nat) (pre : List Lf) (v : Value) (W : World) : Prop where
  f : Boxed W Bf 30 v
  s : Boxed W Bs 24 (.slice a len cap)
  own : W.ownsRow B 25 32 v (digsL pre).length (cellsOf (digsL pre).flatten)
  bl : Below w.heap.size w W
theorem FstI.keep {w : World} {B Bf Bs : Nat} {a : Option Addr} {len cap : Nat} {pre : List Lf} {v : Value} {X Y : World} (h : FstI w B Bf Bs a len cap pre v X) (hb : Below X.heap.size X Y) : FstI w B Bf Bs a len cap pre v Y :=
  ⟨(hb.block _ (heap_lt h.f)).trans h.f, (hb.block _ (heap_lt h.s)).trans h.s, own_below h.own hb, h.bl.trans (hb.mono h.bl.size)⟩
theorem FstI.put {w : World} {B Bf Bs : Nat} {a : Option Addr} {len cap : Nat} {pre : List Lf} {v : Value} {W : World} (h : FstI w B Bf Bs a len cap pre v W) (hB : w.heap.size ≤ B) (hBW : B ≤ W.heap.size) (hw : w.heap.size ≤ Bf) (hne : Bs ≠ Bf) (hlen : pre.length ≤ 1000) (x : Lf) (D : Array Value) (HD : Hid (D = (cellsOf x.d).toArray)) :
    ∃ a' n' c' W1, (Builtin.append_ #[30, 30] 30 #[v, .slice (some ⟨W.heap.size, 0, none⟩) 1 1]).run Tryz.prog (W.alloc (.cells D 25)) = .ok (.slice a' n' c') W1 ∧ W1.cell? ⟨Bf, 0, none⟩ = some v ∧ W1.frozen? ⟨Bf, 0, none⟩ = false ∧
      FstI w B Bf Bs a len cap (pre ++ [x]) (.slice a' n' c') (W1.setCell ⟨Bf, 0, none⟩ (.slice a' n' c')) ∧ KpL w.heap.size Bs W (W1.setCell ⟨Bf, 0, none⟩ (.slice a' n' c')) ∧ ∀ C, KeepsFrom C W (W1.setCell ⟨Bf, 0, none⟩ (.slice a' n' c')) := by
  have hal : Below W.heap.size W (W.alloc (.cells D 25)) := (Below.refl _ _).alloc (Nat.le_refl _) _
  have h2 := h.keep hal
  obtain ⟨v', W1, hrun, hown, hgr⟩ := run_append_digs (W.alloc (.cells D 25)) B v (digsL pre) [x.d] h2.own ⟨W.heap.size, 0, none⟩ 1 1 rfl (.one x.ok) (fun j u hj => by
    rw [add_plain, Nat.zero_add, cell_of_row _ _ j _ 25 (0, 0) (heap_alloc_new W _), HD.out]
    simpa using hj) (by simp; omega) (by rw [digsL_length]; omega)
  obtain ⟨a', n', c', rfl⟩ : ∃ a' n' c', v' = .slice a' n' c' := by
    rcases hown.2 with ⟨h, _⟩ | ⟨g, cp, _, h, _⟩
    · exact ⟨_, _, _, h⟩
    · exact ⟨_, _, _, h⟩
  have nf : some Bf ≠ v.ownBlock := own_other h2.own h2.f (by decide)
  have ns : some Bs ≠ v.ownBlock := own_other h2.own h2.s (by decide)
  have hf1 : Boxed W1 Bf 30 v := (hgr.block Bf (heap_lt h2.f) nf).trans h2.f
  have hs1 : Boxed W1 Bs 24 (.slice a len cap) := (hgr.block Bs (heap_lt h2.s) ns).trans h2.s
  have hbl : ∀ b, v.ownBlock = some b → w.heap.size ≤ b := fun b e => Nat.le_trans hB (h.own.lt b e).1
  have hb1 : Below w.heap.size W W1 := (hal.mono h.bl.size).grown hgr (by have := h.bl.size; have := hal.size; omega) (fun k e => hbl k e)
  have hown' : W1.ownsRow B 25 32 (.slice a' n' c') (digsL (pre ++ [x])).length (cellsOf (digsL (pre ++ [x])).flatten) := by
    rw [digsL_snoc, List.length_append]
    exact hown
  have n2 : Value.ownBlock (.slice a' n' c') ≠ some Bf := fun e => own_other hown' hf1 (by decide) e.symm
  refine ⟨a', n', c', W1, hrun, hf1.cell, hf1.frozen, ⟨hf1.set _, set_other hs1 hne _, hown'.kept (grownBy_setCell' W1 Bf _) (.inr n2), (h.bl.trans hb1).setCell (p := ⟨Bf, 0, none⟩) hw _⟩, ⟨hb1.setCell (p := ⟨Bf, 0, none⟩) hw _, (Below.heap_setCell W1 ⟨Bf, 0, none⟩ _ Bs hne).trans (hs1.trans h.s.symm)⟩, fun C => ?_⟩
  have k1 : KeepsOthers W W1 := ⟨Nat.le_trans hal.size hgr.size, fun k ob hk ho => by
    have e1 := (hal.block k (heap_lt hk)).trans hk
    refine (hgr.block k (heap_lt e1) (fun e => ?_)).trans e1
    rcases h2.own.2 with ⟨e0, _⟩ | ⟨g, cp, cur, e0, _, hgg, _⟩
    · rw [e0] at e; cases e
    · rw [e0] at e
      have : k = g := Option.some.inj e
      subst this
      rw [e1] at hgg; cases hgg; cases ho⟩
  exact (k1.trans (KeepsOthers.setCell _ _ _)).from _
end Go.Proofs.YtjalebncfnekiaaGreatDoor
/- The program's Root, Head, Inclusion and Consistency of logs. -/
namespace Go.Proofs.YtjalebncfnekiaaGreatDoor
open Go.RowKit Nums Sums
set_option linter.unusedVariables false
set_option linter.unusedSimpArgs false
set_option maxRecDepth 100000
end Go.Proofs.YtjalebncfnekiaaGreatDoor
/- The program's Find and isOld. -/
namespace Go.Proofs.YtjalebncfnekiaaGreatDoor
open Go.RowKit Go.Shelf Nums Sums
set_option linter.unusedVariables false
set_option linter.unusedSimpArgs false
set_option maxRecDepth 100000
attribute [local go_sem] Oper.semAt_some
structure FndB (w : World) (s i : Int) (b : Bool) (W : World) : Prop where
  s : W.heap[w.heap.size]? = some (.cells #[.int .i64 s] 3 (0, 0))
  i : W.heap[w.heap.size + 1]? = some (.cells #[.int .i64 i] 3 (0, 0))
  b : W.heap[w.heap.size + 1 + 1]? = some (.cells #[.bool b] 4 (0, 0))
  bl : Below w.heap.size w W
  z : w.heap.size + 5 ≤ W.heap.size
theorem FndB.own {w : World} {s i : Int} {b : Bool} {X Y : World} {row : Option Nat} {B : Nat} (h : FndB w s i b X) (hB : w.heap.size ≤ B) (hg : X.grownBy Y row) (hr : ∀ r, row = some r → B ≤ r ∧ ∃ o : Obj, X.heap[r]? = some o ∧ o.isCells = false) : FndB w s i b Y :=
  ⟨cells_stay h.s hg (fun r e => (hr r e).2), cells_stay h.i hg (fun r e => (hr r e).2), cells_stay h.b hg (fun r e => (hr r e).2), h.bl.grown hg (Nat.le_trans h.bl.size (Nat.le_refl _)) (fun k e => by have := (hr k e).1; omega), Nat.le_trans h.z hg.size⟩
theorem FndB.keep {w : World} {s i : Int} {b : Bool} {X Y : World} (h : FndB w s i b X) (hb : Below X.heap.size X Y) : FndB w s i b Y :=
  ⟨(hb.block _ (heap_lt h.s)).trans h.s, (hb.block _ (heap_lt h.i)).trans h.i, (hb.block _ (heap_lt h.b)).trans h.b, h.bl.trans (hb.mono h.bl.size), Nat.le_trans h.z hb.size⟩
structure OldB (w : World) (V : Array Value) (b : Bool) (W : World) : Prop where
  e : W.heap[w.heap.size]? = some (.cells V 45 (0, 0))
  b : W.heap[w.heap.size + 1]? = some (.cells #[.bool b] 4 (0, 0))
  bl : Below w.heap.size w W
  z : w.heap.size + 4 ≤ W.heap.size
theorem OldB.own {w : World} {V : Array Value} {b : Bool} {X Y : World} {row : Option Nat} {B : Nat} (h : OldB w V b X) (hB : w.heap.size ≤ B) (hg : X.grownBy Y row) (hr : ∀ r, row = some r → B ≤ r ∧ ∃ o : Obj, X.heap[r]? = some o ∧ o.isCells = false) : OldB w V b Y :=
  ⟨cells_stay h.e hg (fun r e => (hr r e).2), cells_stay h.b hg (fun r e => (hr r e).2), h.bl.grown hg (Nat.le_trans h.bl.size (Nat.le_refl _)) (fun k e => by have := (hr k e).1; omega), Nat.le_trans h.z hg.size⟩
theorem OldB.keep {w : World} {V : Array Value} {b : Bool} {X Y : World} (h : OldB w V b X) (hb : Below X.heap.size X Y) : OldB w V b Y :=
  ⟨(hb.block _ (heap_lt h.e)).trans h.e, (hb.block _ (heap_lt h.b)).trans h.b, h.bl.trans (hb.mono h.bl.size), Nat.le_trans h.z hb.size⟩
end Go.Proofs.YtjalebncfnekiaaGreatDoor
/- The program's May of logs. -/
namespace Go.Proofs.YtjalebncfnekiaaGreatDoor
open Go.RowKit Nums Sums
set_option linter.unusedVariables false
set_option linter.unusedSimpArgs false
set_option maxRecDepth 100000
end Go.Proofs.YtjalebncfnekiaaGreatDoor
/- What the calls of package history answer, at this commit of the code. -/
namespace Go.Proofs.YtjalebncfnekiaaGreatDoor
open Go.RowKit Sums Nums
set_option maxRecDepth 100000
set_option linter.unusedVariables false
theorem historyC : HistoryC where
  check := fun a len cap l w h => hCheck entryC a len cap l w h
theorem anchorsC : AnchorsC where
  latest := fun a len cap l r w h hr R HR => anLatest a len cap l r w h R HR
  place := fun a len cap l r s w h hr hs => anPlace a len cap l r s w h
  adm := fun master a len cap l s m p pl pc proof w M C HM HC hm h hs im hp hT => anAdmit historyC headC P5.checkC master a len cap l s m p pl pc proof w M C HM HC hm h hs im hp hT
  apart := fun master s t w M C D HM HC HD hm hs ht hT => anApart headC master s t w M C D HM HC HD hm hs ht hT
end Go.Proofs.YtjalebncfnekiaaGreatDoor
