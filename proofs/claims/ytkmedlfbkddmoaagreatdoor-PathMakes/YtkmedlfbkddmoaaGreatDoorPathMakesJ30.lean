/- Texts of our own that the row of PathMakes leans on, part 30. -/
import Derived.Test.YtkmedlfbkddmoaaGreatDoorPathMakesJ0
import Derived.Test.YtkmedlfbkddmoaaGreatDoorPathMakesJ24
import Derived.Test.YtkmedlfbkddmoaaGreatDoorPathMakesJ29
/- PathMakes. -/
namespace Go.Proofs.YtkmedlfbkddmoaaGreatDoor
open Go.RowKit Nums Sums
set_option linter.unusedVariables false
set_option linter.unusedSimpArgs false
set_option maxRecDepth 100000
theorem below_cellsQ {B b : Nat} {a : World} (hb : B ≤ b) : ∀ (vs : List Value) (o : Nat) (w : World), Below B a w → Below B a (w.setCells b o vs)
  | [], _, _, h => h
  | v :: r, o, w, h => by
    rw [World.setCells]
    exact below_cellsQ hb r (o + 1) _ (h.setCell (by simpa using hb) _)
theorem cells_otherQ {g k : Nat} (hne : k ≠ g) : ∀ (vs : List Value) (o : Nat) (w : World), (w.setCells g o vs).heap[k]? = w.heap[k]?
  | [], _, _ => rfl
  | v :: r, o, w => by
    rw [World.setCells, cells_otherQ hne r (o + 1) _, heap_setCell_other w ⟨g, o, none⟩ k v hne]
theorem built77Q : Tryz.prog.built 24 [(0, .int .u8 77)] = some (cellsOf (77 :: List.replicate 31 0)).toArray := by kernel_rfl
theorem there_same {g n : Nat} {V V' : World} (h : V.there g 0 n) (hg : V'.heap[g]? = V.heap[g]?) : V'.there g 0 n := fun j hj => by
  obtain ⟨h1, h2⟩ := h j hj
  exact ⟨(by rw [World.cell?_of_block (a := ⟨g, 0 + j, none⟩) hg]; exact h1), (by unfold World.frozen? at h2 ⊢; rw [hg]; exact h2)⟩
theorem RoomP.keep {B n cx : Nat} {x : Option Addr} {P : List (List UInt8)} {V V' : World} (h : RoomP B x n V) (hp : LReads V x n cx P) (hb : Below V.heap.size V V') : RoomP B x n V' := by
  rcases h with h0 | ⟨g, e, hB, ht⟩
  · exact .inl h0
  · by_cases h0 : n = 0
    · exact .inl h0
    · obtain ⟨g', o', e', hg⟩ := hp.at (by omega)
      rw [e] at e'
      cases e'
      exact .inr ⟨g, e, hB, there_same ht (hb.block _ hg)⟩
structure HeldJ (w : World) (S : Array Value) (V : World) : Prop where
  b : Below w.heap.size w V
  s : V.heap[w.heap.size]? = some (.cells S 28 (0, 0))
theorem HeldJ.keep {w : World} {S : Array Value} {V V' : World} (h : HeldJ w S V) (hb : Below V.heap.size V V') : HeldJ w S V' :=
  ⟨h.b.trans (hb.mono h.b.size), (hb.block _ (heap_lt h.s)).trans h.s⟩
structure HeldQ (w w2 : World) (S R : Array Value) (g8 : Nat) (x : Option Addr) (n cx : Nat) (P : List (List UInt8)) (V : World) : Prop where
  w : HeldJ w S V
  c : Below w2.heap.size w2 V
  r : V.heap[g8]? = some (.cells R 40 (0, 0))
  p : LReads V x n cx P
  m : RoomP w2.heap.size x n V
theorem HeldQ.keep {w w2 : World} {S R : Array Value} {g8 : Nat} {x : Option Addr} {n cx : Nat} {P : List (List UInt8)} {V V' : World} (h : HeldQ w w2 S R g8 x n cx P V) (hb : Below V.heap.size V V') : HeldQ w w2 S R g8 x n cx P V' :=
  ⟨h.w.keep hb, h.c.trans (hb.mono h.c.size), (hb.block _ (heap_lt h.r)).trans h.r, h.p.keep hb, h.m.keep h.p hb⟩
structure HeldU (w w2 : World) (R : Array Value) (g8 : Nat) (x : Option Addr) (n : Nat) (V : World) : Prop where
  b : Below w.heap.size w V
  c : Below w2.heap.size w2 V
  r : V.heap[g8]? = some (.cells R 40 (0, 0))
  m : RoomP w2.heap.size x n V
set_option maxHeartbeats 32000000 in
theorem pathMakes_of (hc : HistoryC) (hd : HeadC) (pc : PathC) (a : Option Addr) (len cap : Nat) (l : List ItT) (i : Int) (s : SgT) (w : World) (S : Array Value) (HS : Hid (S = (scells s).toArray)) (h : IReads w a len cap l) (hn : a = none → cap = 0) (hm : ∀ x ∈ l, CmI x) (i64 : In64 i) (sin : InS s) (hT : TabH w) (hU : Table 0 w) :
    Calls Tryz.prog 3 #[.slice a len cap, .int .i64 i, .agg S] w fun e w' => e = .returned (.bool true) ∧ Below w.heap.size w w' := by
  have NS : Hid (S.size = 69) := by show _ = _; rw [HS.out]; simp [scells_length s sin.h.d sin.g]
  have HSS : Hid ((Tryz.prog.info? 28).map (·.size) = some S.size) := by show _ = _; rw [sizeS, NS.out]
  have H0 : Hid (HeldJ w S (w.alloc (.cells S 28))) := ⟨(Below.refl _ _).alloc (Nat.le_refl _) _, heap_alloc_new w _⟩
  have hmx : len ≤ 9223372036854775807 := by have := h.mx; unfold maxLen at this; omega
  have PT : Hid (∀ W, Below w.heap.size w W → Calls Tryz.prog 10 #[] W fun e w' => e = .returned (.bool true) ∧ Below W.heap.size W w') := fun W hb => paths_true hc hd pc W (hT.keep hb)
  obtain ⟨b, Hb⟩ : ∃ b, Hid (bigL l = b) := ⟨_, hidk rfl⟩
  have BG : Hid (∀ W, Below w.heap.size w W → Calls Tryz.prog 5 #[.slice a len cap] W fun x w' => x = .returned (.bool b) ∧ W = w') := fun W hb => by
    rw [← Hb.out]
    exact refBig_any a len cap l W (h.keep hb) (fun x hx => (hm x hx).e.t)
  cases b
  · have hin := (show InL w a len cap l from ⟨h, hn, fun x hx => (hm x hx).in (by have := (bigL_false Hb.out).2 x hx; omega), by have := (bigL_false Hb.out).1; have := h.ln; omega⟩)
    have hln := h.ln
    have hle : len ≤ 60 := by have := (bigL_false Hb.out).1; omega
    obtain ⟨ZT, HZT, HAT, HBT, H181⟩ := noughtsSt
    obtain ⟨E, HE⟩ : ∃ E, Hid (mkE l i s = E) := ⟨_, hidk rfl⟩
    obtain ⟨P, HP⟩ : ∃ P, Hid ((mkT l i s).p = P) := ⟨_, hidk rfl⟩
    obtain ⟨n, HN⟩ : ∃ n, Hid (P.length = n) := ⟨_, hidk rfl⟩
    obtain ⟨D, HD, HSD, H1D, H32D⟩ := dig_row' (77 :: List.replicate 31 0) rfl
    have HBD : Hid (Tryz.prog.built 24 [(0, .int .u8 77)] = some D) := by show _ = _; rw [HD.out]; exact built77Q
    have ok : ∀ x cx, OkV (mkV l i s x cx) := fun x cx => (mkV_in x cx i64 hin.its sin).1
    have OWN : Hid (∀ W, Below w.heap.size w W → Calls Tryz.prog 6 #[.slice a len cap] W fun e w' => ∃ (ao : Option Addr) (co : Nat), e = .returned (.slice ao len co) ∧ IReads w' ao len co l ∧ Below W.heap.size W w') := fun W hb => by
      refine (refOwn_any a len cap l W (h.keep hb) hn (by omega)).mono ?_
      rintro e w' ⟨v, rfl, ho, hb2⟩
      obtain ⟨ao, co, rfl, hro, _, _⟩ := IReads.own ho (fun x hx => h.ok x hx)
      exact ⟨ao, co, rfl, hro, hb2⟩
    have MK : Hid (∀ W, Below w.heap.size w W → Calls Tryz.prog 7 #[.slice a len cap, .int .i64 i, .agg S] W fun e w' => ∃ (x : Option Addr) (cx : Nat) (R : Array Value), e = .returned (.tuple #[.agg R, .int .i64 E]) ∧ (Hid (R = (stcells (mkV l i s x cx)).toArray) ∧ Hid ((Tryz.prog.info? 40).map (·.size) = some R.size) ∧ Hid (R.all (·.oneCell') = true) ∧ Hid (ZT.size = R.size)) ∧ LReads w' x n cx P ∧ RoomP W.heap.size x n w' ∧ Below W.heap.size W w') := fun W hb => by
      refine (pc.make a len cap l i s W (hin.keep hb) i64 sin S HS (hT.keep hb)).mono ?_
      rintro e w' ⟨x, cx, rfl, h1, h2, h3, h4⟩
      obtain ⟨R, HR, HSR, H1R, NR⟩ := step_row (mkV l i s x cx) (ok x cx)
      rw [HE.out]
      rw [HP.out, HN.out] at h1 h3
      exact ⟨x, cx, R, by rw [← HR.out], ⟨HR, HSR, H1R, by show _ = _; rw [H181.out, NR.out]⟩, h1, h3, h4⟩
    have RM : Hid (∀ W (ao : Option Addr) (co : Nat), Below w.heap.size w W → IReads W ao len co l → Calls Tryz.prog 8 #[.slice ao len co, .int .i64 i, .agg S] W fun e w' => ∃ (x : Option Addr) (cx : Nat) (R : Array Value), e = .returned (.tuple #[.agg R, .int .i64 E]) ∧ (Hid (R = (stcells (mkV l i s x cx)).toArray) ∧ Hid ((Tryz.prog.info? 40).map (·.size) = some R.size) ∧ Hid (R.all (·.oneCell') = true) ∧ Hid (ZT.size = R.size)) ∧ LReads w' x n cx P ∧ Below W.heap.size W w') := fun W ao co hb hr => by
      refine (rMake ao len co l i s W hr (by omega) sin S HS (hU.keep hb)).mono ?_
      rintro e w' ⟨x, cx, rfl, h1, h4⟩
      obtain ⟨R, HR, HSR, H1R, NR⟩ := step_row (mkV l i s x cx) (ok x cx)
      rw [HE.out]
      rw [HP.out, HN.out] at h1
      exact ⟨x, cx, R, by rw [← HR.out], ⟨HR, HSR, H1R, by show _ = _; rw [H181.out, NR.out]⟩, h1, h4⟩
    have SM : Hid (∀ W (x : Option Addr) (cx : Nat) (y : Option Addr) (cy : Nat) (X Y : Array Value), Hid (X = (stcells (mkV l i s x cx)).toArray) → Hid (Y = (stcells (mkV l i s y cy)).toArray) → LReads W x n cx P → LReads W y n cy P → Calls Tryz.prog 9 #[.agg X, .agg Y] W fun e w' => e = .returned (.bool true) ∧ Below W.heap.size W w') := fun W x cx y cy X Y HX HY h1 h2 => by
      rw [← HN.out, ← HP.out] at h1 h2
      exact rSame (mkV l i s x cx) (mkV l i s y cy) W (ok x cx) (ok y cy) rfl rfl h1 h2 X Y HX HY
    have RS : Hid (∀ W (ao : Option Addr) (co : Nat), IReads W a len cap l → IReads W ao len co l → Calls Tryz.prog 11 #[.slice a len cap, .slice ao len co] W fun e w' => e = .returned (.bool true) ∧ Below W.heap.size W w') := fun W ao co h1 h2 => refSame_any a ao len cap co l W h1 h2
    have CP : Hid (∀ (x : Option Addr) (cx : Nat) (R : Array Value) (g : Nat) (V : World), Hid (R = (stcells (mkV l i s x cx)).toArray) → V.heap[g]? = some (.cells R 40 (0, 0)) → V.cell? ⟨g, 111, none⟩ = some (.slice x n cx)) := fun x cx R g V HR hg => by
      have := range_stp (ok x cx) (st_row HR hg)
      simp only [Nat.zero_add] at this
      rw [← HN.out, ← HP.out]
      exact this
    have HW := hidk h
    clear HS h hn hm hT hU hc hd pc hin Hb HE HP HN HD HZT HBT ok hln NS sin i64
    go_enter Tryz.func3, Tryz.ntmps3
    go_wp2_with fail
    refine (BG.out _ H0.out.b).mono ?_
    rintro e w1 ⟨rfl, rfl⟩
    clear BG
    go_wp2_with fail
    refine (OWN.out _ H0.out.b).mono ?_
    rintro e w2 ⟨ao, co, rfl, hro, hb2⟩
    have H2 := hidk (H0.out.keep hb2)
    have HA2 := hidk (HW.out.keep H2.out.b)
    have HO2 := hidk hro
    have HB2 : Hid (w.heap.size ≤ w2.heap.size) := H2.out.b.size
    clear hro hb2 H0 OWN HW
    go_wp2_with (first
      | ((with_reducible show aD 21 _ _ _ _ _ _ _ _ _ _ _); refine wpList_load_row_w (by rfl) 28 (.tmp 5) rfl w.heap.size rfl 28 S (0, 0) _ H2.out.s Tryz.underlying28 rfl HSS.out ?_; try simp only [Act.put, pS1, pS2, pS3])
      | fail)
    refine (MK.out _ H2.out.b).mono ?_
    rintro e w3 ⟨x, cx, R, rfl, ⟨HR, HSR, H1R, HZR⟩, hp3, hm3, hb3⟩
    have H3 := hidk (H2.out.keep hb3)
    have HP3 := hidk hp3
    have HM3 := hidk hm3
    have HC3 := hidk hb3
    clear hp3 hm3 hb3 H2 MK
    go_wp2_with (first
      | ((with_reducible show aD 8 _ _ _ _ _ _ _ _ _ _ _); refine wpList_new_var rfl 40 rfl ZT HAT.out ?_; intro g8 w4 HM8; have HN8 := hidk HM8.out.row; try simp only [Act.put, pS1, pS2, pS3])
      | (refine wpList_set_var rfl 40 (.tmp 8) (.tmp 23) rfl g8 R rfl rfl 40 ZT HN8.out HSR.out HZR.out H1R.out ?_; intro w5 HW8; have hb5 : Below w3.heap.size w3 w5 := HW8.out.below _ _ HM8.out.below (by rw [HM8.out.new]; exact Nat.le_refl _); have hg8 : w3.heap.size ≤ g8 := (by rw [HM8.out.new]; exact Nat.le_refl _); have L8 := hidk hg8; have H5 : Hid (HeldQ w w2 S R g8 x n cx P w5) := ⟨H3.out.keep hb5, HC3.out.trans (hb5.mono HC3.out.size), HW8.out.row, HP3.out.keep hb5, HM3.out.keep HP3.out hb5⟩; clear hb5 hg8; try simp only [Act.put, pS1, pS2, pS3])
      | ((with_reducible show aD 28 _ _ _ _ _ _ _ _ _ _ _); refine wpList_load_row_w (by rfl) 28 (.tmp 5) rfl w.heap.size rfl 28 S (0, 0) _ H5.out.w.s Tryz.underlying28 rfl HSS.out ?_; try simp only [Act.put, pS1, pS2, pS3])
      | fail)
    have LT : Hid (∀ gp o, x = some ⟨gp, o, none⟩ → 0 < n → gp < g8) := fun gp o e h0 => by
      obtain ⟨g', o', e', hg⟩ := HP3.out.at h0
      rw [e] at e'
      cases e'
      exact Nat.lt_of_lt_of_le hg L8.out
    clear HM8 HN8 HW8 H3 HP3 HM3 HC3 L8
    refine (RM.out _ ao co H5.out.w.b (HO2.out.keep H5.out.c)).mono ?_
    rintro e w6 ⟨y, cy, R2, rfl, ⟨HR2, HSR2, H1R2, HZR2⟩, hp6, hb6⟩
    have H6 := hidk (H5.out.keep hb6)
    have HP6 := hidk hp6
    clear hp6 hb6 H5 RM
    go_wp2_with (first
      | ((with_reducible show aD 10 _ _ _ _ _ _ _ _ _ _ _); refine wpList_new_var rfl 40 rfl ZT HAT.out ?_; intro g10 w7 HM10; have HN10 := hidk HM10.out.row; try simp only [Act.put, pS1, pS2, pS3])
      | (refine wpList_set_var rfl 40 (.tmp 10) (.tmp 30) rfl g10 R2 rfl rfl 40 ZT HN10.out HSR2.out HZR2.out H1R2.out ?_; intro w8 HW10; have hb8 : Below w6.heap.size w6 w8 := HW10.out.below _ _ HM10.out.below (by rw [HM10.out.new]; exact Nat.le_refl _); have H8 := hidk (H6.out.keep hb8); have HR8 := hidk HW10.out.row; have HP8 := hidk (HP6.out.keep hb8); clear hb8; try simp only [Act.put, pS1, pS2, pS3])
      | ((with_reducible show aD 36 _ _ _ _ _ _ _ _ _ _ _); refine wpList_load_row_w (by rfl) 40 (.tmp 8) rfl g8 rfl 40 R (0, 0) _ H8.out.r Tryz.underlying40 rfl HSR.out ?_; try simp only [Act.put, pS1, pS2, pS3])
      | ((with_reducible show aD 37 _ _ _ _ _ _ _ _ _ _ _); refine wpList_load_row_w (by rfl) 40 (.tmp 10) rfl g10 rfl 40 R2 (0, 0) _ HR8.out Tryz.underlying40 rfl HSR2.out ?_; try simp only [Act.put, pS1, pS2, pS3])
      | fail)
    clear HM10 HN10 HW10 H6 HP6
    refine (SM.out _ x cx y cy R R2 HR HR2 H8.out.p HP8.out).mono ?_
    rintro e w9 ⟨rfl, hb9⟩
    have H9 := hidk (H8.out.keep hb9)
    clear hb9 H8 HP8 HR8 SM HR2 HSR2 H1R2 HZR2 HSR H1R HZR HAT
    have hnm : n ≤ 9223372036854775807 := by have := H9.out.p.2.2.2.1; unfold maxLen at this; omega
    go_wp2
    go_loopw [13] (fun v wr => ∃ k : Nat, k ≤ n ∧ v = .int .i64 k ∧ Hid (HeldU w w2 R g8 x n wr)) (fun v _ => n - (intOf v).toNat)
    case atStart => exact ⟨0, by omega, rfl, H9.out.w.b, H9.out.c, H9.out.r, H9.out.m⟩
    case round =>
      obtain ⟨k, hk, rfl, HU⟩ := hrel
      have c111 := CP.out x cx R g8 wr HR HU.out.r
      by_cases hlt : k < n
      · have hdi : decide ((k : Int) < (n : Int)) = true := by rw [decide_eq_true_eq]; omega
        have hw := wrap_int ((k : Int) + 1) (by omega) (by omega)
        obtain ⟨gp, hx, hgp, hth⟩ : ∃ gp, x = some ⟨gp, 0, none⟩ ∧ w2.heap.size ≤ gp ∧ wr.there gp 0 (32 * n) := by
          rcases HU.out.m with h | h
          · omega
          · exact h
        have hlt8 := LT.out gp 0 hx (by omega)
        subst hx
        have HTh : Hid (wr.there gp (32 * k) D.size) := fun j hj => by
          have := hth (32 * k + j) (by rw [H32D.out] at hj; omega)
          rw [Nat.zero_add] at this
          exact this
        have ix := fun W => index_list W gp 0 n cx k .i64 hlt
        simp only [Nat.zero_add] at ix
        have HU2 : Hid (HeldU w w2 R g8 (some ⟨gp, 0, none⟩) n (wr.setCells gp (32 * k) D.toList)) :=
          ⟨below_cellsQ (by have := HB2.out; omega) _ _ _ HU.out.b, below_cellsQ hgp _ _ _ HU.out.c, (cells_otherQ (Nat.ne_of_gt hlt8) D.toList (32 * k) wr).trans HU.out.r, .inr ⟨gp, rfl, hgp, World.there_setCells hth _ _ _⟩⟩
        clear hth HU
        go_wp2_with (first
          | (refine wpList_build_one rfl 24 0 (.const (.int .u8 77)) rfl D _ rfl HBD.out ?_; try simp only [Act.put, pS1, pS2, pS3])
          | (refine wpList_store_mid rfl 24 (.tmp 51) (.tmp 50) rfl gp (32 * k) D rfl rfl HTh.out HSD.out H1D.out ?_; try simp only [Act.put, pS1, pS2, pS3])
          | fail)
        go_roundw
        case rel => exact ⟨k + 1, by omega, by go_num, HU2⟩
        case measure => simp [intOf]; omega
      · obtain rfl : n = k := by omega
        have hdi : decide ((n : Int) < (n : Int)) = false := by rw [decide_eq_false_iff_not]; omega
        clear H9
        go_wp2_with fail
        refine (PT.out _ HU.out.b).mono ?_
        rintro e w10 ⟨rfl, hb10⟩
        have HU3 : Hid (Below w.heap.size w w10 ∧ Below w2.heap.size w2 w10) := ⟨HU.out.b.trans (hb10.mono HU.out.b.size), HU.out.c.trans (hb10.mono HU.out.c.size)⟩
        clear hb10 HU PT c111
        go_wp2_with fail
        refine (RS.out _ ao co (HA2.out.keep HU3.out.2) (HO2.out.keep HU3.out.2)).mono ?_
        rintro e w11 ⟨rfl, hb11⟩
        have HU4 : Hid (Below w.heap.size w w11) := HU3.out.1.trans (hb11.mono HU3.out.1.size)
        clear hb11 HU3
        go_wp2
        go_ret
        exact ⟨rfl, HU4.out⟩
  · clear HS h hn hm hT hU hc hd pc Hb i64 sin NS
    go_enter Tryz.func3, Tryz.ntmps3
    go_wp2_with fail
    refine (BG.out _ H0.out.b).mono ?_
    rintro e w1 ⟨rfl, rfl⟩
    go_wp2
    go_ret
    exact ⟨rfl, H0.out.b⟩
theorem pathMakes_in (hc : HistoryC) (hd : HeadC) (pc : PathC) (a0 : Option Addr) (len0 cap0 : Nat) (z0 : List ItT) (a1 : Int) (z2 : SgT) (w : World) (w0 : IReads w a0 len0 cap0 z0) (n0 : a0 = none → cap0 = 0) (m0 : ∀ x ∈ z0, CmI x) (w1 : In64 a1) (w2 : InS z2) (hT : TabH w) (hU : Table 0 w) :
    Calls Tryz.prog 3 #[.slice a0 len0 cap0, .int .i64 a1, signV z2] w fun e w' => e = .returned (.bool true) ∧ Below w.heap.size w w' :=
  pathMakes_of hc hd pc a0 len0 cap0 z0 a1 z2 w _ (hidk rfl) w0 n0 m0 w1 w2 hT hU
def prevO (ts : List StT) (k : Nat) : Option SgT := if k = 0 then none else (ts[k - 1]?).map (·.h)
theorem prevO_succ (ts : List StT) (k : Nat) (hk : k < ts.length) : prevO ts (k + 1) = some ts[k].h := by
  unfold prevO
  rw [if_neg (by omega), Nat.add_sub_cancel, List.getElem?_eq_getElem hk]
  rfl
theorem way_at {master : List UInt8} {ts : List StT} {k : Nat} (hk : k < ts.length) : wayE master (prevO ts k) (ts.drop k) = if wrgE master ts[k] = 0 then (if linkB (prevO ts k) ts[k] = true then wayE master (prevO ts (k + 1)) (ts.drop (k + 1)) else 130) else wrgE master ts[k] := by
  rw [List.drop_eq_getElem_cons hk, wayE, prevO_succ ts k hk]
theorem wrg_st (master : List UInt8) (x : StT) : wrgE master x = if stE master x = 60 then 130 else stE master x := by
  have hv : verE master x.h = 0 ∨ verE master x.h = 70 ∨ verE master x.h = 72 := by
    unfold verE
    split
    · split
      · exact .inl rfl
      · exact .inr (.inr rfl)
    · exact .inr (.inl rfl)
  have hi := P5.incE_vals x.h.h.d x.h.h.s x.i (leafI x.x) x.p
  unfold wrgE stE
  by_cases h0 : verE master x.h = 0
  · rw [if_pos h0, if_pos h0]
    by_cases h1 : rightI x.x = true
    · rw [if_pos h1, if_pos h1, if_neg (by rcases hi with h | h | h <;> omega)]
    · rw [if_neg h1, if_neg h1, if_pos rfl]
  · rw [if_neg h0, if_neg h0, if_neg (by omega)]
structure HeldW (w : World) (K : Array Value) (V : World) : Prop where
  b : Below w.heap.size w V
  k : V.heap[w.heap.size]? = some (.cells K 48 (0, 0))
theorem HeldW.keep {w : World} {K : Array Value} {V V' : World} (h : HeldW w K V) (hb : Below V.heap.size V V') : HeldW w K V' :=
  ⟨h.b.trans (hb.mono h.b.size), (hb.block _ (heap_lt h.k)).trans h.k⟩
structure HeldR (w : World) (K R : Array Value) (g7 : Nat) (V : World) : Prop where
  w : HeldW w K V
  s : V.heap[g7]? = some (.cells R 40 (0, 0))
theorem HeldR.keep {w : World} {K R : Array Value} {g7 : Nat} {V V' : World} (h : HeldR w K R g7 V) (hb : Below V.heap.size V V') : HeldR w K R g7 V' :=
  ⟨h.w.keep hb, (hb.block _ (heap_lt h.s)).trans h.s⟩
set_option maxHeartbeats 16000000 in
theorem pVerify (hd : HeadC) (en : EntryC) (ck : P5.CheckC) (master : List UInt8) (a : Option Addr) (len cap : Nat) (l : List StV) (w : World) (K : Array Value) (HK : Hid (K = (cellsOf master).toArray)) (hm : master.length = 32) (h : InP w a len cap l) (hT : TabH w) :
    Calls Tryz.prog 14 #[.agg K, .slice a len cap] w fun e w' => e = .returned (.int .i64 (pathE master (l.map StV.t))) ∧ Below w.heap.size w w' := by
  have HSK : Hid ((Tryz.prog.info? 48).map (·.size) = some K.size) := by show _ = _; rw [sizeY, HK.out]; simp [cellsOf_length, hm]
  have H0 : Hid (HeldW w K (w.alloc (.cells K 48))) := ⟨(Below.refl _ _).alloc (Nat.le_refl _) _, heap_alloc_new w _⟩
  have hln := h.rd.ln
  have hle := h.le
  obtain ⟨ts, hts⟩ : ∃ ts, l.map StV.t = ts := ⟨_, rfl⟩
  have HTL : Hid (ts.length = len) := by show _ = _; rw [← hts, List.length_map, hln]
  rw [hts]
  by_cases hc : 1 ≤ len ∧ len ≤ 5
  · have er : decide (1 ≤ len ∧ len ≤ 5) = true := decide_eq_true hc
    have HRI : Hid (∀ W, Calls Tryz.prog 26 #[.slice a len cap] W fun e w' => e = .returned (.bool true) ∧ W = w') := fun W => by
      have := pRight a len cap W (by omega)
      rwa [er] at this
    obtain ⟨PE, HPE⟩ : ∃ z, Hid (pathE master ts = z) := ⟨_, hidk rfl⟩
    rw [HPE.out]
    have HW0 : Hid (wayE master (prevO ts 0) (ts.drop 0) = PE) := by
      show _ = _
      rw [← HPE.out]
      unfold pathE
      rw [if_pos (by rw [HTL.out]; exact hc)]
      rfl
    have HWN : Hid (wayE master (prevO ts len) (ts.drop len) = 0) := by
      show _ = _
      rw [List.drop_of_length_le (by rw [HTL.out]; exact Nat.le_refl _)]
      rfl
    obtain ⟨Z, HZ, HA, HBZ, Z181⟩ := noughtsSt
    obtain ⟨g, o, rfl, hg⟩ := h.rd.at (by omega)
    have hmx : len ≤ 5 := hc.2
    -- what a round meets
    have HRD : Hid (∀ k, k < len → ∃ (R : Array Value) (E : Int), Hid ((Tryz.prog.info? 40).map (·.size) = some R.size) ∧ Hid (Z.size = R.size) ∧ Hid (R.all (·.oneCell') = true) ∧
        Hid (∀ V, Below w.heap.size w V → V.rangeAt g (o + 181 * k) R.toList) ∧
        Hid (∀ V, Below w.heap.size w V → Calls Tryz.prog 27 #[.agg K, .agg R] V fun e w' => e = .returned (.int .i64 E) ∧ Below V.heap.size V w') ∧
        Hid (wayE master (prevO ts k) (ts.drop k) = PE → E ≠ 0 → E ≠ 60 → PE = E) ∧ Hid (wayE master (prevO ts k) (ts.drop k) = PE → E = 60 → PE = 130) ∧
        Hid (wayE master (prevO ts k) (ts.drop k) = PE → E = 0 → k = 0 → wayE master (prevO ts (k + 1)) (ts.drop (k + 1)) = PE) ∧
        Hid (∀ j, k = j + 1 → ∃ (I S : Array Value) (b : Bool), Hid ((Tryz.prog.info? 37).map (·.size) = some I.size) ∧ Hid ((Tryz.prog.info? 28).map (·.size) = some S.size) ∧
          Hid (∀ (V : World) (q : Nat), V.heap[q]? = some (.cells R 40 (0, 0)) → V.rangeAt q 1 I.toList) ∧
          Hid (∀ V, Below w.heap.size w V → V.rangeAt g (o + 181 * j + 112) S.toList) ∧
          Hid (∀ V, Calls Tryz.prog 28 #[.agg I, .agg S] V fun e w' => e = .returned (.bool b) ∧ Below V.heap.size V w') ∧
          Hid (wayE master (prevO ts k) (ts.drop k) = PE → E = 0 → b = true → wayE master (prevO ts (k + 1)) (ts.drop (k + 1)) = PE) ∧ Hid (wayE master (prevO ts k) (ts.drop k) = PE → E = 0 → b = false → PE = 130))) := fun k hk => by
      have hkl : k < l.length := by omega
      have hkt : k < ts.length := by rw [HTL.out]; exact hk
      have etk : ts[k] = l[k].t := by subst hts; rw [List.getElem_map]
      obtain ⟨q1, q2, q3⟩ := h.its _ (List.getElem_mem hkl)
      have ok := h.rd.ok _ (List.getElem_mem hkl)
      obtain ⟨R, HR, HSR, H1R, N181⟩ := step_row l[k] ok
      have hw := way_at (master := master) hkt
      have hwr := wrg_st master ts[k]
      rw [etk] at hw hwr
      have hz : stE master l[k].t = 0 → wrgE master l[k].t = 0 := fun h0 => by rw [hwr, h0]; rfl
      refine ⟨R, stE master l[k].t, HSR, by show _ = _; rw [Z181.out, N181.out], H1R, fun V hb => ?_, fun V hb => ?_, fun e h0 h6 => ?_, fun e h6 => ?_, fun e h0 hk0 => ?_, fun j hj => ?_⟩
      · rw [HR.out]
        exact range_below (h.rd.range k hkl) hb hg
      · exact pStands hd en ck master l[k] V q1 q2 q3 ((h.prf _ (List.getElem_mem hkl)).keep hb) hm K R HK HR (hT.keep hb)
      · rw [hw, hwr, if_neg h6, if_neg h0] at e
        exact e.symm
      · rw [hw, hwr, if_pos h6, if_neg (by omega)] at e
        exact e.symm
      · rw [hw, if_pos (hz h0)] at e
        rw [if_pos (by subst hk0; rfl)] at e
        exact e
      · have hjl : j < l.length := by omega
        have okj := h.rd.ok _ (List.getElem_mem hjl)
        obtain ⟨I, HI, HSI, H1I, N110⟩ := item_row l[k].x ok.x
        obtain ⟨S, HS, HSS, H1S, N69⟩ := sign_row l[j].h okj.d okj.g
        have hp : prevO ts k = some l[j].h := by
          subst hj
          rw [prevO_succ ts j (by rw [HTL.out]; omega)]
          subst hts
          rw [List.getElem_map]
          rfl
        refine ⟨I, S, decide (l[k].x.e.k = 2) && eqSB l[k].x.e.h l[j].h, HSI, HSS, fun V q hv => ?_, fun V hb => ?_, fun V => pAnchor l[k].x l[j].h ok.x okj.d okj.g V I S HI HS, fun e h0 hb => ?_, fun e h0 hb => ?_⟩
        · have := range_stx (st_row HR hv)
          rw [HI.out]
          simpa using this
        · have := range_below (range_sth okj (h.rd.range j hjl)) hb hg
          rw [HS.out]
          exact this
        · rw [hw, if_pos (hz h0), hp, linkB_some] at e
          rw [if_pos (show (decide (l[k].t.x.e.k = 2) && eqSB l[k].t.x.e.h l[j].h) = true from hb)] at e
          exact e
        · rw [hw, if_pos (hz h0), hp, linkB_some] at e
          rw [if_neg (by show ¬ (decide (l[k].x.e.k = 2) && eqSB l[k].x.e.h l[j].h) = true; rw [hb]; decide)] at e
          exact e.symm
    have HIX : Hid (∀ (k : Nat), k < len → ∀ W, (Instr.indexAt 49 (.slice (some ⟨g, o, none⟩) len cap) (.int .i64 (k : Int))).run Tryz.prog W = .ok (.pointer (some ⟨g, o + 181 * k, none⟩)) W) := fun k hk W => index_st W g o len cap k .i64 hk
    clear hd en ck HK hm h hT HZ HBZ Z181 hts er hln hle hc HPE HTL
    go_enter Tryz.func14, Tryz.ntmps14
    go_wp2
    go_step3
    go_wp2_with fail
    refine (HRI.out _).mono ?_
    rintro e w0 ⟨rfl, rfl⟩
    clear HRI
    go_wp2
    go_step3
    go_wp2
    go_loopw [5, 14] (fun v u wr => ∃ k : Nat, k ≤ len ∧ v = .int .i64 0 ∧ u = .int .i64 k ∧ Hid (HeldW w K wr) ∧ Hid (wayE master (prevO ts k) (ts.drop k) = PE)) (fun _ u _ => len - (intOf u).toNat)
    case atStart => exact ⟨0, by omega, rfl, rfl, H0, HW0⟩
    case round =>
      obtain ⟨k, hk, rfl, rfl, HB, HWY⟩ := hrel
      by_cases hlt : k < len
      · obtain ⟨R, E, HSR, HZR, H1R, HRG, HST, HE1, HE2, HE3, HE4⟩ := HRD.out k hlt
        have HRGk := hidk (HRG.out _ HB.out.b)
        have ic := HIX.out k hlt
        have hw1 := wrap_int ((k : Int) + 1) (by omega) (by omega)
        clear HRG
        go_wp2_with (first
          | ((with_reducible show aD 18 _ _ _ _ _ _ _ _ _ _ _); refine wpList_mid_w (by rfl) 40 (.tmp 17) rfl g (o + 181 * k) rfl R _ HRGk.out Tryz.underlying40 rfl HSR.out ?_; try simp only [Act.put, pS1, pS2, pS3])
          | ((with_reducible show aD 7 _ _ _ _ _ _ _ _ _ _ _); refine wpList_new_var rfl 40 rfl Z HA.out ?_; intro g7 w2 HM7; have HN7 := hidk HM7.out.row; try simp only [Act.put, pS1, pS2, pS3])
          | (refine wpList_set_var rfl 40 (.tmp 7) (.tmp 18) rfl g7 R rfl rfl 40 Z HN7.out HSR.out HZR.out H1R.out ?_; intro w3 HW7; have hb7 : Below wr.heap.size wr w3 := HW7.out.below _ _ HM7.out.below (by rw [HM7.out.new]; exact Nat.le_refl _); have H3 : Hid (HeldR w K R g7 w3) := ⟨HB.out.keep hb7, HW7.out.row⟩; clear hb7; try simp only [Act.put, pS1, pS2, pS3])
          | ((with_reducible show aD 19 _ _ _ _ _ _ _ _ _ _ _); refine wpList_load_row_w (by rfl) 48 (.tmp 2) rfl w.heap.size rfl 48 K (0, 0) _ H3.out.w.k Tryz.underlying48 rfl HSK.out ?_; try simp only [Act.put, pS1, pS2, pS3])
          | ((with_reducible show aD 20 _ _ _ _ _ _ _ _ _ _ _); refine wpList_load_row_w (by rfl) 40 (.tmp 7) rfl g7 rfl 40 R (0, 0) _ H3.out.s Tryz.underlying40 rfl HSR.out ?_; try simp only [Act.put, pS1, pS2, pS3])
          | fail)
        refine (HST.out _ H3.out.w.b).mono ?_
        rintro e w4 ⟨rfl, hb4⟩
        have H4 := hidk (H3.out.keep hb4)
        clear hb4 H3 HM7 HN7 HW7 HST HRGk
        by_cases hE0 : E = 0
        · replace HE3 := hidk fun h => HE3.out HWY.out hE0 h
          clear HE1 HE2
          by_cases hk0 : k = 0
          · have HNX := hidk (HE3.out hk0)
            subst hE0
            subst hk0
            clear HE3 HE4 HWY
            go_wp2_with fail
            refine wp_region_held_drew (S := (HeldR w K R g7)) (by kernel_rfl) (H4.out.keep (Below.refl _ _).drew) (fun hHeld => ?_)
            refine zX 0 (.int .i64 0) rfl hHeld ?_
            try simp only [Act.put, pS1, pS2, pS3]
            refine zX 1 (.bool true) rfl hHeld ?_
            try simp only [Act.put, pS1, pS2, pS3]
            refine zX 2 (.bool true) rfl hHeld ?_
            try simp only [Act.put, pS1, pS2, pS3]
            refine zX 3 (.int .i64 0) rfl hHeld ?_
            try simp only [Act.put, pS1, pS2, pS3]
            refine zX 4 (.bool true) rfl hHeld ?_
            try simp only [Act.put, pS1, pS2, pS3]
            refine zX 5 (.bool true) rfl hHeld ?_
            try simp only [Act.put, pS1, pS2, pS3]
            refine zW 6 (undef) rfl (Or.inr ⟨by rfl, rfl⟩) hHeld ?_
            try simp only [Act.put, pS1, pS2, pS3]
            refine zW 7 (undef) rfl (Or.inr ⟨by rfl, rfl⟩) hHeld ?_
            try simp only [Act.put, pS1, pS2, pS3]
            refine zW 8 (undef) rfl (Or.inr ⟨by rfl, rfl⟩) hHeld ?_
            try simp only [Act.put, pS1, pS2, pS3]
            refine zW 9 (undef) rfl (Or.inr ⟨by rfl, rfl⟩) hHeld ?_
            try simp only [Act.put, pS1, pS2, pS3]
            refine zW 10 (undef) rfl (Or.inr ⟨by rfl, rfl⟩) hHeld ?_
            try simp only [Act.put, pS1, pS2, pS3]
            refine zW 11 (undef) rfl (Or.inr ⟨by rfl, rfl⟩) hHeld ?_
            try simp only [Act.put, pS1, pS2, pS3]
            refine zW 12 (undef) rfl (Or.inr ⟨by rfl, rfl⟩) hHeld ?_
            try simp only [Act.put, pS1, pS2, pS3]
            refine zW 13 (undef) rfl (Or.inr ⟨by rfl, rfl⟩) hHeld ?_
            try simp only [Act.put, pS1, pS2, pS3]
            refine zW 14 (undef) rfl (Or.inr ⟨by rfl, rfl⟩) hHeld ?_
            try simp only [Act.put, pS1, pS2, pS3]
            refine zX 15 (.bool true) rfl hHeld ?_
            try simp only [Act.put, pS1, pS2, pS3]
            refine zX 16 (.bool true) rfl hHeld ?_
            try simp only [Act.put, pS1, pS2, pS3]
            refine zX 17 (.bool true) rfl hHeld ?_
            try simp only [Act.put, pS1, pS2, pS3]
            refine wpAnyH_done (by kernel_rfl) ?_ _
            have HX := hidk hHeld.w
            clear hHeld
            go_wp2
            go_roundw
            case rel => exact ⟨1, by omega, rfl, by go_num, HX, HNX⟩
            case measure => simp [intOf]; omega
          · obtain ⟨j, HJ⟩ : ∃ j, Hid (k = j + 1) := ⟨k - 1, by show _ = _; omega⟩
            obtain ⟨I, S, b, HSI, HSS, HRI, HRS, HAN, HY, HN⟩ := HE4.out j HJ.out
            have hjl : j < len := by have := HJ.out; omega
            have hsub : IntKind.i64.wrap ((k : Int) - 1) = (j : Int) := by rw [wrap_int _ (by omega) (by omega)]; have := HJ.out; omega
            have icj := HIX.out j hjl
            have kne : ((k : Int) == 0) = false := by rw [beq_eq_false_iff_ne]; omega
            replace HY := hidk fun h => HY.out HWY.out hE0 h
            replace HN := hidk fun h => HN.out HWY.out hE0 h
            subst hE0
            clear HE3 HE4 HWY hk0 HJ hjl
            go_wp2_with fail
            refine wp_region_held_drew (S := (HeldR w K R g7)) (by kernel_rfl) (H4.out.keep (Below.refl _ _).drew) (fun hHeld => ?_)
            refine zX 0 (.int .i64 0) rfl hHeld ?_
            try simp only [Act.put, pS1, pS2, pS3]
            refine zX 1 (.bool true) rfl hHeld ?_
            try simp only [Act.put, pS1, pS2, pS3]
            refine zX 2 (.bool true) rfl hHeld ?_
            try simp only [Act.put, pS1, pS2, pS3]
            refine zX 3 (.int .i64 (k : Int)) rfl hHeld ?_
            try simp only [Act.put, pS1, pS2, pS3]
            refine zX 4 (.bool false) rfl hHeld ?_
            try simp only [Act.put, pS1, pS2, pS3]
            refine zX 5 (.bool false) rfl hHeld ?_
            try simp only [Act.put, pS1, pS2, pS3]
            refine zX 6 (.pointer (some ⟨g7, 1, none⟩)) rfl hHeld ?_
            try simp only [Act.put, pS1, pS2, pS3]
            refine zW 7 (.agg I) rfl (yieldsIf_mid (by rfl) 37 (.tmp 29) rfl g7 1 rfl I _ (fun V hv => HRI.out V g7 hv.s) Tryz.underlying37 rfl HSI.out) hHeld ?_
            try simp only [Act.put, pS1, pS2, pS3]
            refine zX 8 (.slice (some ⟨g, o, none⟩) len cap) rfl hHeld ?_
            try simp only [Act.put, pS1, pS2, pS3]
            refine zX 9 (.int .i64 (k : Int)) rfl hHeld ?_
            try simp only [Act.put, pS1, pS2, pS3]
            refine zX 10 (.int .i64 (j : Int)) rfl hHeld ?_
            try simp only [Act.put, pS1, pS2, pS3]
            refine zW 11 (.pointer (some ⟨g, o + 181 * j, none⟩)) rfl (Or.inl ⟨by rfl, by intro W hSw; have := icj W; go_simp⟩) hHeld ?_
            try simp only [Act.put, pS1, pS2, pS3]
            refine zX 12 (.pointer (some ⟨g, o + 181 * j + 112, none⟩)) rfl hHeld ?_
            try simp only [Act.put, pS1, pS2, pS3]
            refine zW 13 (.agg S) rfl (yieldsIf_mid (by rfl) 28 (.tmp 35) rfl g (o + 181 * j + 112) rfl S _ (fun V hv => HRS.out V hv.w.b) Tryz.underlying28 rfl HSS.out) hHeld ?_
            try simp only [Act.put, pS1, pS2, pS3]
            refine wpAnyH_ready (rs := [14]) (by kernel_rfl) (by simp) ?_
            refine (AllReadyH.cons (o := { dst := some 37, op := .call { callee := .value (.func 28), args := #[.tmp 30, .tmp 36], argTypes := #[37, 28] }, type := 4, pos := "path.go:35", after := #[zD 7, zD 13, zC 5, zG 5], guard := some (5, false) }) rfl (fun K hK => ?_) AllReadyH.nil)
            go_simp
            refine (HAN.out _).mono ?_
            rintro e w14 ⟨rfl, hb14⟩
            go_wp2_with fail
            refine hK.out _ _ (hHeld.keep hb14) (fun hHeld => ?_)
            clear hK K
            try simp only [Act.put, pS1, pS2, pS3]
            refine zX 15 (.bool b) rfl hHeld ?_
            try simp only [Act.put, pS1, pS2, pS3]
            refine zX 16 (.bool b) rfl hHeld ?_
            try simp only [Act.put, pS1, pS2, pS3]
            refine zX 17 (.bool b) rfl hHeld ?_
            try simp only [Act.put, pS1, pS2, pS3]
            refine wpAnyH_done (by kernel_rfl) ?_ _
            cases b
            · have HPE := hidk (HN.out rfl)
              have HX := hidk hHeld.w
              clear HY HN hHeld
              go_wp2
              try rw [Exit.noGoto_ret]
              go_ret
              exact ⟨by rw [HPE.out]; rfl, HX.out.b⟩
            · have HNX := hidk (HY.out rfl)
              have HX := hidk hHeld.w
              clear HY HN hHeld
              go_wp2
              go_roundw
              case rel => exact ⟨k + 1, by omega, rfl, by go_num, HX, HNX⟩
              case measure => simp [intOf]; omega
        · by_cases hE6 : E = 60
          · have HPE := hidk (HE2.out HWY.out hE6)
            subst hE6
            clear HE1 HE2 HE3 HE4 HWY hE0
            go_wp2_with fail
            refine wp_region_held_drew (S := (HeldR w K R g7)) (by kernel_rfl) (H4.out.keep (Below.refl _ _).drew) (fun hHeld => ?_)
            refine zX 0 (.int .i64 60) rfl hHeld ?_
            try simp only [Act.put, pS1, pS2, pS3]
            refine zX 1 (.bool false) rfl hHeld ?_
            try simp only [Act.put, pS1, pS2, pS3]
            refine zX 2 (.bool false) rfl hHeld ?_
            try simp only [Act.put, pS1, pS2, pS3]
            refine zW 3 (undef) rfl (Or.inr ⟨by rfl, rfl⟩) hHeld ?_
            try simp only [Act.put, pS1, pS2, pS3]
            refine zW 4 (undef) rfl (Or.inr ⟨by rfl, rfl⟩) hHeld ?_
            try simp only [Act.put, pS1, pS2, pS3]
            refine zW 5 (undef) rfl (Or.inr ⟨by rfl, rfl⟩) hHeld ?_
            try simp only [Act.put, pS1, pS2, pS3]
            refine zW 6 (undef) rfl (Or.inr ⟨by rfl, rfl⟩) hHeld ?_
            try simp only [Act.put, pS1, pS2, pS3]
            refine zW 7 (undef) rfl (Or.inr ⟨by rfl, rfl⟩) hHeld ?_
            try simp only [Act.put, pS1, pS2, pS3]
            refine zW 8 (undef) rfl (Or.inr ⟨by rfl, rfl⟩) hHeld ?_
            try simp only [Act.put, pS1, pS2, pS3]
            refine zW 9 (undef) rfl (Or.inr ⟨by rfl, rfl⟩) hHeld ?_
            try simp only [Act.put, pS1, pS2, pS3]
            refine zW 10 (undef) rfl (Or.inr ⟨by rfl, rfl⟩) hHeld ?_
            try simp only [Act.put, pS1, pS2, pS3]
            refine zW 11 (undef) rfl (Or.inr ⟨by rfl, rfl⟩) hHeld ?_
            try simp only [Act.put, pS1, pS2, pS3]
            refine zW 12 (undef) rfl (Or.inr ⟨by rfl, rfl⟩) hHeld ?_
            try simp only [Act.put, pS1, pS2, pS3]
            refine zW 13 (undef) rfl (Or.inr ⟨by rfl, rfl⟩) hHeld ?_
            try simp only [Act.put, pS1, pS2, pS3]
            refine zW 14 (undef) rfl (Or.inr ⟨by rfl, rfl⟩) hHeld ?_
            try simp only [Act.put, pS1, pS2, pS3]
            refine zW 15 (undef) rfl (Or.inr ⟨by rfl, rfl⟩) hHeld ?_
            try simp only [Act.put, pS1, pS2, pS3]
            refine zX 16 (.bool false) rfl hHeld ?_
            try simp only [Act.put, pS1, pS2, pS3]
            refine zX 17 (.bool false) rfl hHeld ?_
            try simp only [Act.put, pS1, pS2, pS3]
            refine wpAnyH_done (by kernel_rfl) ?_ _
            have HX := hidk hHeld.w
            clear hHeld
            go_wp2
            try rw [Exit.noGoto_ret]
            go_ret
            exact ⟨by rw [HPE.out]; rfl, HX.out.b⟩
          · have HPE := hidk (HE1.out HWY.out hE0 hE6)
            have be0 : (E == 0) = false := by rw [beq_eq_false_iff_ne]; exact hE0
            have be6 : (E == 60) = false := by rw [beq_eq_false_iff_ne]; exact hE6
            clear HE1 HE2 HE3 HE4 HWY
            go_wp2_with fail
            refine wp_region_held_drew (S := (HeldR w K R g7)) (by kernel_rfl) (H4.out.keep (Below.refl _ _).drew) (fun hHeld => ?_)
            refine zX 0 (.int .i64 E) rfl hHeld ?_
            try simp only [Act.put, pS1, pS2, pS3]
            refine zX 1 (.bool false) rfl hHeld ?_
            try simp only [Act.put, pS1, pS2, pS3]
            refine zX 2 (.bool false) rfl hHeld ?_
            try simp only [Act.put, pS1, pS2, pS3]
            refine zW 3 (undef) rfl (Or.inr ⟨by rfl, rfl⟩) hHeld ?_
            try simp only [Act.put, pS1, pS2, pS3]
            refine zW 4 (undef) rfl (Or.inr ⟨by rfl, rfl⟩) hHeld ?_
            try simp only [Act.put, pS1, pS2, pS3]
            refine zW 5 (undef) rfl (Or.inr ⟨by rfl, rfl⟩) hHeld ?_
            try simp only [Act.put, pS1, pS2, pS3]
            refine zW 6 (undef) rfl (Or.inr ⟨by rfl, rfl⟩) hHeld ?_
            try simp only [Act.put, pS1, pS2, pS3]
            refine zW 7 (undef) rfl (Or.inr ⟨by rfl, rfl⟩) hHeld ?_
            try simp only [Act.put, pS1, pS2, pS3]
            refine zW 8 (undef) rfl (Or.inr ⟨by rfl, rfl⟩) hHeld ?_
            try simp only [Act.put, pS1, pS2, pS3]
            refine zW 9 (undef) rfl (Or.inr ⟨by rfl, rfl⟩) hHeld ?_
            try simp only [Act.put, pS1, pS2, pS3]
            refine zW 10 (undef) rfl (Or.inr ⟨by rfl, rfl⟩) hHeld ?_
            try simp only [Act.put, pS1, pS2, pS3]
            refine zW 11 (undef) rfl (Or.inr ⟨by rfl, rfl⟩) hHeld ?_
            try simp only [Act.put, pS1, pS2, pS3]
            refine zW 12 (undef) rfl (Or.inr ⟨by rfl, rfl⟩) hHeld ?_
            try simp only [Act.put, pS1, pS2, pS3]
            refine zW 13 (undef) rfl (Or.inr ⟨by rfl, rfl⟩) hHeld ?_
            try simp only [Act.put, pS1, pS2, pS3]
            refine zW 14 (undef) rfl (Or.inr ⟨by rfl, rfl⟩) hHeld ?_
            try simp only [Act.put, pS1, pS2, pS3]
            refine zW 15 (undef) rfl (Or.inr ⟨by rfl, rfl⟩) hHeld ?_
            try simp only [Act.put, pS1, pS2, pS3]
            refine zX 16 (.bool false) rfl hHeld ?_
            try simp only [Act.put, pS1, pS2, pS3]
            refine zX 17 (.bool false) rfl hHeld ?_
            try simp only [Act.put, pS1, pS2, pS3]
            refine wpAnyH_done (by kernel_rfl) ?_ _
            have HX := hidk hHeld.w
            clear hHeld
            go_wp2
            try rw [Exit.noGoto_ret]
            go_ret
            exact ⟨by rw [HPE.out]; rfl, HX.out.b⟩
      · obtain rfl : k = len := by omega
        have HPE : Hid (PE = 0) := by show _ = _; rw [← HWY.out]; exact HWN.out
        clear HWY HRD HIX
        go_wp2
        try rw [Exit.noGoto_ret]
        go_ret
        exact ⟨by rw [HPE.out]; rfl, HB.out.b⟩
  · have er : decide (1 ≤ len ∧ len ≤ 5) = false := decide_eq_false hc
    have HRI : Hid (∀ W, Calls Tryz.prog 26 #[.slice a len cap] W fun e w' => e = .returned (.bool false) ∧ W = w') := fun W => by
      have := pRight a len cap W (by omega)
      rwa [er] at this
    have HPE : Hid (pathE master ts = 130) := by show _ = _; unfold pathE; rw [if_neg (by rw [HTL.out]; exact hc)]
    clear hd en ck HK hm h hT hts er hln hle hc HTL
    go_enter Tryz.func14, Tryz.ntmps14
    go_wp2
    go_step3
    go_wp2_with fail
    refine (HRI.out _).mono ?_
    rintro e w0 ⟨rfl, rfl⟩
    clear HRI
    go_wp2
    try rw [Exit.noGoto_ret]
    go_ret
    exact ⟨by rw [HPE.out]; rfl, H0.out.b⟩
theorem results_rrt {P : Program} {fn : Func} {p1 p2 q : Tmp} {ty1 ty2 : TypeId} (h : fn.results = #[.cell p1 ty1, .cell p2 ty2, .tmp q]) (tmps : Array Value) (w : World) (g1 g2 : Nat) (t1 t2 : TypeId) (c1 c2 : Array Value) (f1 f2 : Nat × Nat) (d1 d2 : TypeDesc)
    (hp1 : tmps.getD p1 undef = .pointer (some ⟨g1, 0, none⟩)) (hp2 : tmps.getD p2 undef = .pointer (some ⟨g2, 0, none⟩)) (h1 : w.heap[g1]? = some (.cells c1 t1 f1)) (h2 : w.heap[g2]? = some (.cells c2 t2 f2))
    (hu1 : P.underlying ty1 = some d1) (hd1 : (match d1 with | .struct _ | .array _ _ => true | _ => false) = true) (hu2 : P.underlying ty2 = some d2) (hd2 : (match d2 with | .struct _ | .array _ _ => true | _ => false) = true) (hi1 : (P.info? ty1).map (·.size) = some c1.size) (hi2 : (P.info? ty2).map (·.size) = some c2.size) :
    (results fn tmps).run P w = .ok (.tuple #[.agg c1, .agg c2, tmps.getD q undef]) w := by
  have hp1' : tmps[p1]?.getD undef = .pointer (some ⟨g1, 0, none⟩) := by simpa using hp1
  have hp2' : tmps[p2]?.getD undef = .pointer (some ⟨g2, 0, none⟩) := by simpa using hp2
  simp [results, h, hp1', hp2', asAddr, run_loadVar_row w g1 t1 ty1 c1 f1 d1 h1 hu1 hd1 hi1, run_loadVar_row w g2 t2 ty2 c2 f2 d2 h2 hu2 hd2 hi2]
structure HeldE (w : World) (g2 g3 : Nat) (V : World) : Prop where
  b : Below w.heap.size w V
  x : ∃ Y : Array Value, V.heap[g2]? = some (.cells Y 37 (0, 0)) ∧ Y.size = 110
  s : ∃ Y : Array Value, V.heap[g3]? = some (.cells Y 28 (0, 0)) ∧ Y.size = 69
  l2 : w.heap.size ≤ g2
  l3 : w.heap.size ≤ g3
  ne : g2 ≠ g3
theorem HeldE.keep {w : World} {g2 g3 : Nat} {V V' : World} (h : HeldE w g2 g3 V) (hb : Below V.heap.size V V') : HeldE w g2 g3 V' where
  b := h.b.trans (hb.mono h.b.size)
  x := by obtain ⟨Y, h1, h2⟩ := h.x; exact ⟨Y, (hb.block _ (heap_lt h1)).trans h1, h2⟩
  s := by obtain ⟨Y, h1, h2⟩ := h.s; exact ⟨Y, (hb.block _ (heap_lt h1)).trans h1, h2⟩
  l2 := h.l2
  l3 := h.l3
  ne := h.ne
theorem HeldE.wrote2 {w : World} {g2 g3 : Nat} {V V' : World} {R : Array Value} (h : HeldE w g2 g3 V) (hw : Wrote g2 R 37 V V') (hR : R.size = 110) : HeldE w g2 g3 V' where
  b := hw.below _ _ h.b h.l2
  x := ⟨R, hw.row, hR⟩
  s := by obtain ⟨Y, h1, h2⟩ := h.s; exact ⟨Y, (hw.other _ h.ne.symm).trans h1, h2⟩
  l2 := h.l2
  l3 := h.l3
  ne := h.ne
theorem HeldE.wrote3 {w : World} {g2 g3 : Nat} {V V' : World} {R : Array Value} (h : HeldE w g2 g3 V) (hw : Wrote g3 R 28 V V') (hR : R.size = 69) : HeldE w g2 g3 V' where
  b := hw.below _ _ h.b h.l3
  x := by obtain ⟨Y, h1, h2⟩ := h.x; exact ⟨Y, (hw.other _ h.ne).trans h1, h2⟩
  s := ⟨R, hw.row, hR⟩
  l2 := h.l2
  l3 := h.l3
  ne := h.ne
theorem HeldE.rng {w : World} {g2 g3 : Nat} {V : World} (h : HeldE w g2 g3 V) {g o : Nat} {l : List Value} (hr : w.rangeAt g o l) (hg : g < w.heap.size) : V.rangeAt g o l := range_below hr h.b hg
set_option maxHeartbeats 8000000 in
theorem pEnds (a : Option Addr) (len cap : Nat) (l : List StV) (w : World) (h : InP w a len cap l) (X S : Array Value) (HX : Hid (X = (icells (endX l)).toArray)) (HS : Hid (S = (scells (endS l)).toArray)) :
    Calls Tryz.prog 15 #[.slice a len cap] w fun e w' => e = .returned (.tuple #[.agg X, .agg S, .int .i64 (endE l)]) ∧ Below w.heap.size w w' := by
  obtain ⟨ZI, HZI, HAI, HBI, Z110⟩ := noughtsI
  obtain ⟨ZS, HZS, HAS, HBS, Z69⟩ := noughtsS
  have hln := h.rd.ln
  have hle := h.le
  by_cases hc : 1 ≤ len ∧ len ≤ 5
  · obtain ⟨m, hm⟩ : ∃ m, len = m + 1 := ⟨len - 1, by omega⟩
    have hc' : 1 ≤ l.length ∧ l.length ≤ 5 := by omega
    have eE : endE l = 0 := by unfold endE; rw [if_pos hc']
    have eX : endX l = (l[0]'(by omega)).x := by
      unfold endX
      rw [if_pos hc', List.headD_eq_head?_getD, List.head?_eq_getElem?, List.getElem?_eq_getElem (by omega)]
      rfl
    have eS : endS l = (l[m]'(by omega)).h := by
      unfold endS
      rw [if_pos hc', List.getLastD_eq_getLast?, List.getLast?_eq_getElem?, show l.length - 1 = m by omega, List.getElem?_eq_getElem (by omega)]
      rfl
    rw [eE]
    have ok0 := h.rd.ok _ (List.getElem_mem (show 0 < l.length by omega))
    have okm := h.rd.ok _ (List.getElem_mem (show m < l.length by omega))
    have N110 : Hid (X.size = 110) := by show _ = _; rw [HX.out, eX]; simp [icells_length _ ok0.x]
    have N69 : Hid (S.size = 69) := by show _ = _; rw [HS.out, eS]; simp [scells_length _ okm.d okm.g]
    have HSX : Hid ((Tryz.prog.info? 37).map (·.size) = some X.size) := by show _ = _; rw [sizeI, N110.out]
    have HSS : Hid ((Tryz.prog.info? 28).map (·.size) = some S.size) := by show _ = _; rw [sizeS, N69.out]
    have H1X : Hid (X.all (·.oneCell') = true) := by show _ = _; rw [HX.out]; exact one_cellsI _
    have H1S : Hid (S.all (·.oneCell') = true) := by show _ = _; rw [HS.out]; exact one_cellsS _
    obtain ⟨g, o, rfl, hg⟩ := h.rd.at (by omega)
    have RX : Hid (w.rangeAt g (o + 1) X.toList) := by
      have := range_stx (h.rd.range 0 (by omega))
      show World.rangeAt _ _ _ _
      rw [HX.out, eX]
      simpa using this
    have RS : Hid (w.rangeAt g (o + 181 * m + 112) S.toList) := by
      have := range_sth okm (h.rd.range m (by omega))
      show World.rangeAt _ _ _ _
      rw [HS.out, eS]
      simpa using this
    have ic0 : ∀ W, (Instr.indexAt 49 (.slice (some ⟨g, o, none⟩) len cap) (.int .i64 0)).run Tryz.prog W = .ok (.pointer (some ⟨g, o, none⟩)) W := fun W => by
      have := index_st W g o len cap 0 .i64 (by omega)
      simpa using this
    have icm : ∀ W, (Instr.indexAt 49 (.slice (some ⟨g, o, none⟩) len cap) (.int .i64 (m : Int))).run Tryz.prog W = .ok (.pointer (some ⟨g, o + 181 * m, none⟩)) W := fun W => index_st W g o len cap m .i64 (by omega)
    have hsub : IntKind.i64.wrap ((len : Int) - 1) = (m : Int) := by rw [wrap_int _ (by omega) (by omega)]; omega
    have RI := hidk (pRight (some ⟨g, o, none⟩) len cap)
    have er : decide (1 ≤ len ∧ len ≤ 5) = true := decide_eq_true hc
    have HRI : Hid (∀ W, Calls Tryz.prog 26 #[.slice (some ⟨g, o, none⟩) len cap] W fun e w' => e = .returned (.bool true) ∧ W = w') := fun W => by
      have := pRight (some ⟨g, o, none⟩) len cap W (by omega)
      rwa [er] at this
    have HZX : Hid (ZI.size = 110) := Z110
    clear h hc hc' HX HS eX eS eE ok0 okm HZI HZS HBI HBS RI er hm hln
    go_enter Tryz.func15, Tryz.ntmps15
    go_wp2_with (first
      | ((with_reducible show aD 2 _ _ _ _ _ _ _ _ _ _ _); refine wpList_new_var rfl 37 rfl ZI HAI.out ?_; intro g2 w1 HM2; skip; try simp only [Act.put, pS1, pS2, pS3])
      | ((with_reducible show aD 3 _ _ _ _ _ _ _ _ _ _ _); refine wpList_new_var rfl 28 rfl ZS HAS.out ?_; intro g3 w2 HM3; have h0 : HeldE w g2 g3 w2 := ⟨HM2.out.below.trans (HM3.out.below.mono HM2.out.below.size), ⟨ZI, (HM3.out.below.block _ (heap_lt HM2.out.row)).trans HM2.out.row, Z110.out⟩, ⟨ZS, HM3.out.row, Z69.out⟩, by rw [HM2.out.new]; exact Nat.le_refl _, by rw [HM3.out.new]; exact HM2.out.below.size, by have := heap_lt HM2.out.row; rw [HM3.out.new]; omega⟩; have H0 := hidk h0; clear h0; try simp only [Act.put, pS1, pS2, pS3])
      | fail)
    refine (HRI.out _).mono ?_
    rintro e w3 ⟨rfl, rfl⟩
    clear HRI HM2 HM3
    go_wp2_with fail
    refine wp_region_held_drew (S := (HeldE w g2 g3)) (by kernel_rfl) (H0.out.keep (Below.refl _ _).drew) (fun hHeld => ?_)
    refine zX 0 (.slice (some ⟨g, o, none⟩) len cap) rfl hHeld ?_
    try simp only [Act.put, pS1, pS2, pS3]
    refine zW 1 (.pointer (some ⟨g, o, none⟩)) rfl (Or.inl ⟨by rfl, by intro W hSw; have := ic0 W; go_simp⟩) hHeld ?_
    try simp only [Act.put, pS1, pS2, pS3]
    refine zX 2 (.pointer (some ⟨g, o + 1, none⟩)) rfl hHeld ?_
    try simp only [Act.put, pS1, pS2, pS3]
    refine zW 3 (.agg X) rfl (yieldsIf_mid (by rfl) 37 (.tmp 12) rfl g (o + 1) rfl X _ (fun V hv => hv.rng RX.out hg) Tryz.underlying37 rfl HSX.out) hHeld ?_
    try simp only [Act.put, pS1, pS2, pS3]
    refine zX 4 (.slice (some ⟨g, o, none⟩) len cap) rfl hHeld ?_
    try simp only [Act.put, pS1, pS2, pS3]
    refine zX 5 (.slice (some ⟨g, o, none⟩) len cap) rfl hHeld ?_
    try simp only [Act.put, pS1, pS2, pS3]
    refine zX 6 (.int .i64 (len : Int)) rfl hHeld ?_
    try simp only [Act.put, pS1, pS2, pS3]
    refine zX 7 (.int .i64 (m : Int)) rfl hHeld ?_
    try simp only [Act.put, pS1, pS2, pS3]
    refine zW 8 (.pointer (some ⟨g, o + 181 * m, none⟩)) rfl (Or.inl ⟨by rfl, by intro W hSw; have := icm W; go_simp⟩) hHeld ?_
    try simp only [Act.put, pS1, pS2, pS3]
    refine zX 9 (.pointer (some ⟨g, o + 181 * m + 112, none⟩)) rfl hHeld ?_
    try simp only [Act.put, pS1, pS2, pS3]
    refine zW 10 (.agg S) rfl (yieldsIf_mid (by rfl) 28 (.tmp 19) rfl g (o + 181 * m + 112) rfl S _ (fun V hv => hv.rng RS.out hg) Tryz.underlying28 rfl HSS.out) hHeld ?_
    try simp only [Act.put, pS1, pS2, pS3]
    refine wpAnyH_ready (rs := [11]) (by kernel_rfl) (by simp) ?_
    refine (AllReadyH.cons (o := { dst := none, op := .store 37 (.tmp 2) (.tmp 13), type := 0, pos := "path.go:54", after := #[zD 3, zP 0, zP 1, zP 2, zP 3, { on := 4, ground := Ground.textOnly Departure.lateStores }, { on := 5, ground := Ground.textOnly Departure.lateStores }, { on := 6, ground := Ground.textOnly Departure.lateStoresUnsure }, { on := 7, ground := Ground.textOnly Departure.lateStores }, { on := 8, ground := Ground.textOnly Departure.lateStores }, { on := 9, ground := Ground.textOnly Departure.lateStores }, { on := 10, ground := Ground.textOnly Departure.lateStores }], guard := none }) rfl (fun K hK => ?_) AllReadyH.nil)
    obtain ⟨Y2, hY2, hY2s⟩ := hHeld.x
    have HY2 := hidk (hY2s.trans N110.out.symm)
    refine step_set_var (by rfl) 37 (.tmp 2) (.tmp 13) rfl g2 X rfl rfl 37 Y2 hY2 HSX.out HY2.out H1X.out ?_
    intro w11 HW2
    have HR2 := hidk HW2.out.row
    refine hK.out _ _ (hHeld.wrote2 HW2.out N110.out) (fun hHeld => ?_)
    clear hK K
    try simp only [Act.put, pS1, pS2, pS3]
    refine wpAnyH_ready (rs := [12]) (by kernel_rfl) (by simp) ?_
    refine (AllReadyH.cons (o := { dst := none, op := .store 28 (.tmp 3) (.tmp 20), type := 0, pos := "path.go:54", after := #[zD 10, zC 11, zP 0, zP 1, zP 2, zP 3, zP 4, zP 5, zP 6, zP 7, zP 8, zP 9, zP 10, zP 11], guard := none }) rfl (fun K hK => ?_) AllReadyH.nil)
    obtain ⟨Y3, hY3, hY3s⟩ := hHeld.s
    have HY3 := hidk (hY3s.trans N69.out.symm)
    refine step_set_var (by rfl) 28 (.tmp 3) (.tmp 20) rfl g3 S rfl rfl 28 Y3 hY3 HSS.out HY3.out H1S.out ?_
    intro w12 HW3
    have HR3 := hidk HW3.out.row
    replace HR2 := hidk ((HW3.out.other g2 hHeld.ne).trans HR2.out)
    have HB12 := hidk (hHeld.wrote3 HW3.out N69.out).b
    refine hK.out _ _ (hHeld.wrote3 HW3.out N69.out) (fun hHeld => ?_)
    clear hK K
    try simp only [Act.put, pS1, pS2, pS3]
    refine zX 13 (.int .i64 0) rfl hHeld ?_
    try simp only [Act.put, pS1, pS2, pS3]
    refine wpAnyH_done (by kernel_rfl) ?_ _
    go_wp2
    refine bodyPost_ret (v := .tuple #[.agg X, .agg S, .int .i64 0]) ?_ rfl ⟨rfl, HB12.out⟩
    exact results_rrt (p1 := 2) (p2 := 3) (q := 4) (ty1 := 37) (ty2 := 28) rfl _ _ g2 g3 37 28 X S (0, 0) (0, 0) _ _ rfl rfl HR2.out HR3.out Tryz.underlying37 rfl Tryz.underlying28 rfl HSX.out HSS.out
  · have hc' : ¬ (1 ≤ l.length ∧ l.length ≤ 5) := by omega
    have eE : endE l = 130 := by unfold endE; rw [if_neg hc']
    have eX : X = ZI := by rw [HX.out, HZI.out]; unfold endX; rw [if_neg hc']
    have eS : S = ZS := by rw [HS.out, HZS.out]; unfold endS; rw [if_neg hc']
    rw [eE]
    clear HX HS
    subst eX
    subst eS
    have HSX : Hid ((Tryz.prog.info? 37).map (·.size) = some X.size) := by show _ = _; rw [sizeI, Z110.out]
    have HSS : Hid ((Tryz.prog.info? 28).map (·.size) = some S.size) := by show _ = _; rw [sizeS, Z69.out]
    have H1X : Hid (X.all (·.oneCell') = true) := by show _ = _; rw [HZI.out]; exact one_cellsI _
    have H1S : Hid (S.all (·.oneCell') = true) := by show _ = _; rw [HZS.out]; exact one_cellsS _
    have er : decide (1 ≤ len ∧ len ≤ 5) = false := decide_eq_false hc
    have HRI : Hid (∀ W, Calls Tryz.prog 26 #[.slice a len cap] W fun e w' => e = .returned (.bool false) ∧ W = w') := fun W => by
      have := pRight a len cap W (by omega)
      rwa [er] at this
    clear h hc hc' eE HZI HZS er hln hle
    go_enter Tryz.func15, Tryz.ntmps15
    go_wp2_with (first
      | ((with_reducible show aD 2 _ _ _ _ _ _ _ _ _ _ _); refine wpList_new_var rfl 37 rfl X HAI.out ?_; intro g2 w1 HM2; skip; try simp only [Act.put, pS1, pS2, pS3])
      | ((with_reducible show aD 3 _ _ _ _ _ _ _ _ _ _ _); refine wpList_new_var rfl 28 rfl S HAS.out ?_; intro g3 w2 HM3; have h0 : HeldE w g2 g3 w2 := ⟨HM2.out.below.trans (HM3.out.below.mono HM2.out.below.size), ⟨X, (HM3.out.below.block _ (heap_lt HM2.out.row)).trans HM2.out.row, Z110.out⟩, ⟨S, HM3.out.row, Z69.out⟩, by rw [HM2.out.new]; exact Nat.le_refl _, by rw [HM3.out.new]; exact HM2.out.below.size, by have := heap_lt HM2.out.row; rw [HM3.out.new]; omega⟩; have H0 := hidk h0; clear h0; try simp only [Act.put, pS1, pS2, pS3])
      | fail)
    refine (HRI.out _).mono ?_
    rintro e w3 ⟨rfl, rfl⟩
    have HR2 := hidk ((HM3.out.below.block _ (heap_lt HM2.out.row)).trans HM2.out.row)
    have HR3 := hidk HM3.out.row
    clear HRI HM2 HM3
    go_wp2_with (first
      | ((with_reducible show aD 8 _ _ _ _ _ _ _ _ _ _ _); refine wpList_build_none rfl 37 rfl X HBI.out ?_; try simp only [Act.put, pS1, pS2, pS3])
      | ((with_reducible show aD 9 _ _ _ _ _ _ _ _ _ _ _); refine wpList_build_none rfl 28 rfl S HBS.out ?_; try simp only [Act.put, pS1, pS2, pS3])
      | (refine wpList_set_var rfl 37 (.tmp 2) (.tmp 8) rfl g2 X rfl rfl 37 X HR2.out HSX.out rfl H1X.out ?_; intro w4 HW2; have HR34 := hidk ((HW2.out.other g3 H0.out.ne.symm).trans HR3.out); have HR24 := hidk HW2.out.row; have HB4 := hidk (HW2.out.below _ _ H0.out.b H0.out.l2); try simp only [Act.put, pS1, pS2, pS3])
      | (refine wpList_set_var rfl 28 (.tmp 3) (.tmp 9) rfl g3 S rfl rfl 28 S HR34.out HSS.out rfl H1S.out ?_; intro w5 HW3; have HR25 := hidk ((HW3.out.other g2 H0.out.ne).trans HR24.out); have HR35 := hidk HW3.out.row; have HB5 := hidk (HW3.out.below _ _ HB4.out H0.out.l3); try simp only [Act.put, pS1, pS2, pS3])
      | fail)
    refine bodyPost_ret (v := .tuple #[.agg X, .agg S, .int .i64 130]) ?_ rfl ⟨rfl, HB5.out⟩
    exact results_rrt (p1 := 2) (p2 := 3) (q := 4) (ty1 := 37) (ty2 := 28) rfl _ _ g2 g3 37 28 X S (0, 0) (0, 0) _ _ rfl rfl HR25.out HR35.out Tryz.underlying37 rfl Tryz.underlying28 rfl HSX.out HSS.out
end Go.Proofs.YtkmedlfbkddmoaaGreatDoor
/- What the calls of package path answer, at this commit of the code. -/
namespace Go.Proofs.YtkmedlfbkddmoaaGreatDoor
open Go.RowKit Nums Sums
set_option linter.unusedVariables false
set_option maxRecDepth 100000
theorem pathC (hc : HistoryC) (en : EntryC) (hd : HeadC) (ck : P5.CheckC) : PathC where
  make := fun a len cap l i s w h hi hs S HS hT => pMake hc en hd a len cap l i s w h hi hs S HS hT
  verify := fun master a len cap l w M HM hm h hT => pVerify hd en ck master a len cap l w M HM hm h hT
  ends := fun a len cap l w h X S HX HS => pEnds a len cap l w h X S HX HS
end Go.Proofs.YtkmedlfbkddmoaaGreatDoor
