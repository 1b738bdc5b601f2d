/- Texts of our own that the row of HistoryFinds leans on, part 31. -/
import Derived.Test.YtgclohgcehhfnaaDoorHistoryFindsJ24
import Derived.Test.YtgclohgcehhfnaaDoorHistoryFindsJ25
import Derived.Test.YtgclohgcehhfnaaDoorHistoryFindsJ27
import Derived.Test.YtgclohgcehhfnaaDoorHistoryFindsJ30

/- HistoryHeads. -/
namespace Go.Proofs.YtgclohgcehhfnaaDoor
open Go.RowKit Nums Sums
set_option linter.unusedVariables false
set_option linter.unusedSimpArgs false
set_option maxRecDepth 100000
/-- A log that came in and is not too big. -/
theorem inL_of {w : World} {a : Option Addr} {len cap : Nat} {l : List ItT} (h : IReads w a len cap l) (hc0 : a = none → cap = 0) (hm : ∀ x ∈ l, CmI x) (hb : bigL l = false) : InL w a len cap l := by
  obtain ⟨h1, h2⟩ := bigL_false hb
  exact ⟨h, hc0, fun x hx => (hm x hx).in (by have := h2 x hx; omega), by have := h.ln; omega⟩
end Go.Proofs.YtgclohgcehhfnaaDoor

/- HistoryFinds. -/
namespace Go.Proofs.YtgclohgcehhfnaaDoor
open Go.RowKit Nums Sums
set_option linter.unusedVariables false
set_option linter.unusedSimpArgs false
set_option maxRecDepth 100000
theorem inc_finds11 (l : List (List UInt8)) (i : Nat) (hi : i < l.length) (hl : l.length ≤ 100000) : P5.incE (root l) (l.length : Nat) i l[i] (incl l i) = 0 := by
  rw [P5.incE_in (root l) l.length i l[i] (incl l i) (by omega) hl hi, P5.mkR_incl l.length l i rfl hi]
  simp
theorem con_finds11 (l : List (List UInt8)) (i : Nat) (hi : i ≤ l.length) (hl : l.length ≤ 100000) : P5.conE i (root (l.take i)) (l.length : Nat) (root l) (goesAt l i) = 0 := by
  unfold goesAt
  by_cases h0 : i = 0
  · subst h0
    rw [if_pos rfl]
    show P5.conE 0 _ _ _ [] = 0
    rw [P5.conE_none _ _ _ _ (by omega), if_pos rfl, if_pos]
    refine ⟨by rw [root_none _ (by simp)], fun e => ?_⟩
    rw [root_none l (by omega), root_none _ (by simp)]
  · rw [if_neg h0, P5.conE_in i _ l.length _ _ (by omega) hi hl, P5.bothR_goes l.length l i true _ rfl (by omega) hi (fun _ => rfl)]
    simp
theorem incE11_inv {l : List ItT} {n i : Int} (h : incE11 l n i = 0) : sizeX l n = 0 ∧ 0 ≤ i ∧ i < n := by
  unfold incE11 at h
  by_cases hs : sizeX l n = 0
  · rw [if_pos hs] at h
    by_cases hi : 0 ≤ i ∧ i < n
    · exact ⟨hs, hi⟩
    · rw [if_neg hi] at h; omega
  · rw [if_neg hs] at h; exact absurd h hs
theorem conE11_inv {l : List ItT} {m n : Int} (h : conE11 l m n = 0) : sizeX l n = 0 ∧ 0 ≤ m ∧ m ≤ n := by
  unfold conE11 at h
  by_cases hs : sizeX l n = 0
  · rw [if_pos hs] at h
    by_cases hi : 0 ≤ m ∧ m ≤ n
    · exact ⟨hs, hi⟩
    · rw [if_neg hi] at h; omega
  · rw [if_neg hs] at h; exact absurd h hs
theorem leavesL_length (l : List ItT) : (leavesL l).length = l.length := by unfold leavesL; rw [List.length_map]
theorem found_inc {l : List ItT} {n i : Int} (h : incE11 l n i = 0) (hi : i.toNat < l.length) (hl : l.length ≤ 100000) : P5.incE (rootO l n) n i (leafO l[i.toNat]) (incL11 l n i) = 0 := by
  obtain ⟨h1, h2, h3⟩ := incE11_inv h
  obtain ⟨hr, h4, h5⟩ := sizeX_vals l n h1
  obtain ⟨N, rfl⟩ : ∃ N : Nat, n = N := ⟨n.toNat, by omega⟩
  obtain ⟨k, rfl⟩ : ∃ k : Nat, i = k := ⟨i.toNat, by omega⟩
  have hN : (leavesL (l.take N)).length = N := by rw [leavesL_length, List.length_take]; omega
  have e1 : rootO l N = root (leavesL (l.take N)) := by unfold rootO; rw [if_pos h1, Int.toNat_natCast]
  have e2 : incL11 l N k = incl (leavesL (l.take N)) k := by unfold incL11; rw [if_pos h, Int.toNat_natCast, Int.toNat_natCast]
  have hk : k < (leavesL (l.take N)).length := by omega
  have e3' : (leavesL (l.take N))[k]? = some (leafO l[(k : Int).toNat]) := by
    unfold leavesL
    rw [List.getElem?_map, List.getElem?_take_of_lt (by omega), List.getElem?_eq_getElem (show k < l.length by omega)]
    simp only [Int.toNat_natCast, Option.map_some, Option.some.injEq]
    unfold leafO
    rw [if_pos (right_item hr (List.getElem_mem _))]
  have e3 : (leavesL (l.take N))[k] = leafO l[(k : Int).toNat] := Option.some.inj ((List.getElem?_eq_getElem hk).symm.trans e3')
  have := inc_finds11 (leavesL (l.take N)) k hk (by omega)
  rw [e3, hN] at this
  rw [e1, e2]
  exact this
theorem found_con {l : List ItT} {m n : Int} (h : conE11 l m n = 0) (hl : l.length ≤ 100000) : sizeX l m = 0 ∧ P5.conE m (rootO l m) n (rootO l n) (conL11 l m n) = 0 := by
  obtain ⟨h1, h2, h3⟩ := conE11_inv h
  obtain ⟨hr, h4, h5⟩ := sizeX_vals l n h1
  obtain ⟨N, rfl⟩ : ∃ N : Nat, n = N := ⟨n.toNat, by omega⟩
  obtain ⟨k, rfl⟩ : ∃ k : Nat, m = k := ⟨m.toNat, by omega⟩
  have hs : sizeX l k = 0 := by unfold sizeX; rw [if_neg (by rw [hr]; decide), if_neg (by omega)]
  refine ⟨hs, ?_⟩
  have hN : (leavesL (l.take N)).length = N := by rw [leavesL_length, List.length_take]; omega
  have e1 : rootO l N = root (leavesL (l.take N)) := by unfold rootO; rw [if_pos h1, Int.toNat_natCast]
  have e0 : rootO l k = root ((leavesL (l.take N)).take k) := by
    unfold rootO
    rw [if_pos hs, Int.toNat_natCast]
    unfold leavesL
    rw [← List.map_take, List.take_take, Nat.min_eq_left (by omega)]
  have e2 : conL11 l k N = goesAt (leavesL (l.take N)) k := by unfold conL11; rw [if_pos h, Int.toNat_natCast, Int.toNat_natCast]
  have := con_finds11 (leavesL (l.take N)) k (by omega) (by omega)
  rw [hN] at this
  rw [e0, e1, e2]
  exact this
/-- What is held: the two proofs. -/
structure HeldP (w : World) (P : List (List UInt8)) (pa : Option Addr) (pl pc : Nat) (Q : List (List UInt8)) (qa : Option Addr) (ql qc : Nat) (V : World) : Prop where
  b : Below w.heap.size w V
  p : LReads V pa pl pc P
  q : LReads V qa ql qc Q
theorem HeldP.keep {w : World} {P : List (List UInt8)} {pa : Option Addr} {pl pc : Nat} {Q : List (List UInt8)} {qa : Option Addr} {ql qc : Nat} {V V' : World} (h : HeldP w P pa pl pc Q qa ql qc V) (hb : Below V.heap.size V V') : HeldP w P pa pl pc Q qa ql qc V' :=
  ⟨h.b.trans (hb.mono h.b.size), h.p.keep hb, h.q.keep hb⟩
set_option maxHeartbeats 16000000 in
theorem historyFinds_of (ck : EntryC) (hc : HistoryC) (cc : P5.CheckC) (a : Option Addr) (len cap : Nat) (l : List ItT) (m n i : Int) (w : World) (h : IReads w a len cap l) (hc0 : a = none → cap = 0) (hm : ∀ x ∈ l, CmI x) (im : In64 m) (inn : In64 n) (ii : In64 i) (hT : TabH w) :
    Calls Tryd.prog 6 #[.slice a len cap, .int .i64 m, .int .i64 n, .int .i64 i] w fun e w' => e = .returned (.bool true) ∧ Below w.heap.size w w' := by
  have BG := hidk (refBig_any a len cap l w h (fun x hx => (hm x hx).e.t))
  obtain ⟨b, Hb⟩ : ∃ b, Hid (bigL l = b) := ⟨_, hidk rfl⟩
  rw [Hb.out] at BG
  cases b
  · have hin := inL_of h hc0 hm Hb.out
    have hln := h.ln
    have hle := hin.le
    obtain ⟨D, HD⟩ : ∃ D : Array Value, Hid (D = (cellsOf (rootO l n)).toArray) := ⟨_, hidk rfl⟩
    obtain ⟨C, HC⟩ : ∃ C : Array Value, Hid (C = (cellsOf (rootO l m)).toArray) := ⟨_, hidk rfl⟩
    obtain ⟨Z, HZ, HA, HS, H1, H32⟩ := noughts27
    have h32 : (rootO l n).length = 32 := rootO_length l n
    have h32c : (rootO l m).length = 32 := rootO_length l m
    have HSD : Hid ((Tryd.prog.info? 26).map (·.size) = some D.size) := by show _ = _; rw [size23, HD.out]; simp [cellsOf_length, h32]
    have HZD : Hid (Z.size = D.size) := by show _ = _; rw [H32.out, HD.out]; simp [cellsOf_length, h32]
    have H1D : Hid (D.all (·.oneCell') = true) := by show _ = _; rw [HD.out]; exact cellsOf_all _
    have HSC : Hid ((Tryd.prog.info? 26).map (·.size) = some C.size) := by show _ = _; rw [size23, HC.out]; simp [cellsOf_length, h32c]
    have HZC : Hid (Z.size = C.size) := by show _ = _; rw [H32.out, HC.out]; simp [cellsOf_length, h32c]
    have H1C : Hid (C.all (·.oneCell') = true) := by show _ = _; rw [HC.out]; exact cellsOf_all _
    obtain ⟨P, HP⟩ : ∃ P, Hid (incL11 l n i = P) := ⟨_, hidk rfl⟩
    obtain ⟨Q, HQ⟩ : ∃ Q, Hid (conL11 l m n = Q) := ⟨_, hidk rfl⟩
    obtain ⟨pl, Hpl⟩ : ∃ k, Hid (P.length = k) := ⟨_, hidk rfl⟩
    obtain ⟨ql, Hql⟩ : ∃ k, Hid (Q.length = k) := ⟨_, hidk rfl⟩
    have C1 := hidk (hc.incl a len cap l n i w hin inn ii hT)
    have C2 : Hid (∀ W, Below w.heap.size w W → Calls Tryd.prog 18 #[.slice a len cap, .int .i64 m, .int .i64 n] W fun e w' => ∃ x cx, e = .returned (.tuple #[.slice x (conL11 l m n).length cx, .int .i64 (conE11 l m n)]) ∧ LReads w' x (conL11 l m n).length cx (conL11 l m n) ∧ Below W.heap.size W w') := fun W hb => hc.cons a len cap l m n W (hin.keep hb) im inn (hT.keep hb)
    have C3 : Hid (∀ W, Below w.heap.size w W → Calls Tryd.prog 10 #[.slice a len cap, .int .i64 n] W fun e w' => e = .returned (.tuple #[.agg D, .int .i64 (sizeX l n)]) ∧ Below W.heap.size W w') := fun W hb => hc.root a len cap l n W (hin.keep hb) inn D HD (hT.keep hb)
    have C4 : Hid (∀ W, Below w.heap.size w W → Calls Tryd.prog 10 #[.slice a len cap, .int .i64 m] W fun e w' => e = .returned (.tuple #[.agg C, .int .i64 (sizeX l m)]) ∧ Below W.heap.size W w') := fun W hb => hc.root a len cap l m W (hin.keep hb) im C HC (hT.keep hb)
    have FT : Hid (∀ W, Below w.heap.size w W → Calls Tryd.prog 22 #[] W fun e w' => e = .returned (.bool true) ∧ Below W.heap.size W w') := fun W hb => finds_true hc W
    have RT : Hid (∀ W, Below w.heap.size w W → Calls Tryd.prog 14 #[] W fun e w' => e = .returned (.bool true) ∧ Below W.heap.size W w') := fun W hb => roots_true ck hc W (hT.keep hb)
    rw [HP.out, Hpl.out] at C1
    rw [HQ.out, Hql.out] at C2
    have CC : Hid (conE11 l m n = 0 → sizeX l n = 0 ∧ sizeX l m = 0 ∧ ∀ (W : World) (qa : Option Addr) (qc : Nat), Below w.heap.size w W → LReads W qa ql qc Q → Calls Tryd.prog 27 #[.int .i64 m, .agg C, .int .i64 n, .agg D, .slice qa ql qc] W fun e w' => e = .returned (.int .i64 0) ∧ Below W.heap.size W w') := fun he => by
      obtain ⟨e1, e2⟩ := found_con he (by omega)
      refine ⟨(conE11_inv he).1, e1, fun W qa qc hb hq => ?_⟩
      have := cc.consistent m (rootO l m) n (rootO l n) Q qa ql qc W C D HC HD h32c h32 im inn hq (hT.keep hb)
      rwa [← HQ.out, e2] at this
    have CI : Hid (incE11 l n i = 0 → sizeX l n = 0 ∧ 0 ≤ i ∧ i < len ∧ ∃ (g o k : Nat) (X E : Array Value), a = some ⟨g, o, none⟩ ∧ i = (k : Int) ∧ k < len ∧ (∀ W, Below w.heap.size w W → W.rangeAt g (o + 110 * k) X.toList) ∧ (Tryd.prog.info? 50).map (·.size) = some X.size ∧ (Tryd.prog.info? 26).map (·.size) = some E.size ∧ Z.size = E.size ∧ E.all (·.oneCell') = true ∧ (∀ W, Below w.heap.size w W → Calls Tryd.prog 25 #[.agg X] W fun e w' => e = .returned (.tuple #[.agg E, .int .i64 0]) ∧ Below W.heap.size W w') ∧
        ∀ (W : World) (pa : Option Addr) (pc : Nat), Below w.heap.size w W → LReads W pa pl pc P → Calls Tryd.prog 26 #[.agg D, .int .i64 n, .int .i64 i, .agg E, .slice pa pl pc] W fun e w' => e = .returned (.int .i64 0) ∧ Below W.heap.size W w') := fun he => by
      obtain ⟨e1, e2, e3⟩ := incE11_inv he
      obtain ⟨hr, e4, e5⟩ := sizeX_vals l n e1
      have hk : i.toNat < l.length := by omega
      obtain ⟨g, o, rfl, hg⟩ := h.at (by omega)
      have hix : InI l[i.toNat] := hin.its _ (List.getElem_mem hk)
      have hrx := right_item hr (List.getElem_mem hk)
      have h32e := leafO_len l[i.toNat]
      refine ⟨e1, e2, by omega, g, o, i.toNat, (icells l[i.toNat]).toArray, (cellsOf (leafO l[i.toNat])).toArray, rfl, by omega, by omega, fun W hb => ?_, ?_, ?_, ?_, cellsOf_all _, fun W hb => ?_, fun W pa pc hb hp => ?_⟩
      · simpa using (h.keep hb).range i.toNat hk
      · rw [sizeI]; simp [icells_length _ hix.e.ok]
      · rw [size23]; simp [cellsOf_length, h32e]
      · rw [H32.out]; simp [cellsOf_length, h32e]
      · have := ck.leaf l[i.toNat] hix W (icells l[i.toNat]).toArray (cellsOf (leafO l[i.toNat])).toArray (hidk rfl) (hT.keep hb) (hidk rfl)
        rwa [show iE l[i.toNat] = 0 by unfold iE; rw [if_pos hrx]] at this
      · have := cc.included (rootO l n) n i (leafO l[i.toNat]) P pa pl pc W D (cellsOf (leafO l[i.toNat])).toArray HD (hidk rfl) h32 h32e inn ii hp (hT.keep hb)
        rwa [← HP.out, found_inc he hk (by omega)] at this
    obtain ⟨ie, Hie⟩ : ∃ z, Hid (incE11 l n i = z) := ⟨_, hidk rfl⟩
    obtain ⟨fe, Hfe⟩ : ∃ z, Hid (conE11 l m n = z) := ⟨_, hidk rfl⟩
    obtain ⟨s1, Hs1⟩ : ∃ z, Hid (sizeX l n = z) := ⟨_, hidk rfl⟩
    obtain ⟨s2, Hs2⟩ : ∃ z, Hid (sizeX l m = z) := ⟨_, hidk rfl⟩
    rw [Hie.out] at C1 CI
    rw [Hfe.out] at C2 CC
    rw [Hs1.out] at C3 CC CI
    rw [Hs2.out] at C4 CC
    clear ck hc cc h hc0 hm im inn ii hT Hb hin hln HD HC HZ h32 h32c HP HQ Hpl Hql Hie Hfe Hs1 Hs2
    by_cases hie : ie = 0
    · obtain ⟨q1, i0, i1, g, o, k, X, E, ha, hik, hkl, RX0, hsx, hse, hze, h1e, LF0, IN0⟩ := CI.out hie
      have RX := hidk RX0
      have HSX := hidk hsx
      have HSE := hidk hse
      have HZE := hidk hze
      have H1E := hidk h1e
      have LF := hidk LF0
      have IN := hidk IN0
      have d1 : decide (i < 0) = false := decide_eq_false (by omega)
      have d2 : decide ((len : Int) ≤ i) = false := decide_eq_false (by omega)
      have ix := fun W => index_item W g o len cap k .i64 hkl
      clear CI RX0 hsx hse hze h1e LF0 IN0
      subst hie
      subst q1
      subst ha
      rw [← hik] at ix
      clear hik i0 i1
      by_cases hfe : fe = 0
      · obtain ⟨q1, q2, CN0⟩ := CC.out hfe
        have CN := hidk CN0
        clear CC CN0
        subst hfe
        clear q1
        subst q2
        go_enter Tryd.func6, Tryd.ntmps6
        go_wp2_with fail
        refine BG.out.mono ?_
        rintro e w1 ⟨rfl, rfl⟩
        go_wp2_with fail
        refine C1.out.mono ?_
        rintro e v2 ⟨pa, pc, rfl, hp, hb2⟩
        have HP2 := hidk hp
        have HB2 := hidk hb2
        clear hp hb2
        go_wp2_with fail
        refine (C2.out _ HB2.out).mono ?_
        rintro e v3 ⟨qa, qc, rfl, hq, hb3⟩
        have H3 : Hid (HeldP w P pa pl pc Q qa ql qc v3) := ⟨HB2.out.trans (hb3.mono HB2.out.size), HP2.out.keep hb3, hq⟩
        clear hq hb3 HP2
        go_wp2_with fail
        refine (C3.out _ H3.out.b).mono ?_
        rintro e v4 ⟨rfl, hbj⟩
        have H4 := hidk (H3.out.keep hbj)
        clear hbj
        go_wp2_with (first
          | (show wpList _ _ _ ({ dst := some 13, op := _, type := _, pos := _, after := _, guard := _ } :: _) _ _; refine wpList_new_var rfl 26 rfl Z HA.out ?_; intro g13 u5 HM; have HG := hidk HM.out.row; try simp only [Act.put, List.setIfInBounds_toArray, List.set_cons_zero, List.set_cons_succ])
          | (refine wpList_set_var rfl 26 (.tmp 13) (.tmp 39) rfl g13 D rfl rfl 26 Z HG.out HSD.out HZD.out H1D.out ?_; intro v5 HW; have hbj : Below v4.heap.size v4 v5 := HW.out.below _ _ HM.out.below (by rw [HM.out.new]; exact Nat.le_refl _); have G13_5 := hidk HW.out.row; have H5 := hidk (H4.out.keep hbj); clear hbj HM HG HW; try simp only [Act.put, List.setIfInBounds_toArray, List.set_cons_zero, List.set_cons_succ])
          | fail)
        refine (C4.out _ H5.out.b).mono ?_
        rintro e v6 ⟨rfl, hbj⟩
        have H6 := hidk (H5.out.keep hbj)
        have G13_6 := hidk ((hbj.block _ (heap_lt G13_5.out)).trans G13_5.out)
        clear hbj
        go_wp2_with (first
          | (show wpList _ _ _ ({ dst := some 15, op := _, type := _, pos := _, after := _, guard := _ } :: _) _ _; refine wpList_new_var rfl 26 rfl Z HA.out ?_; intro g15 u7 HM; have HG := hidk HM.out.row; try simp only [Act.put, List.setIfInBounds_toArray, List.set_cons_zero, List.set_cons_succ])
          | (refine wpList_set_var rfl 26 (.tmp 15) (.tmp 45) rfl g15 C rfl rfl 26 Z HG.out HSC.out HZC.out H1C.out ?_; intro v7 HW; have hbj : Below v6.heap.size v6 v7 := HW.out.below _ _ HM.out.below (by rw [HM.out.new]; exact Nat.le_refl _); have G15_7 := hidk HW.out.row; have H7 := hidk (H6.out.keep hbj); have G13_7 := hidk ((hbj.block _ (heap_lt G13_6.out)).trans G13_6.out); have HRX := hidk (RX.out _ H7.out.b); clear hbj HM HG HW; try simp only [Act.put, List.setIfInBounds_toArray, List.set_cons_zero, List.set_cons_succ])
          | (show wpList _ _ _ ({ dst := some 65, op := _, type := _, pos := _, after := _, guard := _ } :: _) _ _; refine wpList_mid_w (by rfl) 50 (.tmp 64) rfl g (o + 110 * k) rfl X _ HRX.out Tryd.underlying50 rfl HSX.out ?_; try simp only [Act.put, List.setIfInBounds_toArray, List.set_cons_zero, List.set_cons_succ])
          | fail)
        refine (LF.out _ H7.out.b).mono ?_
        rintro e v8 ⟨rfl, hbj⟩
        have H8 := hidk (H7.out.keep hbj)
        have G13_8 := hidk ((hbj.block _ (heap_lt G13_7.out)).trans G13_7.out)
        have G15_8 := hidk ((hbj.block _ (heap_lt G15_7.out)).trans G15_7.out)
        clear hbj
        go_wp2_with (first
          | (show wpList _ _ _ ({ dst := some 17, op := _, type := _, pos := _, after := _, guard := _ } :: _) _ _; refine wpList_new_var rfl 26 rfl Z HA.out ?_; intro g17 u9 HM; have HG := hidk HM.out.row; try simp only [Act.put, List.setIfInBounds_toArray, List.set_cons_zero, List.set_cons_succ])
          | (refine wpList_set_var rfl 26 (.tmp 17) (.tmp 67) rfl g17 E rfl rfl 26 Z HG.out HSE.out HZE.out H1E.out ?_; intro v9 HW; have hbj : Below v8.heap.size v8 v9 := HW.out.below _ _ HM.out.below (by rw [HM.out.new]; exact Nat.le_refl _); have G17_9 := hidk HW.out.row; have H9 := hidk (H8.out.keep hbj); have G13_9 := hidk ((hbj.block _ (heap_lt G13_8.out)).trans G13_8.out); have G15_9 := hidk ((hbj.block _ (heap_lt G15_8.out)).trans G15_8.out); clear hbj HM HG HW; try simp only [Act.put, List.setIfInBounds_toArray, List.set_cons_zero, List.set_cons_succ])
          | (show wpList _ _ _ ({ dst := some 76, op := _, type := _, pos := _, after := _, guard := _ } :: _) _ _; refine wpList_load_row_w (by rfl) 26 (.tmp 13) rfl g13 rfl 26 D (0, 0) _ G13_9.out Tryd.underlying26 rfl HSD.out ?_; try simp only [Act.put, List.setIfInBounds_toArray, List.set_cons_zero, List.set_cons_succ])
          | (show wpList _ _ _ ({ dst := some 79, op := _, type := _, pos := _, after := _, guard := _ } :: _) _ _; refine wpList_load_row_w (by rfl) 26 (.tmp 17) rfl g17 rfl 26 E (0, 0) _ G17_9.out Tryd.underlying26 rfl HSE.out ?_; try simp only [Act.put, List.setIfInBounds_toArray, List.set_cons_zero, List.set_cons_succ])
          | fail)
        refine (IN.out _ _ _ H9.out.b H9.out.p).mono ?_
        rintro e v10 ⟨rfl, hbj⟩
        have H10 := hidk (H9.out.keep hbj)
        have G13_10 := hidk ((hbj.block _ (heap_lt G13_9.out)).trans G13_9.out)
        have G15_10 := hidk ((hbj.block _ (heap_lt G15_9.out)).trans G15_9.out)
        clear hbj
        go_wp2_with (first
          | (show wpList _ _ _ ({ dst := some 95, op := _, type := _, pos := _, after := _, guard := _ } :: _) _ _; refine wpList_load_row_w (by rfl) 26 (.tmp 15) rfl g15 rfl 26 C (0, 0) _ G15_10.out Tryd.underlying26 rfl HSC.out ?_; try simp only [Act.put, List.setIfInBounds_toArray, List.set_cons_zero, List.set_cons_succ])
          | (show wpList _ _ _ ({ dst := some 97, op := _, type := _, pos := _, after := _, guard := _ } :: _) _ _; refine wpList_load_row_w (by rfl) 26 (.tmp 13) rfl g13 rfl 26 D (0, 0) _ G13_10.out Tryd.underlying26 rfl HSD.out ?_; try simp only [Act.put, List.setIfInBounds_toArray, List.set_cons_zero, List.set_cons_succ])
          | fail)
        refine (CN.out _ _ _ H10.out.b H10.out.q).mono ?_
        rintro e v11 ⟨rfl, hbj⟩
        have H11 := hidk (H10.out.keep hbj)
        clear hbj
        go_wp2_with fail
        refine (FT.out _ H11.out.b).mono ?_
        rintro e v12 ⟨rfl, hbj⟩
        have H12 := hidk (H11.out.keep hbj)
        clear hbj
        go_wp2_with fail
        refine (RT.out _ H12.out.b).mono ?_
        rintro e v13 ⟨rfl, hbj⟩
        have H13 := hidk (H12.out.keep hbj)
        clear hbj
        go_wp2
        go_ret
        exact ⟨rfl, H13.out.b⟩
      · have bf : (fe == 0) = false := by simp [hfe]
        have bfd : decide (fe = 0) = false := decide_eq_false hfe
        clear CC
        go_enter Tryd.func6, Tryd.ntmps6
        go_wp2_with fail
        refine BG.out.mono ?_
        rintro e w1 ⟨rfl, rfl⟩
        go_wp2_with fail
        refine C1.out.mono ?_
        rintro e v2 ⟨pa, pc, rfl, hp, hb2⟩
        have HP2 := hidk hp
        have HB2 := hidk hb2
        clear hp hb2
        go_wp2_with fail
        refine (C2.out _ HB2.out).mono ?_
        rintro e v3 ⟨qa, qc, rfl, hq, hb3⟩
        have H3 : Hid (HeldP w P pa pl pc Q qa ql qc v3) := ⟨HB2.out.trans (hb3.mono HB2.out.size), HP2.out.keep hb3, hq⟩
        clear hq hb3 HP2
        go_wp2_with fail
        refine (C3.out _ H3.out.b).mono ?_
        rintro e v4 ⟨rfl, hbj⟩
        have H4 := hidk (H3.out.keep hbj)
        clear hbj
        go_wp2_with (first
          | (show wpList _ _ _ ({ dst := some 13, op := _, type := _, pos := _, after := _, guard := _ } :: _) _ _; refine wpList_new_var rfl 26 rfl Z HA.out ?_; intro g13 u5 HM; have HG := hidk HM.out.row; try simp only [Act.put, List.setIfInBounds_toArray, List.set_cons_zero, List.set_cons_succ])
          | (refine wpList_set_var rfl 26 (.tmp 13) (.tmp 39) rfl g13 D rfl rfl 26 Z HG.out HSD.out HZD.out H1D.out ?_; intro v5 HW; have hbj : Below v4.heap.size v4 v5 := HW.out.below _ _ HM.out.below (by rw [HM.out.new]; exact Nat.le_refl _); have G13_5 := hidk HW.out.row; have H5 := hidk (H4.out.keep hbj); clear hbj HM HG HW; try simp only [Act.put, List.setIfInBounds_toArray, List.set_cons_zero, List.set_cons_succ])
          | fail)
        refine (C4.out _ H5.out.b).mono ?_
        rintro e v6 ⟨rfl, hbj⟩
        have H6 := hidk (H5.out.keep hbj)
        have G13_6 := hidk ((hbj.block _ (heap_lt G13_5.out)).trans G13_5.out)
        clear hbj
        go_wp2_with (first
          | (show wpList _ _ _ ({ dst := some 15, op := _, type := _, pos := _, after := _, guard := _ } :: _) _ _; refine wpList_new_var rfl 26 rfl Z HA.out ?_; intro g15 u7 HM; have HG := hidk HM.out.row; try simp only [Act.put, List.setIfInBounds_toArray, List.set_cons_zero, List.set_cons_succ])
          | (refine wpList_set_var rfl 26 (.tmp 15) (.tmp 45) rfl g15 C rfl rfl 26 Z HG.out HSC.out HZC.out H1C.out ?_; intro v7 HW; have hbj : Below v6.heap.size v6 v7 := HW.out.below _ _ HM.out.below (by rw [HM.out.new]; exact Nat.le_refl _); have G15_7 := hidk HW.out.row; have H7 := hidk (H6.out.keep hbj); have G13_7 := hidk ((hbj.block _ (heap_lt G13_6.out)).trans G13_6.out); have HRX := hidk (RX.out _ H7.out.b); clear hbj HM HG HW; try simp only [Act.put, List.setIfInBounds_toArray, List.set_cons_zero, List.set_cons_succ])
          | (show wpList _ _ _ ({ dst := some 65, op := _, type := _, pos := _, after := _, guard := _ } :: _) _ _; refine wpList_mid_w (by rfl) 50 (.tmp 64) rfl g (o + 110 * k) rfl X _ HRX.out Tryd.underlying50 rfl HSX.out ?_; try simp only [Act.put, List.setIfInBounds_toArray, List.set_cons_zero, List.set_cons_succ])
          | fail)
        refine (LF.out _ H7.out.b).mono ?_
        rintro e v8 ⟨rfl, hbj⟩
        have H8 := hidk (H7.out.keep hbj)
        have G13_8 := hidk ((hbj.block _ (heap_lt G13_7.out)).trans G13_7.out)
        have G15_8 := hidk ((hbj.block _ (heap_lt G15_7.out)).trans G15_7.out)
        clear hbj
        go_wp2_with (first
          | (show wpList _ _ _ ({ dst := some 17, op := _, type := _, pos := _, after := _, guard := _ } :: _) _ _; refine wpList_new_var rfl 26 rfl Z HA.out ?_; intro g17 u9 HM; have HG := hidk HM.out.row; try simp only [Act.put, List.setIfInBounds_toArray, List.set_cons_zero, List.set_cons_succ])
          | (refine wpList_set_var rfl 26 (.tmp 17) (.tmp 67) rfl g17 E rfl rfl 26 Z HG.out HSE.out HZE.out H1E.out ?_; intro v9 HW; have hbj : Below v8.heap.size v8 v9 := HW.out.below _ _ HM.out.below (by rw [HM.out.new]; exact Nat.le_refl _); have G17_9 := hidk HW.out.row; have H9 := hidk (H8.out.keep hbj); have G13_9 := hidk ((hbj.block _ (heap_lt G13_8.out)).trans G13_8.out); have G15_9 := hidk ((hbj.block _ (heap_lt G15_8.out)).trans G15_8.out); clear hbj HM HG HW; try simp only [Act.put, List.setIfInBounds_toArray, List.set_cons_zero, List.set_cons_succ])
          | (show wpList _ _ _ ({ dst := some 76, op := _, type := _, pos := _, after := _, guard := _ } :: _) _ _; refine wpList_load_row_w (by rfl) 26 (.tmp 13) rfl g13 rfl 26 D (0, 0) _ G13_9.out Tryd.underlying26 rfl HSD.out ?_; try simp only [Act.put, List.setIfInBounds_toArray, List.set_cons_zero, List.set_cons_succ])
          | (show wpList _ _ _ ({ dst := some 79, op := _, type := _, pos := _, after := _, guard := _ } :: _) _ _; refine wpList_load_row_w (by rfl) 26 (.tmp 17) rfl g17 rfl 26 E (0, 0) _ G17_9.out Tryd.underlying26 rfl HSE.out ?_; try simp only [Act.put, List.setIfInBounds_toArray, List.set_cons_zero, List.set_cons_succ])
          | fail)
        refine (IN.out _ _ _ H9.out.b H9.out.p).mono ?_
        rintro e v10 ⟨rfl, hbj⟩
        have H10 := hidk (H9.out.keep hbj)
        have G13_10 := hidk ((hbj.block _ (heap_lt G13_9.out)).trans G13_9.out)
        have G15_10 := hidk ((hbj.block _ (heap_lt G15_9.out)).trans G15_9.out)
        clear hbj
        go_wp2_with fail
        refine (FT.out _ H10.out.b).mono ?_
        rintro e v12 ⟨rfl, hbj⟩
        have H12 := hidk (H10.out.keep hbj)
        clear hbj
        go_wp2_with fail
        refine (RT.out _ H12.out.b).mono ?_
        rintro e v13 ⟨rfl, hbj⟩
        have H13 := hidk (H12.out.keep hbj)
        clear hbj
        go_wp2
        go_ret
        exact ⟨rfl, H13.out.b⟩
    · have be : (ie == 0) = false := by simp [hie]
      have bed : decide (ie = 0) = false := decide_eq_false hie
      clear CI
      by_cases hfe : fe = 0
      · obtain ⟨q1, q2, CN0⟩ := CC.out hfe
        have CN := hidk CN0
        clear CC CN0
        subst hfe
        subst q1
        subst q2
        go_enter Tryd.func6, Tryd.ntmps6
        go_wp2_with fail
        refine BG.out.mono ?_
        rintro e w1 ⟨rfl, rfl⟩
        go_wp2_with fail
        refine C1.out.mono ?_
        rintro e v2 ⟨pa, pc, rfl, hp, hb2⟩
        have HP2 := hidk hp
        have HB2 := hidk hb2
        clear hp hb2
        go_wp2_with fail
        refine (C2.out _ HB2.out).mono ?_
        rintro e v3 ⟨qa, qc, rfl, hq, hb3⟩
        have H3 : Hid (HeldP w P pa pl pc Q qa ql qc v3) := ⟨HB2.out.trans (hb3.mono HB2.out.size), HP2.out.keep hb3, hq⟩
        clear hq hb3 HP2
        go_wp2_with fail
        refine (C3.out _ H3.out.b).mono ?_
        rintro e v4 ⟨rfl, hbj⟩
        have H4 := hidk (H3.out.keep hbj)
        clear hbj
        go_wp2_with (first
          | (show wpList _ _ _ ({ dst := some 13, op := _, type := _, pos := _, after := _, guard := _ } :: _) _ _; refine wpList_new_var rfl 26 rfl Z HA.out ?_; intro g13 u5 HM; have HG := hidk HM.out.row; try simp only [Act.put, List.setIfInBounds_toArray, List.set_cons_zero, List.set_cons_succ])
          | (refine wpList_set_var rfl 26 (.tmp 13) (.tmp 39) rfl g13 D rfl rfl 26 Z HG.out HSD.out HZD.out H1D.out ?_; intro v5 HW; have hbj : Below v4.heap.size v4 v5 := HW.out.below _ _ HM.out.below (by rw [HM.out.new]; exact Nat.le_refl _); have G13_5 := hidk HW.out.row; have H5 := hidk (H4.out.keep hbj); clear hbj HM HG HW; try simp only [Act.put, List.setIfInBounds_toArray, List.set_cons_zero, List.set_cons_succ])
          | fail)
        refine (C4.out _ H5.out.b).mono ?_
        rintro e v6 ⟨rfl, hbj⟩
        have H6 := hidk (H5.out.keep hbj)
        have G13_6 := hidk ((hbj.block _ (heap_lt G13_5.out)).trans G13_5.out)
        clear hbj
        go_wp2_with (first
          | (show wpList _ _ _ ({ dst := some 15, op := _, type := _, pos := _, after := _, guard := _ } :: _) _ _; refine wpList_new_var rfl 26 rfl Z HA.out ?_; intro g15 u7 HM; have HG := hidk HM.out.row; try simp only [Act.put, List.setIfInBounds_toArray, List.set_cons_zero, List.set_cons_succ])
          | (refine wpList_set_var rfl 26 (.tmp 15) (.tmp 45) rfl g15 C rfl rfl 26 Z HG.out HSC.out HZC.out H1C.out ?_; intro v7 HW; have hbj : Below v6.heap.size v6 v7 := HW.out.below _ _ HM.out.below (by rw [HM.out.new]; exact Nat.le_refl _); have G15_7 := hidk HW.out.row; have H7 := hidk (H6.out.keep hbj); have G13_7 := hidk ((hbj.block _ (heap_lt G13_6.out)).trans G13_6.out); clear hbj HM HG HW; try simp only [Act.put, List.setIfInBounds_toArray, List.set_cons_zero, List.set_cons_succ])
          | (show wpList _ _ _ ({ dst := some 95, op := _, type := _, pos := _, after := _, guard := _ } :: _) _ _; refine wpList_load_row_w (by rfl) 26 (.tmp 15) rfl g15 rfl 26 C (0, 0) _ G15_7.out Tryd.underlying26 rfl HSC.out ?_; try simp only [Act.put, List.setIfInBounds_toArray, List.set_cons_zero, List.set_cons_succ])
          | (show wpList _ _ _ ({ dst := some 97, op := _, type := _, pos := _, after := _, guard := _ } :: _) _ _; refine wpList_load_row_w (by rfl) 26 (.tmp 13) rfl g13 rfl 26 D (0, 0) _ G13_7.out Tryd.underlying26 rfl HSD.out ?_; try simp only [Act.put, List.setIfInBounds_toArray, List.set_cons_zero, List.set_cons_succ])
          | fail)
        refine (CN.out _ _ _ H7.out.b H7.out.q).mono ?_
        rintro e v11 ⟨rfl, hbj⟩
        have H11 := hidk (H7.out.keep hbj)
        clear hbj
        go_wp2_with fail
        refine (FT.out _ H11.out.b).mono ?_
        rintro e v12 ⟨rfl, hbj⟩
        have H12 := hidk (H11.out.keep hbj)
        clear hbj
        go_wp2_with fail
        refine (RT.out _ H12.out.b).mono ?_
        rintro e v13 ⟨rfl, hbj⟩
        have H13 := hidk (H12.out.keep hbj)
        clear hbj
        go_wp2
        go_ret
        exact ⟨rfl, H13.out.b⟩
      · have bf : (fe == 0) = false := by simp [hfe]
        have bfd : decide (fe = 0) = false := decide_eq_false hfe
        clear CC
        go_enter Tryd.func6, Tryd.ntmps6
        go_wp2_with fail
        refine BG.out.mono ?_
        rintro e w1 ⟨rfl, rfl⟩
        go_wp2_with fail
        refine C1.out.mono ?_
        rintro e v2 ⟨pa, pc, rfl, hp, hb2⟩
        have HP2 := hidk hp
        have HB2 := hidk hb2
        clear hp hb2
        go_wp2_with fail
        refine (C2.out _ HB2.out).mono ?_
        rintro e v3 ⟨qa, qc, rfl, hq, hb3⟩
        have H3 : Hid (HeldP w P pa pl pc Q qa ql qc v3) := ⟨HB2.out.trans (hb3.mono HB2.out.size), HP2.out.keep hb3, hq⟩
        clear hq hb3 HP2
        go_wp2_with fail
        refine (C3.out _ H3.out.b).mono ?_
        rintro e v4 ⟨rfl, hbj⟩
        have H4 := hidk (H3.out.keep hbj)
        clear hbj
        go_wp2_with (first
          | (show wpList _ _ _ ({ dst := some 13, op := _, type := _, pos := _, after := _, guard := _ } :: _) _ _; refine wpList_new_var rfl 26 rfl Z HA.out ?_; intro g13 u5 HM; have HG := hidk HM.out.row; try simp only [Act.put, List.setIfInBounds_toArray, List.set_cons_zero, List.set_cons_succ])
          | (refine wpList_set_var rfl 26 (.tmp 13) (.tmp 39) rfl g13 D rfl rfl 26 Z HG.out HSD.out HZD.out H1D.out ?_; intro v5 HW; have hbj : Below v4.heap.size v4 v5 := HW.out.below _ _ HM.out.below (by rw [HM.out.new]; exact Nat.le_refl _); have G13_5 := hidk HW.out.row; have H5 := hidk (H4.out.keep hbj); clear hbj HM HG HW; try simp only [Act.put, List.setIfInBounds_toArray, List.set_cons_zero, List.set_cons_succ])
          | fail)
        refine (C4.out _ H5.out.b).mono ?_
        rintro e v6 ⟨rfl, hbj⟩
        have H6 := hidk (H5.out.keep hbj)
        have G13_6 := hidk ((hbj.block _ (heap_lt G13_5.out)).trans G13_5.out)
        clear hbj
        go_wp2_with (first
          | (show wpList _ _ _ ({ dst := some 15, op := _, type := _, pos := _, after := _, guard := _ } :: _) _ _; refine wpList_new_var rfl 26 rfl Z HA.out ?_; intro g15 u7 HM; have HG := hidk HM.out.row; try simp only [Act.put, List.setIfInBounds_toArray, List.set_cons_zero, List.set_cons_succ])
          | (refine wpList_set_var rfl 26 (.tmp 15) (.tmp 45) rfl g15 C rfl rfl 26 Z HG.out HSC.out HZC.out H1C.out ?_; intro v7 HW; have hbj : Below v6.heap.size v6 v7 := HW.out.below _ _ HM.out.below (by rw [HM.out.new]; exact Nat.le_refl _); have G15_7 := hidk HW.out.row; have H7 := hidk (H6.out.keep hbj); have G13_7 := hidk ((hbj.block _ (heap_lt G13_6.out)).trans G13_6.out); clear hbj HM HG HW; try simp only [Act.put, List.setIfInBounds_toArray, List.set_cons_zero, List.set_cons_succ])
          | fail)
        refine (FT.out _ H7.out.b).mono ?_
        rintro e v12 ⟨rfl, hbj⟩
        have H12 := hidk (H7.out.keep hbj)
        clear hbj
        go_wp2_with fail
        refine (RT.out _ H12.out.b).mono ?_
        rintro e v13 ⟨rfl, hbj⟩
        have H13 := hidk (H12.out.keep hbj)
        clear hbj
        go_wp2
        go_ret
        exact ⟨rfl, H13.out.b⟩
  · clear ck hc cc h hc0 hm im inn ii hT Hb
    go_enter Tryd.func6, Tryd.ntmps6
    go_wp2_with fail
    refine BG.out.mono ?_
    rintro e w1 ⟨rfl, rfl⟩
    go_wp2
    go_ret
    exact ⟨rfl, Below.refl _ _⟩
end Go.Proofs.YtgclohgcehhfnaaDoor
