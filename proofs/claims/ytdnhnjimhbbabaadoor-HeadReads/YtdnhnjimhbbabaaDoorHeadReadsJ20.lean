/- Texts of our own that the row of HeadReads leans on, part 20. -/
import Derived.Test.YtdnhnjimhbbabaaDoorHeadReadsJ15
import Derived.Test.YtdnhnjimhbbabaaDoorHeadReadsJ17
import Derived.Test.YtdnhnjimhbbabaaDoorHeadReadsJ18
import Derived.Test.YtdnhnjimhbbabaaDoorHeadReadsJ19
import Derived.Lib.BufferWrite
import Derived.OpenShut

/- What the document's Verify and Parts answer. -/
namespace Go.Proofs.YtdnhnjimhbbabaaDoor
open Go.RowKit Sums Nums
set_option linter.unusedVariables false
set_option linter.unusedSimpArgs false
set_option maxRecDepth 100000

end Go.Proofs.YtdnhnjimhbbabaaDoor

/- What the document's Parts answers. -/
namespace Go.Proofs.YtdnhnjimhbbabaaDoor
open Go.RowKit Sums Nums
set_option linter.unusedVariables false
set_option linter.unusedSimpArgs false
set_option maxRecDepth 100000
theorem info9 : (Tryd.prog.info? 9).map (fun i => (i.zero, i.size, i.bytes)) = some (some (.string ⟨#[]⟩), 1, 16) := by kernel_rfl
def tcells (l : List ByteArray) : List Value := l.map Value.string
/-- Texts of the call's own can be read. -/
theorem texts_own {w : World} {B n : Nat} {v : Value} {l : List ByteArray} (h : w.ownsRow B 9 1 v n (tcells l)) : ∃ a c, v = .slice a n c ∧ Texts w a n l := by
  have hl : l.length = n := by have := h.1; simpa [tcells] using this
  rcases h.2 with ⟨rfl, rfl⟩ | ⟨g, cap, cur, rfl, hb, hg, hc, hm, hs, ht⟩
  · exact ⟨none, 0, rfl, hl, .inl rfl⟩
  · refine ⟨some ⟨g, 0, none⟩, cap, rfl, hl, .inr ⟨g, 0, rfl, heap_lt hg, fun i hi => ?_⟩⟩
    rw [Nat.zero_add, cell_of_row w g i cur 9 (0, 0) hg]
    have e : (tcells l)[i]? = cur.toList[i]? := by rw [← ht, List.getElem?_take, if_pos (by omega)]
    unfold tcells at e
    rw [List.getElem?_map, List.getElem?_eq_getElem hi] at e
    simpa using e.symm
theorem tags_take (fs : List (Int × ByteArray)) (n k : Nat) (h : fs.map (·.1) = tagsN n) (hk : k < fs.length) : fs[k].1 = (k : Int) + 1 := by
  have hn : fs.length = n := by rw [← List.length_map (f := (·.1)), h, tagsN_length]
  have e : (fs.map (·.1))[k]? = (tagsN n)[k]? := by rw [h]
  rw [List.getElem?_map, List.getElem?_eq_getElem hk] at e
  unfold tagsN at e
  rw [List.getElem?_map, List.getElem?_range (by omega)] at e
  simpa using e
theorem tags_all (fs : List (Int × ByteArray)) (h : ∀ k (hk : k < fs.length), fs[k].1 = (k : Int) + 1) : fs.map (·.1) = tagsN fs.length := by
  apply List.ext_getElem?
  intro k
  rw [List.getElem?_map]
  by_cases hk : k < fs.length
  · rw [List.getElem?_eq_getElem hk]
    unfold tagsN
    rw [List.getElem?_map, List.getElem?_range hk]
    simpa using h k hk
  · rw [List.getElem?_eq_none (by omega), List.getElem?_eq_none (by rw [tagsN_length]; omega)]
    rfl
/-- What Parts hands back. -/
def PartsR (bs : List UInt8) (n : Nat) (e : Ending) (w' : World) : Prop := match partsO bs n with
  | some l => ∃ x c, e = .returned (.tuple #[.slice x n c, .bool true]) ∧ Texts w' x n l
  | none => e = .returned (.tuple #[.slice none 0 0, .bool false])
theorem partsR_none {bs : List UInt8} {n : Nat} {w' : World} (h : partsO bs n = none) : PartsR bs n (.returned (.tuple #[.slice none 0 0, .bool false])) w' := by unfold PartsR; rw [h]
theorem partsR_some {bs : List UInt8} {n : Nat} {w' : World} {l : List ByteArray} (h : partsO bs n = some l) (x : Option Addr) (c : Nat) (hx : Texts w' x n l) : PartsR bs n (.returned (.tuple #[.slice x n c, .bool true])) w' := by unfold PartsR; rw [h]; exact ⟨x, c, rfl, hx⟩
set_option maxHeartbeats 8000000 in
theorem refParts_any (a : Option Addr) (len cap : Nat) (bs : List UInt8) (n : Nat) (w : World) (hR : Reads w a len cap bs) (hl : len ≤ 1000000) (hn : n ≤ 100) :
    Calls Tryd.prog 47 #[.slice a len cap, .int .i64 n] w fun e w' => PartsR bs n e w' ∧ Below w.heap.size w w' := by
  obtain ⟨fs, Hfs⟩ : ∃ fs, Hid (fs = readF bs) := ⟨readF bs, hidk rfl⟩
  have RD : Hid (Calls Tryd.prog 66 #[.slice a len cap] w fun e W' => ∃ x c, e = .returned (.tuple #[.slice x fs.length c, .int .i64 (readE bs)]) ∧ FReads W'.heap.size W' x fs.length c fs ∧ Below w.heap.size w W') := by
    refine (refRead_any a len cap bs w hR hl).mono ?_
    rintro e W' ⟨v, rfl, ho, hb⟩
    rw [← Hfs.out] at ho
    obtain ⟨x, c, rfl, hx⟩ := freads_own ho (by rw [Hfs.out]; exact readF_small bs)
    exact ⟨x, c, rfl, hx, hb⟩
  have hfl : fs.length ≤ 9223372036854775807 := by
    by_cases h0 : readE bs = 0
    · have := (lay_read h0).2.2
      rw [Hfs.out]; omega
    · rw [Hfs.out]; unfold readF; rw [if_neg h0]; simp
  clear hR
  by_cases hE : readE bs = 0
  · rw [hE] at RD
    by_cases hL : fs.length = n
    · obtain ⟨m, hm⟩ : ∃ m, fs.length = m := ⟨_, rfl⟩
      obtain rfl : m = n := by omega
      have HSOME : Hid (fs.map (·.1) = tagsN m → partsO bs m = some (fs.map (·.2))) := fun h => by unfold partsO; rw [← Hfs.out, if_pos ⟨hE, h⟩]
      have HNONE : Hid (fs.map (·.1) ≠ tagsN m → partsO bs m = none) := fun h => by unfold partsO; rw [← Hfs.out, if_neg (fun x => h x.2)]
      rw [hm] at RD
      have HM := hidk hm
      clear hE hL hm Hfs
      obtain ⟨i9, hi9, hz0, hz1, hz2⟩ := info_parts info9
      have HI := hidk (And.intro hi9 (And.intro hz0 (And.intro hz1 hz2)))
      clear hi9 hz0 hz1 hz2
      go_enter Tryd.func47, Tryd.ntmps47
      go_wp2_with fail
      refine RD.out.mono ?_
      rintro e w1 ⟨x, c, rfl, hF, hb1⟩
      have HF := hidk hF
      have HB1 := hidk hb1
      have hmc : m ≤ c := hF.2.1
      have hcc := hF.2.2.1
      clear hF hb1 RD
      go_wp2
      go_loopw [8, 9] (fun v i wr => ∃ k : Nat, k ≤ m ∧ i = .int .i64 k ∧ Hid (wr.ownsRow w1.heap.size 9 1 v k (tcells ((fs.map (·.2)).take k)) ∧ Below w1.heap.size w1 wr ∧ ∀ j (hj : j < fs.length), j < k → fs[j].1 = (j : Int) + 1)) (fun _ i _ => m - (intOf i).toNat)
      case atStart => exact ⟨0, by omega, rfl, World.ownsRow_nil _ _ _ _, Below.refl _ _, fun j hj h => absurd h (by omega)⟩
      case round =>
        obtain ⟨k, hk, rfl, HO⟩ := hrel
        by_cases hlt : k < m
        · have hkf : k < fs.length := by have := HM.out; omega
          have dk : decide ((k : Int) < (m : Int)) = true := by rw [decide_eq_true_eq]; omega
          have dk' : decide (k < m) = true := by rw [decide_eq_true_eq]; omega
          obtain ⟨tg, Htg⟩ : ∃ t, Hid (t = fs[k].1) := ⟨fs[k].1, hidk rfl⟩
          obtain ⟨da, Hda⟩ : ∃ t, Hid (t = fs[k].2) := ⟨fs[k].2, hidk rfl⟩
          obtain ⟨b, off, rfl, hc1, hc2⟩ : ∃ b off, x = some ⟨b, off, none⟩ ∧ wr.cell? ⟨b, off + k * 2, none⟩ = some (.int .i64 tg) ∧ wr.cell? ⟨b, off + k * 2 + 1, none⟩ = some (.string da) := by
            obtain ⟨_, _, _, _, h5⟩ := HF.out
            rcases h5 with ⟨_, h0⟩ | ⟨_, _, h0⟩ | ⟨b, off, e, hb, hcs⟩
            · omega
            · omega
            · exact ⟨b, off, e, by rw [Htg.out]; exact cell_keep HO.out.2.1 (hcs k hkf).1, by rw [Hda.out]; exact cell_keep HO.out.2.1 (hcs k hkf).2⟩
          have wk := wrap_int ((k : Int) + 1) (by omega) (by omega)
          by_cases ht : tg = (k : Int) + 1
          · have hnt : (tg != (k : Int) + 1) = false := by rw [bne_eq_false_iff_eq]; exact ht
            have HTT := hidk ht
            clear ht
            go_wp2_with (first
              | (at_builtin; refine wpList_append_own _ rfl (.tmp 36) (.tmp 42) 76 rfl w1.heap.size 9 i9 (.string ⟨#[]⟩) 1 16 Tryd.underlying76 HI.out.1 HI.out.2.1 HI.out.2.2.1 HI.out.2.2.2 rfl (by decide) _ _ _ rfl (HO.out.1.alloc _) ⟨wr.heap.size, 0, none⟩ 1 1 [.string da] rfl rfl ?c1 ?c2 ?c3 ?c4 ?c5 ?_)
              | fail)
            case c1 =>
              intro j u hj
              match j, hj with
              | 0, hj => simp at hj; subst hj; simp [Addr.add]
            case c2 => intro u hu; simp at hu; subst hu; rfl
            case c3 => unfold maxLen; omega
            case c4 => omega
            case c5 => simp; exact Nat.le_trans HO.out.2.1.size (by omega)
            intro v3 w3 hown3 hgrow3 _
            have HO3 : Hid (w3.ownsRow w1.heap.size 9 1 v3 (k + 1) (tcells ((fs.map (·.2)).take (k + 1))) ∧ Below w1.heap.size w1 w3 ∧ ∀ j (hj : j < fs.length), j < k + 1 → fs[j].1 = (j : Int) + 1) := by
              refine ⟨?_, (HO.out.2.1.alloc HO.out.2.1.size _).grown hgrow3 (by simp; exact Nat.le_trans HO.out.2.1.size (by omega)) (fun q e => (HO.out.1.lt q e).1), ?_⟩
              · have e1 : tcells ((fs.map (·.2)).take (k + 1)) = tcells ((fs.map (·.2)).take k) ++ [.string da] := by
                  rw [List.take_add_one, List.getElem?_map, List.getElem?_eq_getElem hkf, Hda.out]
                  simp [tcells]
                rw [e1]
                exact hown3
              · intro j hj hjk
                by_cases hjk' : j < k
                · exact HO.out.2.2 j hj hjk'
                · obtain rfl : j = k := by omega
                  rw [← Htg.out]; exact HTT.out
            clear hgrow3 hown3 HO hc1 hc2 hnt
            go_wp2
            go_roundw
            case rel => exact ⟨k + 1, by omega, by go_num, HO3⟩
            case measure => simp [intOf]; omega
          · have hnt : (tg != (k : Int) + 1) = true := by rw [bne_iff_ne]; exact ht
            have HNO : Hid (partsO bs m = none) := HNONE.out (fun h => by
              have := tags_take fs m k h hkf
              rw [← Htg.out] at this
              exact ht this)
            have HBF := hidk (HB1.out.trans (HO.out.2.1.mono HB1.out.size))
            clear ht
            go_wp2
            go_ret2
            exact ⟨partsR_none HNO.out, HBF.out⟩
        · obtain rfl : k = m := by omega
          have HSM : Hid (partsO bs k = some (fs.map (·.2))) := HSOME.out (by
            have := tags_all fs (fun j hj => HO.out.2.2 j hj (by have := HM.out; omega))
            rwa [HM.out] at this)
          have ho := HO.out.1
          rw [List.take_of_length_le (by rw [List.length_map]; have := HM.out; omega)] at ho
          obtain ⟨y, cy, rfl, hy⟩ := texts_own ho
          have HY := hidk hy
          have HBF := hidk (HB1.out.trans (HO.out.2.1.mono HB1.out.size))
          clear ho hy HO
          go_wp2
          go_ret2
          exact ⟨partsR_some HSM.out y cy HY.out, HBF.out⟩
    · have HNO : Hid (partsO bs n = none) := by
        show _ = _
        unfold partsO
        rw [if_neg]
        rintro ⟨_, h⟩
        apply hL
        rw [Hfs.out, ← List.length_map (f := (·.1)), h, tagsN_length]
      have hne : ((fs.length : Int) != (n : Int)) = true := by rw [bne_iff_ne]; omega
      obtain ⟨m, hm⟩ : ∃ m, fs.length = m := ⟨_, rfl⟩
      rw [hm] at RD hne hfl
      clear hL hE Hfs hm
      go_enter Tryd.func47, Tryd.ntmps47
      go_wp2_with fail
      refine RD.out.mono ?_
      rintro e w1 ⟨x, c, rfl, hF, hb1⟩
      have HB1 := hidk hb1
      clear hF hb1 RD
      go_wp2
      go_ret2
      exact ⟨partsR_none HNO.out, HB1.out⟩
  · have HNO : Hid (partsO bs n = none) := by
      show _ = _
      unfold partsO
      rw [if_neg (fun h => hE h.1)]
    obtain ⟨k, hk⟩ : ∃ k, readE bs = k := ⟨_, rfl⟩
    rw [hk] at RD hE
    have hne : ((k : Int) != 0) = true := by rw [bne_iff_ne]; omega
    have hne2 : ¬ k = 0 := hE
    clear hk hE Hfs
    go_enter Tryd.func47, Tryd.ntmps47
    go_wp2_with fail
    refine RD.out.mono ?_
    rintro e w1 ⟨x, c, rfl, hF, hb1⟩
    have HB1 := hidk hb1
    clear hF hb1 RD
    go_wp2
    go_ret2
    exact ⟨partsR_none HNO.out, HB1.out⟩
end Go.Proofs.YtdnhnjimhbbabaaDoor

/- What the document's Get answers. -/
namespace Go.Proofs.YtdnhnjimhbbabaaDoor
open Go.RowKit Sums Nums
set_option linter.unusedVariables false
set_option linter.unusedSimpArgs false
set_option maxRecDepth 100000
theorem builtH (h : HdT) (hd : h.d.length = 32) (D R : Array Value) (HD : Hid (D = (cellsOf h.d).toArray)) (HR : Hid (R = (hcells h).toArray)) : Tryd.prog.built 26 [(0, .int .i64 h.r), (1, .int .i64 h.e), (2, .int .i64 h.s), (3, .agg D), (4, .int .i64 h.t)] = some R := by
  have hi := infoH
  cases hq : Tryd.prog.info? 26 with
  | none => rw [hq] at hi; cases hi
  | some i =>
    rw [hq] at hi
    simp only [Option.map_some, Option.some.injEq, Prod.mk.injEq] at hi
    have hD := size23
    have h3 : (Tryd.prog.info? 3).map (·.size) = some 1 := by kernel_rfl
    cases hqD : Tryd.prog.info? 24 with
    | none => rw [hqD] at hD; cases hD
    | some iD =>
      cases hq3 : Tryd.prog.info? 3 with
      | none => rw [hq3] at h3; cases h3
      | some i3 =>
        rw [hqD] at hD
        rw [hq3] at h3
        simp only [Option.map_some, Option.some.injEq] at hD h3
        unfold Program.built
        simp only [hq, Tryd.underlying26, hi.1, List.mapM_cons, List.mapM_nil, hqD, hq3, hD, h3, Option.map_some, Option.bind_eq_bind, Option.bind_some, Option.pure_def]
        show Instr.fill _ (hcells zeroH).toArray _ = some R
        have hd32 : D.size = 32 := by rw [HD.out]; simp [cellsOf_length, hd]
        refine (fill_val _ 0 0 1 (.int .i64 h.r) #[.int .i64 h.r] _ [] [.int .i64 0] ([.int .i64 0, .int .i64 0] ++ cellsOf (List.replicate 32 0) ++ [.int .i64 0]) _ rfl rfl rfl (by simp [hcells, zeroH]) rfl rfl).trans ?_
        refine (fill_val _ 1 1 1 (.int .i64 h.e) #[.int .i64 h.e] _ [.int .i64 h.r] [.int .i64 0] ([.int .i64 0] ++ cellsOf (List.replicate 32 0) ++ [.int .i64 0]) _ rfl rfl rfl (by simp) rfl rfl).trans ?_
        refine (fill_val _ 2 2 1 (.int .i64 h.s) #[.int .i64 h.s] _ [.int .i64 h.r, .int .i64 h.e] [.int .i64 0] (cellsOf (List.replicate 32 0) ++ [.int .i64 0]) _ rfl rfl rfl (by simp) rfl rfl).trans ?_
        refine (fill_val _ 3 3 32 (.agg D) D _ [.int .i64 h.r, .int .i64 h.e, .int .i64 h.s] (cellsOf (List.replicate 32 0)) [.int .i64 0] _ rfl rfl hd32 (by simp) rfl (by simp [cellsOf_length])).trans ?_
        refine (fill_val _ 4 35 1 (.int .i64 h.t) #[.int .i64 h.t] _ ([.int .i64 h.r, .int .i64 h.e, .int .i64 h.s] ++ D.toList) [.int .i64 0] [] _ rfl rfl rfl (by simp) (by simp [hd32]) rfl).trans ?_
        simp only [Instr.fill, List.append_nil, Option.some.injEq]
        rw [HR.out, HD.out]
        rfl
theorem text_cell {W : World} {b off n : Nat} {l : List ByteArray} (h : Texts W (some ⟨b, off, none⟩) n l) (i : Nat) (hi : i < l.length) : W.cell? ⟨b, off + i, none⟩ = some (.string l[i]) := by
  rcases h.2 with h0 | ⟨b', off', e, _, hc⟩
  · have := h.1; omega
  · cases e; exact hc i hi
theorem texts_wrote {W W' : World} {b off n g : Nat} {l : List ByteArray} {D : Array Value} {t : TypeId} (h : Texts W (some ⟨b, off, none⟩) n l) (hw : Wrote g D t W W') (hg : b < g) : Texts W' (some ⟨b, off, none⟩) n l := by
  refine ⟨h.1, ?_⟩
  rcases h.2 with h0 | ⟨b', off', e, hlt, hc⟩
  · exact .inl h0
  · cases e
    have hb := hw.below 0 W (Below.refl _ _) (Nat.zero_le _)
    exact .inr ⟨b, off, rfl, Nat.lt_of_lt_of_le hlt hb.size, fun i hi => (World.cell?_of_block (a := ⟨b, off + i, none⟩) (hw.other b (by omega))).trans (hc i hi)⟩
def getHO (bs : List UInt8) : HdT := (getO bs).getD zeroH
def getHE (bs : List UInt8) : Int := if (getO bs).isSome then 0 else 70
theorem getHO_digs (bs : List UInt8) : (getHO bs).d.length = 32 := by
  unfold getHO
  cases h : getO bs with
  | none => rfl
  | some x => exact (getO_some h).2.1
set_option maxHeartbeats 16000000 in
theorem refGet7_any (a : Option Addr) (len cap : Nat) (bs : List UInt8) (w : World) (hR : Reads w a len cap bs) (hl : len ≤ 1000000) (R : Array Value) (HR : Hid (R = (hcells (getHO bs)).toArray)) :
    Calls Tryd.prog 19 #[.slice a len cap] w fun e w' => e = .returned (.tuple #[.agg R, .int .i64 (getHE bs)]) ∧ Below w.heap.size w w' := by
  have hnot : ∀ (x : Bool) (w : World), (Op.unary .not (.bool x)).run Tryd.prog w = .ok (.bool (!x)) w := fun _ _ => rfl
  obtain ⟨Z, HZ, HA, HBZ, H36⟩ := noughtsH
  obtain ⟨ZD, HZD, HAD, HSZD, H1ZD, H32D⟩ := noughts27
  have hdR := getHO_digs bs
  have HSR : Hid ((Tryd.prog.info? 26).map (·.size) = some R.size) := by show _ = _; rw [sizeH, HR.out]; simp [hcells_length _ hdR]
  have H1R : Hid (R.all (·.oneCell') = true) := by show _ = _; rw [HR.out]; exact one_cells _
  have HZR : Hid (Z.size = R.size) := by show _ = _; rw [H36.out, HR.out]; simp [hcells_length _ hdR]
  have PA : Hid (∀ W, Below w.heap.size w W → Calls Tryd.prog 47 #[.slice a len cap, .int .i64 5] W fun e w' => PartsR bs 5 e w' ∧ Below W.heap.size W w') := fun W hb => refParts_any a len cap bs 5 W (hR.below hb) hl (by omega)
  clear hR
  cases hp : partsO bs 5 with
  | none =>
    have hg : getO bs = none := by unfold getO; rw [hp]
    have hE : getHE bs = 70 := by unfold getHE; rw [hg]; rfl
    obtain rfl : R = Z := by rw [HR.out, HZ.out]; unfold getHO; rw [hg]; rfl
    have PN : Hid (∀ W, Below w.heap.size w W → Calls Tryd.prog 47 #[.slice a len cap, .int .i64 5] W fun e w' => e = .returned (.tuple #[.slice none 0 0, .bool false]) ∧ Below W.heap.size W w') := fun W hb => (PA.out W hb).mono (by rintro e w' ⟨h1, h2⟩; unfold PartsR at h1; rw [hp] at h1; exact ⟨h1, h2⟩)
    rw [hE]
    clear hE hg hp PA HR HZ HZR hdR
    go_enter Tryd.func19, Tryd.ntmps19
    go_wp2_with (first
      | (show wpList _ _ _ ({ dst := some 2, op := _, type := _, pos := _, after := _, guard := _ } :: _) _ _; refine wpList_new_var rfl 26 rfl R HA.out ?_; intro g2 w1 HM2; try simp only [Act.put, List.setIfInBounds_toArray, List.set_cons_zero, List.set_cons_succ])
      | fail)
    refine (PN.out _ HM2.out.below).mono ?_
    rintro e w2 ⟨rfl, hb2⟩
    have HB2 := hidk (HM2.out.below.trans (hb2.mono HM2.out.below.size))
    have HR2 := hidk ((hb2.block _ (heap_lt HM2.out.row)).trans HM2.out.row)
    have h2 : w.heap.size ≤ g2 := Nat.le_of_eq HM2.out.new.symm
    clear hb2 HM2 PN
    go_wp2_with (first
      | (show wpList _ _ _ ({ dst := some 15, op := _, type := _, pos := _, after := _, guard := _ } :: _) _ _; refine wpList_build_none rfl 26 rfl R HBZ.out ?_; try simp only [Act.put, List.setIfInBounds_toArray, List.set_cons_zero, List.set_cons_succ])
      | (refine wpList_set_var rfl 26 (.tmp 2) (.tmp 15) rfl g2 R rfl rfl 26 R HR2.out HSR.out rfl H1R.out ?_; intro wz HW2; try simp only [Act.put, List.setIfInBounds_toArray, List.set_cons_zero, List.set_cons_succ])
      | fail)
    refine bodyPost_ret (v := .tuple #[.agg R, .int .i64 70]) ?_ rfl ⟨rfl, HW2.out.below w.heap.size w HB2.out h2⟩
    exact results_row_tmp (p := 2) (q := 3) (ty := 26) rfl _ _ g2 26 R (0, 0) _ rfl HW2.out.row Tryd.underlying26 rfl HSR.out
  | some l =>
    have hl5 : l.length = 5 := (row_parts hp).1
    obtain ⟨x1, x2, x3, x4, x5, rfl⟩ : ∃ x1 x2 x3 x4 x5, l = [x1, x2, x3, x4, x5] := by
      match l, hl5 with
      | [x1, x2, x3, x4, x5], _ => exact ⟨x1, x2, x3, x4, x5, rfl⟩
    have hsm : ∀ y ∈ [x1, x2, x3, x4, x5], y.size ≤ maxLen := fun y hy => by
      have : [x1, x2, x3, x4, x5] = (readF bs).map (·.2) := by
        unfold partsO at hp
        split at hp
        · exact (Option.some.inj hp).symm
        · cases hp
      rw [this] at hy
      obtain ⟨f, hf, rfl⟩ := List.mem_map.1 hy
      exact readF_small bs f hf
    have PN : Hid (∀ W, Below w.heap.size w W → Calls Tryd.prog 47 #[.slice a len cap, .int .i64 5] W fun e w' => (∃ x c, e = .returned (.tuple #[.slice x 5 c, .bool true]) ∧ Texts w' x 5 [x1, x2, x3, x4, x5]) ∧ Below W.heap.size W w') := fun W hb => (PA.out W hb).mono (by rintro e w' ⟨h1, h2⟩; unfold PartsR at h1; rw [hp] at h1; exact ⟨h1, h2⟩)
    obtain ⟨D, HD, HSD, H1D, H32DD⟩ := dig_row' (digO x4) (digO_length x4)
    have HZDD : Hid (ZD.size = D.size) := by show _ = _; rw [H32D.out, H32DD.out]
    obtain ⟨bd, hbd⟩ : ∃ b, decide (x4.size = 32) = b := ⟨_, rfl⟩
    have DG : Hid (∀ W, Calls Tryd.prog 48 #[.string x4] W fun e w' => e = .returned (.tuple #[.agg D, .bool bd]) ∧ Below W.heap.size W w') := fun W => by rw [← hbd]; exact refDig_any x4 W (hsm x4 (by simp)) D HD
    have VV : ∀ x, x.size ≤ maxLen → ∀ v, v = valO x.data.toList → Hid (∀ W, Calls Tryd.prog 49 #[.string x] W fun e w' => e = .returned (.int .i64 v) ∧ Below W.heap.size W w') := fun x hx v hv W => (refVal_any x W hx).mono (by rintro e w' ⟨rfl, rfl⟩; exact ⟨by rw [hv], Below.refl _ _⟩)
    obtain ⟨v1, hv1⟩ : ∃ v, v = valO x1.data.toList := ⟨_, rfl⟩
    obtain ⟨v2, hv2⟩ : ∃ v, v = valO x2.data.toList := ⟨_, rfl⟩
    obtain ⟨v3, hv3⟩ : ∃ v, v = valO x3.data.toList := ⟨_, rfl⟩
    obtain ⟨v5, hv5⟩ : ∃ v, v = valO x5.data.toList := ⟨_, rfl⟩
    have V1 := VV x1 (hsm x1 (by simp)) v1 hv1
    have V2 := VV x2 (hsm x2 (by simp)) v2 hv2
    have V3 := VV x3 (hsm x3 (by simp)) v3 hv3
    have V5 := VV x5 (hsm x5 (by simp)) v5 hv5
    obtain ⟨hh, Hhh⟩ : ∃ h : HdT, Hid (h = ⟨v1, v2, v3, digO x4, v5⟩) := ⟨_, hidk rfl⟩
    have hhd : hh.d.length = 32 := by rw [Hhh.out]; exact digO_length x4
    obtain ⟨Q, HQ, HSQ, H1Q, H36Q⟩ := head_row5 hh hhd
    have HZQ : Hid (Z.size = Q.size) := by show _ = _; rw [H36.out, H36Q.out]
    have BH : Hid (∀ W, (Instr.build 26 #[(0, .int .i64 v1), (1, .int .i64 v2), (2, .int .i64 v3), (3, .agg D), (4, .int .i64 v5)]).run Tryd.prog W = .ok (.agg Q) W) := fun W => by
      have := builtH hh hhd D Q (by rw [Hhh.out]; exact HD) HQ
      rw [Hhh.out] at this
      exact run_build W 26 _ Q this
    obtain ⟨br, hbr⟩ : ∃ b, rightH hh = b := ⟨_, rfl⟩
    have RI : Hid (∀ W, Calls Tryd.prog 27 #[.agg Q] W fun e w' => e = .returned (.bool br) ∧ Below W.heap.size W w') := fun W => by rw [← hbr]; exact refRight_any hh hhd W Q HQ
    have hO : (bd = true ∧ br = true → getO bs = some hh) ∧ (¬ (bd = true ∧ br = true) → getO bs = none) := by
      have e4 : x4.size = 32 → headOf x1 x2 x3 x4 x5 = hh := fun h4 => by
        rw [Hhh.out, hv1, hv2, hv3, hv5]
        unfold headOf digO
        rw [if_pos h4]
      have hg : getO bs = if x4.size = 32 ∧ rightH (headOf x1 x2 x3 x4 x5) = true then some (headOf x1 x2 x3 x4 x5) else none := by unfold getO; rw [hp]
      refine ⟨fun hb => ?_, fun hb => ?_⟩
      · have h4 : x4.size = 32 := by rw [hb.1] at hbd; simpa using hbd
        rw [hg, e4 h4, if_pos ⟨h4, by rw [hbr]; exact hb.2⟩]
      · rw [hg, if_neg]
        rintro ⟨h4, hr⟩
        apply hb
        rw [e4 h4] at hr
        exact ⟨by rw [← hbd]; simpa using h4, by rw [← hbr]; exact hr⟩
    have HOK : Hid (bd = true ∧ br = true → R = Q ∧ getHE bs = 0) := fun hb => by
      have := hO.1 hb
      refine ⟨?_, by unfold getHE; rw [this]; rfl⟩
      rw [HR.out, HQ.out]; unfold getHO; rw [this]; rfl
    have HNO : Hid (¬ (bd = true ∧ br = true) → R = Z ∧ getHE bs = 70) := fun hb => by
      have := hO.2 hb
      refine ⟨?_, by unfold getHE; rw [this]; rfl⟩
      rw [HR.out, HZ.out]; unfold getHO; rw [this]; rfl
    obtain ⟨E, hE⟩ : ∃ E, E = getHE bs := ⟨_, rfl⟩
    rw [← hE] at HOK HNO ⊢
    have HSZ : Hid ((Tryd.prog.info? 26).map (·.size) = some Z.size) := by show _ = _; rw [sizeH, H36.out]
    have H1Z : Hid (Z.all (·.oneCell') = true) := by show _ = _; rw [HZ.out]; exact one_cells _
    clear hE hO hbr hbd hp hl5 hsm PA VV HR HZ HD HQ Hhh hv1 hv2 hv3 hv5 hhd hdR
    go_enter Tryd.func19, Tryd.ntmps19
    go_wp2_with (first
      | (show wpList _ _ _ ({ dst := some 2, op := _, type := _, pos := _, after := _, guard := _ } :: _) _ _; refine wpList_new_var rfl 26 rfl Z HA.out ?_; intro g2 w1 HM2; try simp only [Act.put, List.setIfInBounds_toArray, List.set_cons_zero, List.set_cons_succ])
      | fail)
    refine (PN.out _ HM2.out.below).mono ?_
    rintro e w2 ⟨⟨y, c, rfl, hy⟩, hb2⟩
    obtain ⟨b, off, rfl⟩ : ∃ b off, y = some ⟨b, off, none⟩ := by
      rcases hy.2 with h0 | ⟨b, off, e, _⟩
      · cases h0
      · exact ⟨b, off, e⟩
    have HY := hidk hy
    have HB2 := hidk (HM2.out.below.trans (hb2.mono HM2.out.below.size))
    have HR2 := hidk ((hb2.block _ (heap_lt HM2.out.row)).trans HM2.out.row)
    have h2 : w.heap.size ≤ g2 := Nat.le_of_eq HM2.out.new.symm
    have hc3 := text_cell hy 3 (by simp)
    simp only [List.getElem_cons_zero, List.getElem_cons_succ] at hc3
    clear hb2 HM2 PN hy
    go_wp2_with fail
    refine (DG.out _).mono ?_
    rintro e w3 ⟨rfl, hb3⟩
    have HB3 := hidk (HB2.out.trans (hb3.mono HB2.out.size))
    have HR23 := hidk ((hb3.block _ (heap_lt HR2.out)).trans HR2.out)
    have HY3 := hidk (HY.out.keep hb3)
    clear hb3 HB2 HR2 HY DG hc3
    go_wp2_with (first
      | (show wpList _ _ _ ({ dst := some 6, op := _, type := _, pos := _, after := _, guard := _ } :: _) _ _; refine wpList_new_var rfl 24 rfl ZD HAD.out ?_; intro g6 w4 HM6; try simp only [Act.put, List.setIfInBounds_toArray, List.set_cons_zero, List.set_cons_succ])
      | (refine wpList_set_var rfl 24 (.tmp 6) (.tmp 21) rfl g6 D rfl rfl 24 ZD HM6.out.row HSD.out HZDD.out H1D.out ?_; intro w5 HW6; try simp only [Act.put, List.setIfInBounds_toArray, List.set_cons_zero, List.set_cons_succ])
      | fail)
    have h6 : g2 < g6 := by rw [HM6.out.new]; exact heap_lt HR23.out
    have HX5 := hidk (HW6.out.below w3.heap.size w3 HM6.out.below (Nat.le_of_eq HM6.out.new.symm))
    have HBc := hidk (HB3.out.trans (HX5.out.mono HB3.out.size)).drew
    have HR25 := hidk ((HX5.out.block _ (heap_lt HR23.out)).trans HR23.out)
    have HY5 := hidk (HY3.out.keep HX5.out)
    have HR65 := hidk HW6.out.row
    have HTB : Hid (b < g6) := by
      show b < g6
      rcases HY3.out.2 with h0 | ⟨b', off', e, hlt, _⟩
      · cases h0
      · cases e; rw [HM6.out.new]; exact hlt
    clear HM6 HW6 HX5 HB3 HR23 HY3
    refine wp_region_held_drew (S := (fun W => Texts W (some ⟨b, off, none⟩) 5 [x1, x2, x3, x4, x5] ∧ W.heap[g6]? = some (.cells D 24 (0, 0)) ∧ W.heap[g2]? = some (.cells Z 26 (0, 0)))) (by kernel_rfl) ⟨HY5.out.keep (Below.refl _ _).drew, HR65.out, HR25.out⟩ (fun hHeld => ?_)
    refine wpAnyH_take (i := 0) (oi := { dst := some 23, op := Op.move (Operand.tmp 4), type := 76, pos := "ref.go:92", after := #[], guard := none }) (v := .slice (some ⟨b, off, none⟩) 5 c) rfl (by kernel_rfl) (by kernel_rfl) (by kernel_rfl) (fun _ _ _ h => h) (Or.inl ⟨by rfl, by intro W hSw; go_simp⟩) hHeld ?_
    try simp only [Act.put, List.setIfInBounds_toArray, List.set_cons_zero, List.set_cons_succ]
    refine wpAnyH_take (i := 1) (oi := { dst := some 24, op := Op.indexAddr 76 (Operand.tmp 23) (Operand.const (Value.int IntKind.i64 0)), type := 0, pos := "ref.go:92", after := #[{ on := 0, ground := Ground.data }], guard := none }) (v := .pointer (some ⟨b, off, none⟩)) rfl (by kernel_rfl) (by kernel_rfl) (by kernel_rfl) (fun _ _ _ h => h) (Or.inl ⟨by rfl, by intro W hSw; go_simp⟩) hHeld ?_
    try simp only [Act.put, List.setIfInBounds_toArray, List.set_cons_zero, List.set_cons_succ]
    refine wpAnyH_take (i := 2) (oi := { dst := some 25, op := Op.load 9 (Operand.tmp 24), type := 9, pos := "ref.go:92", after := #[{ on := 1, ground := Ground.data }], guard := none }) (v := .string x1) rfl (by kernel_rfl) (by kernel_rfl) (by kernel_rfl) (fun _ _ _ h => h) (Or.inl ⟨by rfl, by intro W hSw; have h1 := text_cell hSw.1 0 (by simp); simp only [List.getElem_cons_zero, List.getElem_cons_succ, Nat.add_zero] at h1; go_simp⟩) hHeld ?_
    try simp only [Act.put, List.setIfInBounds_toArray, List.set_cons_zero, List.set_cons_succ]
    refine wpAnyH_take (i := 4) (oi := { dst := some 27, op := Op.move (Operand.tmp 4), type := 76, pos := "ref.go:92", after := #[], guard := none }) (v := .slice (some ⟨b, off, none⟩) 5 c) rfl (by kernel_rfl) (by kernel_rfl) (by kernel_rfl) (fun _ _ _ h => h) (Or.inl ⟨by rfl, by intro W hSw; go_simp⟩) hHeld ?_
    try simp only [Act.put, List.setIfInBounds_toArray, List.set_cons_zero, List.set_cons_succ]
    refine wpAnyH_take (i := 5) (oi := { dst := some 28, op := Op.indexAddr 76 (Operand.tmp 27) (Operand.const (Value.int IntKind.i64 1)), type := 0, pos := "ref.go:92", after := #[{ on := 4, ground := Ground.data }], guard := none }) (v := .pointer (some ⟨b, off + 1, none⟩)) rfl (by kernel_rfl) (by kernel_rfl) (by kernel_rfl) (fun _ _ _ h => h) (Or.inl ⟨by rfl, by intro W hSw; go_simp⟩) hHeld ?_
    try simp only [Act.put, List.setIfInBounds_toArray, List.set_cons_zero, List.set_cons_succ]
    refine wpAnyH_take (i := 6) (oi := { dst := some 29, op := Op.load 9 (Operand.tmp 28), type := 9, pos := "ref.go:92", after := #[{ on := 5, ground := Ground.data }], guard := none }) (v := .string x2) rfl (by kernel_rfl) (by kernel_rfl) (by kernel_rfl) (fun _ _ _ h => h) (Or.inl ⟨by rfl, by intro W hSw; have h1 := text_cell hSw.1 1 (by simp); simp only [List.getElem_cons_zero, List.getElem_cons_succ, Nat.add_zero] at h1; go_simp⟩) hHeld ?_
    try simp only [Act.put, List.setIfInBounds_toArray, List.set_cons_zero, List.set_cons_succ]
    refine wpAnyH_take (i := 8) (oi := { dst := some 31, op := Op.move (Operand.tmp 4), type := 76, pos := "ref.go:92", after := #[], guard := none }) (v := .slice (some ⟨b, off, none⟩) 5 c) rfl (by kernel_rfl) (by kernel_rfl) (by kernel_rfl) (fun _ _ _ h => h) (Or.inl ⟨by rfl, by intro W hSw; go_simp⟩) hHeld ?_
    try simp only [Act.put, List.setIfInBounds_toArray, List.set_cons_zero, List.set_cons_succ]
    refine wpAnyH_take (i := 9) (oi := { dst := some 32, op := Op.indexAddr 76 (Operand.tmp 31) (Operand.const (Value.int IntKind.i64 2)), type := 0, pos := "ref.go:92", after := #[{ on := 8, ground := Ground.data }], guard := none }) (v := .pointer (some ⟨b, off + 2, none⟩)) rfl (by kernel_rfl) (by kernel_rfl) (by kernel_rfl) (fun _ _ _ h => h) (Or.inl ⟨by rfl, by intro W hSw; go_simp⟩) hHeld ?_
    try simp only [Act.put, List.setIfInBounds_toArray, List.set_cons_zero, List.set_cons_succ]
    refine wpAnyH_take (i := 10) (oi := { dst := some 33, op := Op.load 9 (Operand.tmp 32), type := 9, pos := "ref.go:92", after := #[{ on := 9, ground := Ground.data }], guard := none }) (v := .string x3) rfl (by kernel_rfl) (by kernel_rfl) (by kernel_rfl) (fun _ _ _ h => h) (Or.inl ⟨by rfl, by intro W hSw; have h1 := text_cell hSw.1 2 (by simp); simp only [List.getElem_cons_zero, List.getElem_cons_succ, Nat.add_zero] at h1; go_simp⟩) hHeld ?_
    try simp only [Act.put, List.setIfInBounds_toArray, List.set_cons_zero, List.set_cons_succ]
    refine wpAnyH_take (i := 12) (oi := { dst := some 35, op := Op.load 24 (Operand.tmp 6), type := 24, pos := "ref.go:92", after := #[], guard := none }) (v := .agg D) rfl (by kernel_rfl) (by kernel_rfl) (by kernel_rfl) (fun _ _ _ h => h) (yieldsIf_row (by rfl) 24 (.tmp 6) rfl g6 rfl 24 D (0, 0) _ (fun _ h => h.2.1) Tryd.underlying24 rfl HSD.out) hHeld ?_
    try simp only [Act.put, List.setIfInBounds_toArray, List.set_cons_zero, List.set_cons_succ]
    refine wpAnyH_take (i := 13) (oi := { dst := some 36, op := Op.move (Operand.tmp 4), type := 76, pos := "ref.go:92", after := #[], guard := none }) (v := .slice (some ⟨b, off, none⟩) 5 c) rfl (by kernel_rfl) (by kernel_rfl) (by kernel_rfl) (fun _ _ _ h => h) (Or.inl ⟨by rfl, by intro W hSw; go_simp⟩) hHeld ?_
    try simp only [Act.put, List.setIfInBounds_toArray, List.set_cons_zero, List.set_cons_succ]
    refine wpAnyH_take (i := 14) (oi := { dst := some 37, op := Op.indexAddr 76 (Operand.tmp 36) (Operand.const (Value.int IntKind.i64 4)), type := 0, pos := "ref.go:92", after := #[{ on := 13, ground := Ground.data }], guard := none }) (v := .pointer (some ⟨b, off + 4, none⟩)) rfl (by kernel_rfl) (by kernel_rfl) (by kernel_rfl) (fun _ _ _ h => h) (Or.inl ⟨by rfl, by intro W hSw; go_simp⟩) hHeld ?_
    try simp only [Act.put, List.setIfInBounds_toArray, List.set_cons_zero, List.set_cons_succ]
    refine wpAnyH_take (i := 15) (oi := { dst := some 38, op := Op.load 9 (Operand.tmp 37), type := 9, pos := "ref.go:92", after := #[{ on := 14, ground := Ground.data }], guard := none }) (v := .string x5) rfl (by kernel_rfl) (by kernel_rfl) (by kernel_rfl) (fun _ _ _ h => h) (Or.inl ⟨by rfl, by intro W hSw; have h1 := text_cell hSw.1 4 (by simp); simp only [List.getElem_cons_zero, List.getElem_cons_succ, Nat.add_zero] at h1; go_simp⟩) hHeld ?_
    try simp only [Act.put, List.setIfInBounds_toArray, List.set_cons_zero, List.set_cons_succ]
    refine wpAnyH_ready (rs := [3, 18]) (by kernel_rfl) (by simp) ?_
    refine (AllReadyH.cons (o := { dst := some 26, op := Op.call { callee := Callee.value (Operand.func 49), args := #[Operand.tmp 25], argTypes := #[9] }, type := 3, pos := "ref.go:92", after := #[{ on := 2, ground := Ground.data }], guard := none }) rfl (fun K hK => ?_) (AllReadyH.cons (o := { dst := some 7, op := Op.alloc 26, type := 0, pos := "ref.go:92", after := #[], guard := none }) rfl (fun K hK => ?_) AllReadyH.nil))
    · go_simp
      refine (V1.out _).mono ?_
      rintro e w3 ⟨rfl, hb3⟩
      replace HBc := hidk (HBc.out.trans (hb3.mono HBc.out.size))
      try replace HR7 := hidk ((hb3.block _ (heap_lt HR7.out)).trans HR7.out)
      go_wp2_with fail
      refine hK.out _ _ ⟨hHeld.1.keep hb3, (hb3.block _ (heap_lt hHeld.2.1)).trans hHeld.2.1, (hb3.block _ (heap_lt hHeld.2.2)).trans hHeld.2.2⟩ (fun hHeld => ?_)
      clear hK K
      try simp only [Act.put, List.setIfInBounds_toArray, List.set_cons_zero, List.set_cons_succ]
      refine wpAnyH_ready (rs := [7, 18]) (by kernel_rfl) (by simp) ?_
      refine (AllReadyH.cons (o := { dst := some 30, op := Op.call { callee := Callee.value (Operand.func 49), args := #[Operand.tmp 29], argTypes := #[9] }, type := 3, pos := "ref.go:92", after := #[{ on := 6, ground := Ground.data }, { on := 3, ground := Ground.chain }], guard := none }) rfl (fun K hK => ?_) (AllReadyH.cons (o := { dst := some 7, op := Op.alloc 26, type := 0, pos := "ref.go:92", after := #[], guard := none }) rfl (fun K hK => ?_) AllReadyH.nil))
      · go_simp
        refine (V2.out _).mono ?_
        rintro e w7 ⟨rfl, hb7⟩
        replace HBc := hidk (HBc.out.trans (hb7.mono HBc.out.size))
        try replace HR7 := hidk ((hb7.block _ (heap_lt HR7.out)).trans HR7.out)
        go_wp2_with fail
        refine hK.out _ _ ⟨hHeld.1.keep hb7, (hb7.block _ (heap_lt hHeld.2.1)).trans hHeld.2.1, (hb7.block _ (heap_lt hHeld.2.2)).trans hHeld.2.2⟩ (fun hHeld => ?_)
        clear hK K
        try simp only [Act.put, List.setIfInBounds_toArray, List.set_cons_zero, List.set_cons_succ]
        refine wpAnyH_ready (rs := [11, 18]) (by kernel_rfl) (by simp) ?_
        refine (AllReadyH.cons (o := { dst := some 34, op := Op.call { callee := Callee.value (Operand.func 49), args := #[Operand.tmp 33], argTypes := #[9] }, type := 3, pos := "ref.go:92", after := #[{ on := 10, ground := Ground.data }, { on := 7, ground := Ground.chain }], guard := none }) rfl (fun K hK => ?_) (AllReadyH.cons (o := { dst := some 7, op := Op.alloc 26, type := 0, pos := "ref.go:92", after := #[], guard := none }) rfl (fun K hK => ?_) AllReadyH.nil))
        · go_simp
          refine (V3.out _).mono ?_
          rintro e w11 ⟨rfl, hb11⟩
          replace HBc := hidk (HBc.out.trans (hb11.mono HBc.out.size))
          try replace HR7 := hidk ((hb11.block _ (heap_lt HR7.out)).trans HR7.out)
          go_wp2_with fail
          refine hK.out _ _ ⟨hHeld.1.keep hb11, (hb11.block _ (heap_lt hHeld.2.1)).trans hHeld.2.1, (hb11.block _ (heap_lt hHeld.2.2)).trans hHeld.2.2⟩ (fun hHeld => ?_)
          clear hK K
          try simp only [Act.put, List.setIfInBounds_toArray, List.set_cons_zero, List.set_cons_succ]
          refine wpAnyH_ready (rs := [16, 18]) (by kernel_rfl) (by simp) ?_
          refine (AllReadyH.cons (o := { dst := some 39, op := Op.call { callee := Callee.value (Operand.func 49), args := #[Operand.tmp 38], argTypes := #[9] }, type := 3, pos := "ref.go:92", after := #[{ on := 15, ground := Ground.data }, { on := 11, ground := Ground.chain }], guard := none }) rfl (fun K hK => ?_) (AllReadyH.cons (o := { dst := some 7, op := Op.alloc 26, type := 0, pos := "ref.go:92", after := #[], guard := none }) rfl (fun K hK => ?_) AllReadyH.nil))
          · go_simp
            refine (V5.out _).mono ?_
            rintro e w16 ⟨rfl, hb16⟩
            replace HBc := hidk (HBc.out.trans (hb16.mono HBc.out.size))
            try replace HR7 := hidk ((hb16.block _ (heap_lt HR7.out)).trans HR7.out)
            go_wp2_with fail
            refine hK.out _ _ ⟨hHeld.1.keep hb16, (hb16.block _ (heap_lt hHeld.2.1)).trans hHeld.2.1, (hb16.block _ (heap_lt hHeld.2.2)).trans hHeld.2.2⟩ (fun hHeld => ?_)
            clear hK K
            try simp only [Act.put, List.setIfInBounds_toArray, List.set_cons_zero, List.set_cons_succ]
            refine wpAnyH_take (i := 17) (oi := { dst := some 40, op := Op.build 26 #[(0, Operand.tmp 26), (1, Operand.tmp 30), (2, Operand.tmp 34), (3, Operand.tmp 35), (4, Operand.tmp 39)], type := 26, pos := "ref.go:92", after := #[{ on := 3, ground := Ground.data }, { on := 7, ground := Ground.data }, { on := 11, ground := Ground.data }, { on := 12, ground := Ground.data }, { on := 16, ground := Ground.data }], guard := none }) (v := .agg Q) rfl (by kernel_rfl) (by kernel_rfl) (by kernel_rfl) (fun _ _ _ h => h) (yieldsIf_build (by rfl) 26 _ rfl #[(0, .int .i64 v1), (1, .int .i64 v2), (2, .int .i64 v3), (3, .agg D), (4, .int .i64 v5)] rfl (.agg Q) BH.out) hHeld ?_
            try simp only [Act.put, List.setIfInBounds_toArray, List.set_cons_zero, List.set_cons_succ]
            refine wpAnyH_ready (rs := [18]) (by kernel_rfl) (by simp) ?_
            refine (AllReadyH.cons (o := { dst := some 7, op := Op.alloc 26, type := 0, pos := "ref.go:92", after := #[], guard := none }) rfl (fun K hK => ?_) AllReadyH.nil)
            refine step_new_var (by rfl) 26 rfl Z HA.out ?_
            intro g7 wg HM7
            have HR7 := hidk HM7.out.row
            have HG7 : Hid (g6 < g7) := (by show g6 < g7; rw [HM7.out.new]; exact heap_lt hHeld.2.1)
            replace HBc := hidk (HBc.out.trans (HM7.out.below.mono HBc.out.size))
            refine hK.out _ _ ⟨hHeld.1.keep HM7.out.below, (HM7.out.below.block _ (heap_lt hHeld.2.1)).trans hHeld.2.1, (HM7.out.below.block _ (heap_lt hHeld.2.2)).trans hHeld.2.2⟩ (fun hHeld => ?_)
            clear hK K
            try simp only [Act.put, List.setIfInBounds_toArray, List.set_cons_zero, List.set_cons_succ]
            refine wpAnyH_ready (rs := [19]) (by kernel_rfl) (by simp) ?_
            refine (AllReadyH.cons (o := { dst := none, op := Op.store 26 (Operand.tmp 7) (Operand.tmp 40), type := 0, pos := "ref.go:92", after := #[{ on := 18, ground := Ground.data }, { on := 17, ground := Ground.data }, { on := 16, ground := Ground.chain }, { on := 0, ground := Ground.phase }, { on := 1, ground := Ground.phase }, { on := 2, ground := Ground.phase }, { on := 3, ground := Ground.phase }, { on := 4, ground := Ground.phase }, { on := 5, ground := Ground.phase }, { on := 6, ground := Ground.phase }, { on := 7, ground := Ground.phase }, { on := 8, ground := Ground.phase }, { on := 9, ground := Ground.phase }, { on := 10, ground := Ground.phase }, { on := 11, ground := Ground.phase }, { on := 12, ground := Ground.phase }, { on := 13, ground := Ground.phase }, { on := 14, ground := Ground.phase }, { on := 15, ground := Ground.phase }, { on := 16, ground := Ground.phase }, { on := 17, ground := Ground.phase }, { on := 18, ground := Ground.phase }], guard := none }) rfl (fun K hK => ?_) AllReadyH.nil)
            refine step_set_var (by rfl) 26 (.tmp 7) (.tmp 40) rfl g7 Q rfl rfl 26 Z HR7.out HSQ.out HZQ.out H1Q.out ?_
            intro wz HW7
            refine hK.out _ _ ⟨texts_wrote hHeld.1 HW7.out (by have := HG7.out; have := HTB.out; omega), (HW7.out.other _ (by have := HG7.out; omega)).trans hHeld.2.1, (HW7.out.other _ (by have := HG7.out; omega)).trans hHeld.2.2⟩ (fun hHeld => ?_)
            clear hK K
            try simp only [Act.put, List.setIfInBounds_toArray, List.set_cons_zero, List.set_cons_succ]
            refine wpAnyH_done (by kernel_rfl) ?_ _
            have h7 : g6 < g7 := HG7.out
            have HR7z := hidk HW7.out.row
            have HR2z := hidk hHeld.2.2
            have HBz := hidk (HW7.out.below w.heap.size w HBc.out (by omega))
            clear HW7 HBc hHeld HR7
            cases bd
            · obtain ⟨rfl, rfl⟩ := HNO.out (by simp)
              go_wp2_with (first
                | (show wpList _ _ _ ({ dst := some 48, op := _, type := _, pos := _, after := _, guard := _ } :: _) _ _; refine wpList_build_none rfl 26 rfl R HBZ.out ?_; try simp only [Act.put, List.setIfInBounds_toArray, List.set_cons_zero, List.set_cons_succ])
                | (refine wpList_set_var rfl 26 (.tmp 2) (.tmp 48) rfl g2 R rfl rfl 26 R HR2z.out HSZ.out rfl H1Z.out ?_; intro wz HW2; try simp only [Act.put, List.setIfInBounds_toArray, List.set_cons_zero, List.set_cons_succ])
                | fail)
              refine bodyPost_ret (v := .tuple #[.agg R, .int .i64 70]) ?_ rfl ⟨rfl, HW2.out.below w.heap.size w HBz.out h2⟩
              exact results_row_tmp (p := 2) (q := 3) (ty := 26) rfl _ _ g2 26 R (0, 0) _ rfl HW2.out.row Tryd.underlying26 rfl HSZ.out
            · go_wp2_with (first
                | (show wpList _ _ _ ({ dst := some 44, op := _, type := _, pos := _, after := _, guard := _ } :: _) _ _; refine wpList_load_row_w (by rfl) 26 (.tmp 7) rfl g7 rfl 26 Q (0, 0) _ HR7z.out Tryd.underlying26 rfl HSQ.out ?_; try simp only [Act.put, List.setIfInBounds_toArray, List.set_cons_zero, List.set_cons_succ])
                | fail)
              refine (RI.out _).mono ?_
              rintro e wr ⟨rfl, hbr⟩
              have HBr := hidk (HBz.out.trans (hbr.mono HBz.out.size))
              have HR7r := hidk ((hbr.block _ (heap_lt HR7z.out)).trans HR7z.out)
              have HR2r := hidk ((hbr.block _ (heap_lt HR2z.out)).trans HR2z.out)
              clear hbr HBz HR7z HR2z RI
              cases br
              · obtain ⟨rfl, rfl⟩ := HNO.out (by simp)
                go_wp2_with (first
                  | (show wpList _ _ _ ({ dst := some 48, op := _, type := _, pos := _, after := _, guard := _ } :: _) _ _; refine wpList_build_none rfl 26 rfl R HBZ.out ?_; try simp only [Act.put, List.setIfInBounds_toArray, List.set_cons_zero, List.set_cons_succ])
                  | (refine wpList_set_var rfl 26 (.tmp 2) (.tmp 48) rfl g2 R rfl rfl 26 R HR2r.out HSZ.out rfl H1Z.out ?_; intro wz HW2; try simp only [Act.put, List.setIfInBounds_toArray, List.set_cons_zero, List.set_cons_succ])
                  | fail)
                refine bodyPost_ret (v := .tuple #[.agg R, .int .i64 70]) ?_ rfl ⟨rfl, HW2.out.below w.heap.size w HBr.out h2⟩
                exact results_row_tmp (p := 2) (q := 3) (ty := 26) rfl _ _ g2 26 R (0, 0) _ rfl HW2.out.row Tryd.underlying26 rfl HSZ.out
              · obtain ⟨rfl, rfl⟩ := HOK.out (by simp)
                go_wp2_with (first
                  | (show wpList _ _ _ ({ dst := some 49, op := _, type := _, pos := _, after := _, guard := _ } :: _) _ _; refine wpList_load_row rfl 26 (.tmp 7) rfl g7 rfl 26 R (0, 0) _ HR7r.out Tryd.underlying26 rfl HSQ.out ?_; try simp only [Act.put, List.setIfInBounds_toArray, List.set_cons_zero, List.set_cons_succ])
                  | (refine wpList_set_var rfl 26 (.tmp 2) (.tmp 49) rfl g2 R rfl rfl 26 Z HR2r.out HSR.out HZR.out H1R.out ?_; intro wz HW2; try simp only [Act.put, List.setIfInBounds_toArray, List.set_cons_zero, List.set_cons_succ])
                  | fail)
                refine bodyPost_ret (v := .tuple #[.agg R, .int .i64 0]) ?_ rfl ⟨rfl, HW2.out.below w.heap.size w HBr.out h2⟩
                exact results_row_tmp (p := 2) (q := 3) (ty := 26) rfl _ _ g2 26 R (0, 0) _ rfl HW2.out.row Tryd.underlying26 rfl HSR.out
          · refine step_new_var (by rfl) 26 rfl Z HA.out ?_
            intro g7 wg HM7
            have HR7 := hidk HM7.out.row
            have HG7 : Hid (g6 < g7) := (by show g6 < g7; rw [HM7.out.new]; exact heap_lt hHeld.2.1)
            replace HBc := hidk (HBc.out.trans (HM7.out.below.mono HBc.out.size))
            refine hK.out _ _ ⟨hHeld.1.keep HM7.out.below, (HM7.out.below.block _ (heap_lt hHeld.2.1)).trans hHeld.2.1, (HM7.out.below.block _ (heap_lt hHeld.2.2)).trans hHeld.2.2⟩ (fun hHeld => ?_)
            clear hK K
            try simp only [Act.put, List.setIfInBounds_toArray, List.set_cons_zero, List.set_cons_succ]
            refine wpAnyH_ready (rs := [16]) (by kernel_rfl) (by simp) ?_
            refine (AllReadyH.cons (o := { dst := some 39, op := Op.call { callee := Callee.value (Operand.func 49), args := #[Operand.tmp 38], argTypes := #[9] }, type := 3, pos := "ref.go:92", after := #[{ on := 15, ground := Ground.data }, { on := 11, ground := Ground.chain }], guard := none }) rfl (fun K hK => ?_) AllReadyH.nil)
            go_simp
            refine (V5.out _).mono ?_
            rintro e w16 ⟨rfl, hb16⟩
            replace HBc := hidk (HBc.out.trans (hb16.mono HBc.out.size))
            try replace HR7 := hidk ((hb16.block _ (heap_lt HR7.out)).trans HR7.out)
            go_wp2_with fail
            refine hK.out _ _ ⟨hHeld.1.keep hb16, (hb16.block _ (heap_lt hHeld.2.1)).trans hHeld.2.1, (hb16.block _ (heap_lt hHeld.2.2)).trans hHeld.2.2⟩ (fun hHeld => ?_)
            clear hK K
            try simp only [Act.put, List.setIfInBounds_toArray, List.set_cons_zero, List.set_cons_succ]
            refine wpAnyH_take (i := 17) (oi := { dst := some 40, op := Op.build 26 #[(0, Operand.tmp 26), (1, Operand.tmp 30), (2, Operand.tmp 34), (3, Operand.tmp 35), (4, Operand.tmp 39)], type := 26, pos := "ref.go:92", after := #[{ on := 3, ground := Ground.data }, { on := 7, ground := Ground.data }, { on := 11, ground := Ground.data }, { on := 12, ground := Ground.data }, { on := 16, ground := Ground.data }], guard := none }) (v := .agg Q) rfl (by kernel_rfl) (by kernel_rfl) (by kernel_rfl) (fun _ _ _ h => h) (yieldsIf_build (by rfl) 26 _ rfl #[(0, .int .i64 v1), (1, .int .i64 v2), (2, .int .i64 v3), (3, .agg D), (4, .int .i64 v5)] rfl (.agg Q) BH.out) hHeld ?_
            try simp only [Act.put, List.setIfInBounds_toArray, List.set_cons_zero, List.set_cons_succ]
            refine wpAnyH_ready (rs := [19]) (by kernel_rfl) (by simp) ?_
            refine (AllReadyH.cons (o := { dst := none, op := Op.store 26 (Operand.tmp 7) (Operand.tmp 40), type := 0, pos := "ref.go:92", after := #[{ on := 18, ground := Ground.data }, { on := 17, ground := Ground.data }, { on := 16, ground := Ground.chain }, { on := 0, ground := Ground.phase }, { on := 1, ground := Ground.phase }, { on := 2, ground := Ground.phase }, { on := 3, ground := Ground.phase }, { on := 4, ground := Ground.phase }, { on := 5, ground := Ground.phase }, { on := 6, ground := Ground.phase }, { on := 7, ground := Ground.phase }, { on := 8, ground := Ground.phase }, { on := 9, ground := Ground.phase }, { on := 10, ground := Ground.phase }, { on := 11, ground := Ground.phase }, { on := 12, ground := Ground.phase }, { on := 13, ground := Ground.phase }, { on := 14, ground := Ground.phase }, { on := 15, ground := Ground.phase }, { on := 16, ground := Ground.phase }, { on := 17, ground := Ground.phase }, { on := 18, ground := Ground.phase }], guard := none }) rfl (fun K hK => ?_) AllReadyH.nil)
            refine step_set_var (by rfl) 26 (.tmp 7) (.tmp 40) rfl g7 Q rfl rfl 26 Z HR7.out HSQ.out HZQ.out H1Q.out ?_
            intro wz HW7
            refine hK.out _ _ ⟨texts_wrote hHeld.1 HW7.out (by have := HG7.out; have := HTB.out; omega), (HW7.out.other _ (by have := HG7.out; omega)).trans hHeld.2.1, (HW7.out.other _ (by have := HG7.out; omega)).trans hHeld.2.2⟩ (fun hHeld => ?_)
            clear hK K
            try simp only [Act.put, List.setIfInBounds_toArray, List.set_cons_zero, List.set_cons_succ]
            refine wpAnyH_done (by kernel_rfl) ?_ _
            have h7 : g6 < g7 := HG7.out
            have HR7z := hidk HW7.out.row
            have HR2z := hidk hHeld.2.2
            have HBz := hidk (HW7.out.below w.heap.size w HBc.out (by omega))
            clear HW7 HBc hHeld HR7
            cases bd
            · obtain ⟨rfl, rfl⟩ := HNO.out (by simp)
              go_wp2_with (first
                | (show wpList _ _ _ ({ dst := some 48, op := _, type := _, pos := _, after := _, guard := _ } :: _) _ _; refine wpList_build_none rfl 26 rfl R HBZ.out ?_; try simp only [Act.put, List.setIfInBounds_toArray, List.set_cons_zero, List.set_cons_succ])
                | (refine wpList_set_var rfl 26 (.tmp 2) (.tmp 48) rfl g2 R rfl rfl 26 R HR2z.out HSZ.out rfl H1Z.out ?_; intro wz HW2; try simp only [Act.put, List.setIfInBounds_toArray, List.set_cons_zero, List.set_cons_succ])
                | fail)
              refine bodyPost_ret (v := .tuple #[.agg R, .int .i64 70]) ?_ rfl ⟨rfl, HW2.out.below w.heap.size w HBz.out h2⟩
              exact results_row_tmp (p := 2) (q := 3) (ty := 26) rfl _ _ g2 26 R (0, 0) _ rfl HW2.out.row Tryd.underlying26 rfl HSZ.out
            · go_wp2_with (first
                | (show wpList _ _ _ ({ dst := some 44, op := _, type := _, pos := _, after := _, guard := _ } :: _) _ _; refine wpList_load_row_w (by rfl) 26 (.tmp 7) rfl g7 rfl 26 Q (0, 0) _ HR7z.out Tryd.underlying26 rfl HSQ.out ?_; try simp only [Act.put, List.setIfInBounds_toArray, List.set_cons_zero, List.set_cons_succ])
                | fail)
              refine (RI.out _).mono ?_
              rintro e wr ⟨rfl, hbr⟩
              have HBr := hidk (HBz.out.trans (hbr.mono HBz.out.size))
              have HR7r := hidk ((hbr.block _ (heap_lt HR7z.out)).trans HR7z.out)
              have HR2r := hidk ((hbr.block _ (heap_lt HR2z.out)).trans HR2z.out)
              clear hbr HBz HR7z HR2z RI
              cases br
              · obtain ⟨rfl, rfl⟩ := HNO.out (by simp)
                go_wp2_with (first
                  | (show wpList _ _ _ ({ dst := some 48, op := _, type := _, pos := _, after := _, guard := _ } :: _) _ _; refine wpList_build_none rfl 26 rfl R HBZ.out ?_; try simp only [Act.put, List.setIfInBounds_toArray, List.set_cons_zero, List.set_cons_succ])
                  | (refine wpList_set_var rfl 26 (.tmp 2) (.tmp 48) rfl g2 R rfl rfl 26 R HR2r.out HSZ.out rfl H1Z.out ?_; intro wz HW2; try simp only [Act.put, List.setIfInBounds_toArray, List.set_cons_zero, List.set_cons_succ])
                  | fail)
                refine bodyPost_ret (v := .tuple #[.agg R, .int .i64 70]) ?_ rfl ⟨rfl, HW2.out.below w.heap.size w HBr.out h2⟩
                exact results_row_tmp (p := 2) (q := 3) (ty := 26) rfl _ _ g2 26 R (0, 0) _ rfl HW2.out.row Tryd.underlying26 rfl HSZ.out
              · obtain ⟨rfl, rfl⟩ := HOK.out (by simp)
                go_wp2_with (first
                  | (show wpList _ _ _ ({ dst := some 49, op := _, type := _, pos := _, after := _, guard := _ } :: _) _ _; refine wpList_load_row rfl 26 (.tmp 7) rfl g7 rfl 26 R (0, 0) _ HR7r.out Tryd.underlying26 rfl HSQ.out ?_; try simp only [Act.put, List.setIfInBounds_toArray, List.set_cons_zero, List.set_cons_succ])
                  | (refine wpList_set_var rfl 26 (.tmp 2) (.tmp 49) rfl g2 R rfl rfl 26 Z HR2r.out HSR.out HZR.out H1R.out ?_; intro wz HW2; try simp only [Act.put, List.setIfInBounds_toArray, List.set_cons_zero, List.set_cons_succ])
                  | fail)
                refine bodyPost_ret (v := .tuple #[.agg R, .int .i64 0]) ?_ rfl ⟨rfl, HW2.out.below w.heap.size w HBr.out h2⟩
                exact results_row_tmp (p := 2) (q := 3) (ty := 26) rfl _ _ g2 26 R (0, 0) _ rfl HW2.out.row Tryd.underlying26 rfl HSR.out
        · refine step_new_var (by rfl) 26 rfl Z HA.out ?_
          intro g7 wg HM7
          have HR7 := hidk HM7.out.row
          have HG7 : Hid (g6 < g7) := (by show g6 < g7; rw [HM7.out.new]; exact heap_lt hHeld.2.1)
          replace HBc := hidk (HBc.out.trans (HM7.out.below.mono HBc.out.size))
          refine hK.out _ _ ⟨hHeld.1.keep HM7.out.below, (HM7.out.below.block _ (heap_lt hHeld.2.1)).trans hHeld.2.1, (HM7.out.below.block _ (heap_lt hHeld.2.2)).trans hHeld.2.2⟩ (fun hHeld => ?_)
          clear hK K
          try simp only [Act.put, List.setIfInBounds_toArray, List.set_cons_zero, List.set_cons_succ]
          refine wpAnyH_ready (rs := [11]) (by kernel_rfl) (by simp) ?_
          refine (AllReadyH.cons (o := { dst := some 34, op := Op.call { callee := Callee.value (Operand.func 49), args := #[Operand.tmp 33], argTypes := #[9] }, type := 3, pos := "ref.go:92", after := #[{ on := 10, ground := Ground.data }, { on := 7, ground := Ground.chain }], guard := none }) rfl (fun K hK => ?_) AllReadyH.nil)
          go_simp
          refine (V3.out _).mono ?_
          rintro e w11 ⟨rfl, hb11⟩
          replace HBc := hidk (HBc.out.trans (hb11.mono HBc.out.size))
          try replace HR7 := hidk ((hb11.block _ (heap_lt HR7.out)).trans HR7.out)
          go_wp2_with fail
          refine hK.out _ _ ⟨hHeld.1.keep hb11, (hb11.block _ (heap_lt hHeld.2.1)).trans hHeld.2.1, (hb11.block _ (heap_lt hHeld.2.2)).trans hHeld.2.2⟩ (fun hHeld => ?_)
          clear hK K
          try simp only [Act.put, List.setIfInBounds_toArray, List.set_cons_zero, List.set_cons_succ]
          refine wpAnyH_ready (rs := [16]) (by kernel_rfl) (by simp) ?_
          refine (AllReadyH.cons (o := { dst := some 39, op := Op.call { callee := Callee.value (Operand.func 49), args := #[Operand.tmp 38], argTypes := #[9] }, type := 3, pos := "ref.go:92", after := #[{ on := 15, ground := Ground.data }, { on := 11, ground := Ground.chain }], guard := none }) rfl (fun K hK => ?_) AllReadyH.nil)
          go_simp
          refine (V5.out _).mono ?_
          rintro e w16 ⟨rfl, hb16⟩
          replace HBc := hidk (HBc.out.trans (hb16.mono HBc.out.size))
          try replace HR7 := hidk ((hb16.block _ (heap_lt HR7.out)).trans HR7.out)
          go_wp2_with fail
          refine hK.out _ _ ⟨hHeld.1.keep hb16, (hb16.block _ (heap_lt hHeld.2.1)).trans hHeld.2.1, (hb16.block _ (heap_lt hHeld.2.2)).trans hHeld.2.2⟩ (fun hHeld => ?_)
          clear hK K
          try simp only [Act.put, List.setIfInBounds_toArray, List.set_cons_zero, List.set_cons_succ]
          refine wpAnyH_take (i := 17) (oi := { dst := some 40, op := Op.build 26 #[(0, Operand.tmp 26), (1, Operand.tmp 30), (2, Operand.tmp 34), (3, Operand.tmp 35), (4, Operand.tmp 39)], type := 26, pos := "ref.go:92", after := #[{ on := 3, ground := Ground.data }, { on := 7, ground := Ground.data }, { on := 11, ground := Ground.data }, { on := 12, ground := Ground.data }, { on := 16, ground := Ground.data }], guard := none }) (v := .agg Q) rfl (by kernel_rfl) (by kernel_rfl) (by kernel_rfl) (fun _ _ _ h => h) (yieldsIf_build (by rfl) 26 _ rfl #[(0, .int .i64 v1), (1, .int .i64 v2), (2, .int .i64 v3), (3, .agg D), (4, .int .i64 v5)] rfl (.agg Q) BH.out) hHeld ?_
          try simp only [Act.put, List.setIfInBounds_toArray, List.set_cons_zero, List.set_cons_succ]
          refine wpAnyH_ready (rs := [19]) (by kernel_rfl) (by simp) ?_
          refine (AllReadyH.cons (o := { dst := none, op := Op.store 26 (Operand.tmp 7) (Operand.tmp 40), type := 0, pos := "ref.go:92", after := #[{ on := 18, ground := Ground.data }, { on := 17, ground := Ground.data }, { on := 16, ground := Ground.chain }, { on := 0, ground := Ground.phase }, { on := 1, ground := Ground.phase }, { on := 2, ground := Ground.phase }, { on := 3, ground := Ground.phase }, { on := 4, ground := Ground.phase }, { on := 5, ground := Ground.phase }, { on := 6, ground := Ground.phase }, { on := 7, ground := Ground.phase }, { on := 8, ground := Ground.phase }, { on := 9, ground := Ground.phase }, { on := 10, ground := Ground.phase }, { on := 11, ground := Ground.phase }, { on := 12, ground := Ground.phase }, { on := 13, ground := Ground.phase }, { on := 14, ground := Ground.phase }, { on := 15, ground := Ground.phase }, { on := 16, ground := Ground.phase }, { on := 17, ground := Ground.phase }, { on := 18, ground := Ground.phase }], guard := none }) rfl (fun K hK => ?_) AllReadyH.nil)
          refine step_set_var (by rfl) 26 (.tmp 7) (.tmp 40) rfl g7 Q rfl rfl 26 Z HR7.out HSQ.out HZQ.out H1Q.out ?_
          intro wz HW7
          refine hK.out _ _ ⟨texts_wrote hHeld.1 HW7.out (by have := HG7.out; have := HTB.out; omega), (HW7.out.other _ (by have := HG7.out; omega)).trans hHeld.2.1, (HW7.out.other _ (by have := HG7.out; omega)).trans hHeld.2.2⟩ (fun hHeld => ?_)
          clear hK K
          try simp only [Act.put, List.setIfInBounds_toArray, List.set_cons_zero, List.set_cons_succ]
          refine wpAnyH_done (by kernel_rfl) ?_ _
          have h7 : g6 < g7 := HG7.out
          have HR7z := hidk HW7.out.row
          have HR2z := hidk hHeld.2.2
          have HBz := hidk (HW7.out.below w.heap.size w HBc.out (by omega))
          clear HW7 HBc hHeld HR7
          cases bd
          · obtain ⟨rfl, rfl⟩ := HNO.out (by simp)
            go_wp2_with (first
              | (show wpList _ _ _ ({ dst := some 48, op := _, type := _, pos := _, after := _, guard := _ } :: _) _ _; refine wpList_build_none rfl 26 rfl R HBZ.out ?_; try simp only [Act.put, List.setIfInBounds_toArray, List.set_cons_zero, List.set_cons_succ])
              | (refine wpList_set_var rfl 26 (.tmp 2) (.tmp 48) rfl g2 R rfl rfl 26 R HR2z.out HSZ.out rfl H1Z.out ?_; intro wz HW2; try simp only [Act.put, List.setIfInBounds_toArray, List.set_cons_zero, List.set_cons_succ])
              | fail)
            refine bodyPost_ret (v := .tuple #[.agg R, .int .i64 70]) ?_ rfl ⟨rfl, HW2.out.below w.heap.size w HBz.out h2⟩
            exact results_row_tmp (p := 2) (q := 3) (ty := 26) rfl _ _ g2 26 R (0, 0) _ rfl HW2.out.row Tryd.underlying26 rfl HSZ.out
          · go_wp2_with (first
              | (show wpList _ _ _ ({ dst := some 44, op := _, type := _, pos := _, after := _, guard := _ } :: _) _ _; refine wpList_load_row_w (by rfl) 26 (.tmp 7) rfl g7 rfl 26 Q (0, 0) _ HR7z.out Tryd.underlying26 rfl HSQ.out ?_; try simp only [Act.put, List.setIfInBounds_toArray, List.set_cons_zero, List.set_cons_succ])
              | fail)
            refine (RI.out _).mono ?_
            rintro e wr ⟨rfl, hbr⟩
            have HBr := hidk (HBz.out.trans (hbr.mono HBz.out.size))
            have HR7r := hidk ((hbr.block _ (heap_lt HR7z.out)).trans HR7z.out)
            have HR2r := hidk ((hbr.block _ (heap_lt HR2z.out)).trans HR2z.out)
            clear hbr HBz HR7z HR2z RI
            cases br
            · obtain ⟨rfl, rfl⟩ := HNO.out (by simp)
              go_wp2_with (first
                | (show wpList _ _ _ ({ dst := some 48, op := _, type := _, pos := _, after := _, guard := _ } :: _) _ _; refine wpList_build_none rfl 26 rfl R HBZ.out ?_; try simp only [Act.put, List.setIfInBounds_toArray, List.set_cons_zero, List.set_cons_succ])
                | (refine wpList_set_var rfl 26 (.tmp 2) (.tmp 48) rfl g2 R rfl rfl 26 R HR2r.out HSZ.out rfl H1Z.out ?_; intro wz HW2; try simp only [Act.put, List.setIfInBounds_toArray, List.set_cons_zero, List.set_cons_succ])
                | fail)
              refine bodyPost_ret (v := .tuple #[.agg R, .int .i64 70]) ?_ rfl ⟨rfl, HW2.out.below w.heap.size w HBr.out h2⟩
              exact results_row_tmp (p := 2) (q := 3) (ty := 26) rfl _ _ g2 26 R (0, 0) _ rfl HW2.out.row Tryd.underlying26 rfl HSZ.out
            · obtain ⟨rfl, rfl⟩ := HOK.out (by simp)
              go_wp2_with (first
                | (show wpList _ _ _ ({ dst := some 49, op := _, type := _, pos := _, after := _, guard := _ } :: _) _ _; refine wpList_load_row rfl 26 (.tmp 7) rfl g7 rfl 26 R (0, 0) _ HR7r.out Tryd.underlying26 rfl HSQ.out ?_; try simp only [Act.put, List.setIfInBounds_toArray, List.set_cons_zero, List.set_cons_succ])
                | (refine wpList_set_var rfl 26 (.tmp 2) (.tmp 49) rfl g2 R rfl rfl 26 Z HR2r.out HSR.out HZR.out H1R.out ?_; intro wz HW2; try simp only [Act.put, List.setIfInBounds_toArray, List.set_cons_zero, List.set_cons_succ])
                | fail)
              refine bodyPost_ret (v := .tuple #[.agg R, .int .i64 0]) ?_ rfl ⟨rfl, HW2.out.below w.heap.size w HBr.out h2⟩
              exact results_row_tmp (p := 2) (q := 3) (ty := 26) rfl _ _ g2 26 R (0, 0) _ rfl HW2.out.row Tryd.underlying26 rfl HSR.out
      · refine step_new_var (by rfl) 26 rfl Z HA.out ?_
        intro g7 wg HM7
        have HR7 := hidk HM7.out.row
        have HG7 : Hid (g6 < g7) := (by show g6 < g7; rw [HM7.out.new]; exact heap_lt hHeld.2.1)
        replace HBc := hidk (HBc.out.trans (HM7.out.below.mono HBc.out.size))
        refine hK.out _ _ ⟨hHeld.1.keep HM7.out.below, (HM7.out.below.block _ (heap_lt hHeld.2.1)).trans hHeld.2.1, (HM7.out.below.block _ (heap_lt hHeld.2.2)).trans hHeld.2.2⟩ (fun hHeld => ?_)
        clear hK K
        try simp only [Act.put, List.setIfInBounds_toArray, List.set_cons_zero, List.set_cons_succ]
        refine wpAnyH_ready (rs := [7]) (by kernel_rfl) (by simp) ?_
        refine (AllReadyH.cons (o := { dst := some 30, op := Op.call { callee := Callee.value (Operand.func 49), args := #[Operand.tmp 29], argTypes := #[9] }, type := 3, pos := "ref.go:92", after := #[{ on := 6, ground := Ground.data }, { on := 3, ground := Ground.chain }], guard := none }) rfl (fun K hK => ?_) AllReadyH.nil)
        go_simp
        refine (V2.out _).mono ?_
        rintro e w7 ⟨rfl, hb7⟩
        replace HBc := hidk (HBc.out.trans (hb7.mono HBc.out.size))
        try replace HR7 := hidk ((hb7.block _ (heap_lt HR7.out)).trans HR7.out)
        go_wp2_with fail
        refine hK.out _ _ ⟨hHeld.1.keep hb7, (hb7.block _ (heap_lt hHeld.2.1)).trans hHeld.2.1, (hb7.block _ (heap_lt hHeld.2.2)).trans hHeld.2.2⟩ (fun hHeld => ?_)
        clear hK K
        try simp only [Act.put, List.setIfInBounds_toArray, List.set_cons_zero, List.set_cons_succ]
        refine wpAnyH_ready (rs := [11]) (by kernel_rfl) (by simp) ?_
        refine (AllReadyH.cons (o := { dst := some 34, op := Op.call { callee := Callee.value (Operand.func 49), args := #[Operand.tmp 33], argTypes := #[9] }, type := 3, pos := "ref.go:92", after := #[{ on := 10, ground := Ground.data }, { on := 7, ground := Ground.chain }], guard := none }) rfl (fun K hK => ?_) AllReadyH.nil)
        go_simp
        refine (V3.out _).mono ?_
        rintro e w11 ⟨rfl, hb11⟩
        replace HBc := hidk (HBc.out.trans (hb11.mono HBc.out.size))
        try replace HR7 := hidk ((hb11.block _ (heap_lt HR7.out)).trans HR7.out)
        go_wp2_with fail
        refine hK.out _ _ ⟨hHeld.1.keep hb11, (hb11.block _ (heap_lt hHeld.2.1)).trans hHeld.2.1, (hb11.block _ (heap_lt hHeld.2.2)).trans hHeld.2.2⟩ (fun hHeld => ?_)
        clear hK K
        try simp only [Act.put, List.setIfInBounds_toArray, List.set_cons_zero, List.set_cons_succ]
        refine wpAnyH_ready (rs := [16]) (by kernel_rfl) (by simp) ?_
        refine (AllReadyH.cons (o := { dst := some 39, op := Op.call { callee := Callee.value (Operand.func 49), args := #[Operand.tmp 38], argTypes := #[9] }, type := 3, pos := "ref.go:92", after := #[{ on := 15, ground := Ground.data }, { on := 11, ground := Ground.chain }], guard := none }) rfl (fun K hK => ?_) AllReadyH.nil)
        go_simp
        refine (V5.out _).mono ?_
        rintro e w16 ⟨rfl, hb16⟩
        replace HBc := hidk (HBc.out.trans (hb16.mono HBc.out.size))
        try replace HR7 := hidk ((hb16.block _ (heap_lt HR7.out)).trans HR7.out)
        go_wp2_with fail
        refine hK.out _ _ ⟨hHeld.1.keep hb16, (hb16.block _ (heap_lt hHeld.2.1)).trans hHeld.2.1, (hb16.block _ (heap_lt hHeld.2.2)).trans hHeld.2.2⟩ (fun hHeld => ?_)
        clear hK K
        try simp only [Act.put, List.setIfInBounds_toArray, List.set_cons_zero, List.set_cons_succ]
        refine wpAnyH_take (i := 17) (oi := { dst := some 40, op := Op.build 26 #[(0, Operand.tmp 26), (1, Operand.tmp 30), (2, Operand.tmp 34), (3, Operand.tmp 35), (4, Operand.tmp 39)], type := 26, pos := "ref.go:92", after := #[{ on := 3, ground := Ground.data }, { on := 7, ground := Ground.data }, { on := 11, ground := Ground.data }, { on := 12, ground := Ground.data }, { on := 16, ground := Ground.data }], guard := none }) (v := .agg Q) rfl (by kernel_rfl) (by kernel_rfl) (by kernel_rfl) (fun _ _ _ h => h) (yieldsIf_build (by rfl) 26 _ rfl #[(0, .int .i64 v1), (1, .int .i64 v2), (2, .int .i64 v3), (3, .agg D), (4, .int .i64 v5)] rfl (.agg Q) BH.out) hHeld ?_
        try simp only [Act.put, List.setIfInBounds_toArray, List.set_cons_zero, List.set_cons_succ]
        refine wpAnyH_ready (rs := [19]) (by kernel_rfl) (by simp) ?_
        refine (AllReadyH.cons (o := { dst := none, op := Op.store 26 (Operand.tmp 7) (Operand.tmp 40), type := 0, pos := "ref.go:92", after := #[{ on := 18, ground := Ground.data }, { on := 17, ground := Ground.data }, { on := 16, ground := Ground.chain }, { on := 0, ground := Ground.phase }, { on := 1, ground := Ground.phase }, { on := 2, ground := Ground.phase }, { on := 3, ground := Ground.phase }, { on := 4, ground := Ground.phase }, { on := 5, ground := Ground.phase }, { on := 6, ground := Ground.phase }, { on := 7, ground := Ground.phase }, { on := 8, ground := Ground.phase }, { on := 9, ground := Ground.phase }, { on := 10, ground := Ground.phase }, { on := 11, ground := Ground.phase }, { on := 12, ground := Ground.phase }, { on := 13, ground := Ground.phase }, { on := 14, ground := Ground.phase }, { on := 15, ground := Ground.phase }, { on := 16, ground := Ground.phase }, { on := 17, ground := Ground.phase }, { on := 18, ground := Ground.phase }], guard := none }) rfl (fun K hK => ?_) AllReadyH.nil)
        refine step_set_var (by rfl) 26 (.tmp 7) (.tmp 40) rfl g7 Q rfl rfl 26 Z HR7.out HSQ.out HZQ.out H1Q.out ?_
        intro wz HW7
        refine hK.out _ _ ⟨texts_wrote hHeld.1 HW7.out (by have := HG7.out; have := HTB.out; omega), (HW7.out.other _ (by have := HG7.out; omega)).trans hHeld.2.1, (HW7.out.other _ (by have := HG7.out; omega)).trans hHeld.2.2⟩ (fun hHeld => ?_)
        clear hK K
        try simp only [Act.put, List.setIfInBounds_toArray, List.set_cons_zero, List.set_cons_succ]
        refine wpAnyH_done (by kernel_rfl) ?_ _
        have h7 : g6 < g7 := HG7.out
        have HR7z := hidk HW7.out.row
        have HR2z := hidk hHeld.2.2
        have HBz := hidk (HW7.out.below w.heap.size w HBc.out (by omega))
        clear HW7 HBc hHeld HR7
        cases bd
        · obtain ⟨rfl, rfl⟩ := HNO.out (by simp)
          go_wp2_with (first
            | (show wpList _ _ _ ({ dst := some 48, op := _, type := _, pos := _, after := _, guard := _ } :: _) _ _; refine wpList_build_none rfl 26 rfl R HBZ.out ?_; try simp only [Act.put, List.setIfInBounds_toArray, List.set_cons_zero, List.set_cons_succ])
            | (refine wpList_set_var rfl 26 (.tmp 2) (.tmp 48) rfl g2 R rfl rfl 26 R HR2z.out HSZ.out rfl H1Z.out ?_; intro wz HW2; try simp only [Act.put, List.setIfInBounds_toArray, List.set_cons_zero, List.set_cons_succ])
            | fail)
          refine bodyPost_ret (v := .tuple #[.agg R, .int .i64 70]) ?_ rfl ⟨rfl, HW2.out.below w.heap.size w HBz.out h2⟩
          exact results_row_tmp (p := 2) (q := 3) (ty := 26) rfl _ _ g2 26 R (0, 0) _ rfl HW2.out.row Tryd.underlying26 rfl HSZ.out
        · go_wp2_with (first
            | (show wpList _ _ _ ({ dst := some 44, op := _, type := _, pos := _, after := _, guard := _ } :: _) _ _; refine wpList_load_row_w (by rfl) 26 (.tmp 7) rfl g7 rfl 26 Q (0, 0) _ HR7z.out Tryd.underlying26 rfl HSQ.out ?_; try simp only [Act.put, List.setIfInBounds_toArray, List.set_cons_zero, List.set_cons_succ])
            | fail)
          refine (RI.out _).mono ?_
          rintro e wr ⟨rfl, hbr⟩
          have HBr := hidk (HBz.out.trans (hbr.mono HBz.out.size))
          have HR7r := hidk ((hbr.block _ (heap_lt HR7z.out)).trans HR7z.out)
          have HR2r := hidk ((hbr.block _ (heap_lt HR2z.out)).trans HR2z.out)
          clear hbr HBz HR7z HR2z RI
          cases br
          · obtain ⟨rfl, rfl⟩ := HNO.out (by simp)
            go_wp2_with (first
              | (show wpList _ _ _ ({ dst := some 48, op := _, type := _, pos := _, after := _, guard := _ } :: _) _ _; refine wpList_build_none rfl 26 rfl R HBZ.out ?_; try simp only [Act.put, List.setIfInBounds_toArray, List.set_cons_zero, List.set_cons_succ])
              | (refine wpList_set_var rfl 26 (.tmp 2) (.tmp 48) rfl g2 R rfl rfl 26 R HR2r.out HSZ.out rfl H1Z.out ?_; intro wz HW2; try simp only [Act.put, List.setIfInBounds_toArray, List.set_cons_zero, List.set_cons_succ])
              | fail)
            refine bodyPost_ret (v := .tuple #[.agg R, .int .i64 70]) ?_ rfl ⟨rfl, HW2.out.below w.heap.size w HBr.out h2⟩
            exact results_row_tmp (p := 2) (q := 3) (ty := 26) rfl _ _ g2 26 R (0, 0) _ rfl HW2.out.row Tryd.underlying26 rfl HSZ.out
          · obtain ⟨rfl, rfl⟩ := HOK.out (by simp)
            go_wp2_with (first
              | (show wpList _ _ _ ({ dst := some 49, op := _, type := _, pos := _, after := _, guard := _ } :: _) _ _; refine wpList_load_row rfl 26 (.tmp 7) rfl g7 rfl 26 R (0, 0) _ HR7r.out Tryd.underlying26 rfl HSQ.out ?_; try simp only [Act.put, List.setIfInBounds_toArray, List.set_cons_zero, List.set_cons_succ])
              | (refine wpList_set_var rfl 26 (.tmp 2) (.tmp 49) rfl g2 R rfl rfl 26 Z HR2r.out HSR.out HZR.out H1R.out ?_; intro wz HW2; try simp only [Act.put, List.setIfInBounds_toArray, List.set_cons_zero, List.set_cons_succ])
              | fail)
            refine bodyPost_ret (v := .tuple #[.agg R, .int .i64 0]) ?_ rfl ⟨rfl, HW2.out.below w.heap.size w HBr.out h2⟩
            exact results_row_tmp (p := 2) (q := 3) (ty := 26) rfl _ _ g2 26 R (0, 0) _ rfl HW2.out.row Tryd.underlying26 rfl HSR.out
    · refine step_new_var (by rfl) 26 rfl Z HA.out ?_
      intro g7 wg HM7
      have HR7 := hidk HM7.out.row
      have HG7 : Hid (g6 < g7) := (by show g6 < g7; rw [HM7.out.new]; exact heap_lt hHeld.2.1)
      replace HBc := hidk (HBc.out.trans (HM7.out.below.mono HBc.out.size))
      refine hK.out _ _ ⟨hHeld.1.keep HM7.out.below, (HM7.out.below.block _ (heap_lt hHeld.2.1)).trans hHeld.2.1, (HM7.out.below.block _ (heap_lt hHeld.2.2)).trans hHeld.2.2⟩ (fun hHeld => ?_)
      clear hK K
      try simp only [Act.put, List.setIfInBounds_toArray, List.set_cons_zero, List.set_cons_succ]
      refine wpAnyH_ready (rs := [3]) (by kernel_rfl) (by simp) ?_
      refine (AllReadyH.cons (o := { dst := some 26, op := Op.call { callee := Callee.value (Operand.func 49), args := #[Operand.tmp 25], argTypes := #[9] }, type := 3, pos := "ref.go:92", after := #[{ on := 2, ground := Ground.data }], guard := none }) rfl (fun K hK => ?_) AllReadyH.nil)
      go_simp
      refine (V1.out _).mono ?_
      rintro e w3 ⟨rfl, hb3⟩
      replace HBc := hidk (HBc.out.trans (hb3.mono HBc.out.size))
      try replace HR7 := hidk ((hb3.block _ (heap_lt HR7.out)).trans HR7.out)
      go_wp2_with fail
      refine hK.out _ _ ⟨hHeld.1.keep hb3, (hb3.block _ (heap_lt hHeld.2.1)).trans hHeld.2.1, (hb3.block _ (heap_lt hHeld.2.2)).trans hHeld.2.2⟩ (fun hHeld => ?_)
      clear hK K
      try simp only [Act.put, List.setIfInBounds_toArray, List.set_cons_zero, List.set_cons_succ]
      refine wpAnyH_ready (rs := [7]) (by kernel_rfl) (by simp) ?_
      refine (AllReadyH.cons (o := { dst := some 30, op := Op.call { callee := Callee.value (Operand.func 49), args := #[Operand.tmp 29], argTypes := #[9] }, type := 3, pos := "ref.go:92", after := #[{ on := 6, ground := Ground.data }, { on := 3, ground := Ground.chain }], guard := none }) rfl (fun K hK => ?_) AllReadyH.nil)
      go_simp
      refine (V2.out _).mono ?_
      rintro e w7 ⟨rfl, hb7⟩
      replace HBc := hidk (HBc.out.trans (hb7.mono HBc.out.size))
      try replace HR7 := hidk ((hb7.block _ (heap_lt HR7.out)).trans HR7.out)
      go_wp2_with fail
      refine hK.out _ _ ⟨hHeld.1.keep hb7, (hb7.block _ (heap_lt hHeld.2.1)).trans hHeld.2.1, (hb7.block _ (heap_lt hHeld.2.2)).trans hHeld.2.2⟩ (fun hHeld => ?_)
      clear hK K
      try simp only [Act.put, List.setIfInBounds_toArray, List.set_cons_zero, List.set_cons_succ]
      refine wpAnyH_ready (rs := [11]) (by kernel_rfl) (by simp) ?_
      refine (AllReadyH.cons (o := { dst := some 34, op := Op.call { callee := Callee.value (Operand.func 49), args := #[Operand.tmp 33], argTypes := #[9] }, type := 3, pos := "ref.go:92", after := #[{ on := 10, ground := Ground.data }, { on := 7, ground := Ground.chain }], guard := none }) rfl (fun K hK => ?_) AllReadyH.nil)
      go_simp
      refine (V3.out _).mono ?_
      rintro e w11 ⟨rfl, hb11⟩
      replace HBc := hidk (HBc.out.trans (hb11.mono HBc.out.size))
      try replace HR7 := hidk ((hb11.block _ (heap_lt HR7.out)).trans HR7.out)
      go_wp2_with fail
      refine hK.out _ _ ⟨hHeld.1.keep hb11, (hb11.block _ (heap_lt hHeld.2.1)).trans hHeld.2.1, (hb11.block _ (heap_lt hHeld.2.2)).trans hHeld.2.2⟩ (fun hHeld => ?_)
      clear hK K
      try simp only [Act.put, List.setIfInBounds_toArray, List.set_cons_zero, List.set_cons_succ]
      refine wpAnyH_ready (rs := [16]) (by kernel_rfl) (by simp) ?_
      refine (AllReadyH.cons (o := { dst := some 39, op := Op.call { callee := Callee.value (Operand.func 49), args := #[Operand.tmp 38], argTypes := #[9] }, type := 3, pos := "ref.go:92", after := #[{ on := 15, ground := Ground.data }, { on := 11, ground := Ground.chain }], guard := none }) rfl (fun K hK => ?_) AllReadyH.nil)
      go_simp
      refine (V5.out _).mono ?_
      rintro e w16 ⟨rfl, hb16⟩
      replace HBc := hidk (HBc.out.trans (hb16.mono HBc.out.size))
      try replace HR7 := hidk ((hb16.block _ (heap_lt HR7.out)).trans HR7.out)
      go_wp2_with fail
      refine hK.out _ _ ⟨hHeld.1.keep hb16, (hb16.block _ (heap_lt hHeld.2.1)).trans hHeld.2.1, (hb16.block _ (heap_lt hHeld.2.2)).trans hHeld.2.2⟩ (fun hHeld => ?_)
      clear hK K
      try simp only [Act.put, List.setIfInBounds_toArray, List.set_cons_zero, List.set_cons_succ]
      refine wpAnyH_take (i := 17) (oi := { dst := some 40, op := Op.build 26 #[(0, Operand.tmp 26), (1, Operand.tmp 30), (2, Operand.tmp 34), (3, Operand.tmp 35), (4, Operand.tmp 39)], type := 26, pos := "ref.go:92", after := #[{ on := 3, ground := Ground.data }, { on := 7, ground := Ground.data }, { on := 11, ground := Ground.data }, { on := 12, ground := Ground.data }, { on := 16, ground := Ground.data }], guard := none }) (v := .agg Q) rfl (by kernel_rfl) (by kernel_rfl) (by kernel_rfl) (fun _ _ _ h => h) (yieldsIf_build (by rfl) 26 _ rfl #[(0, .int .i64 v1), (1, .int .i64 v2), (2, .int .i64 v3), (3, .agg D), (4, .int .i64 v5)] rfl (.agg Q) BH.out) hHeld ?_
      try simp only [Act.put, List.setIfInBounds_toArray, List.set_cons_zero, List.set_cons_succ]
      refine wpAnyH_ready (rs := [19]) (by kernel_rfl) (by simp) ?_
      refine (AllReadyH.cons (o := { dst := none, op := Op.store 26 (Operand.tmp 7) (Operand.tmp 40), type := 0, pos := "ref.go:92", after := #[{ on := 18, ground := Ground.data }, { on := 17, ground := Ground.data }, { on := 16, ground := Ground.chain }, { on := 0, ground := Ground.phase }, { on := 1, ground := Ground.phase }, { on := 2, ground := Ground.phase }, { on := 3, ground := Ground.phase }, { on := 4, ground := Ground.phase }, { on := 5, ground := Ground.phase }, { on := 6, ground := Ground.phase }, { on := 7, ground := Ground.phase }, { on := 8, ground := Ground.phase }, { on := 9, ground := Ground.phase }, { on := 10, ground := Ground.phase }, { on := 11, ground := Ground.phase }, { on := 12, ground := Ground.phase }, { on := 13, ground := Ground.phase }, { on := 14, ground := Ground.phase }, { on := 15, ground := Ground.phase }, { on := 16, ground := Ground.phase }, { on := 17, ground := Ground.phase }, { on := 18, ground := Ground.phase }], guard := none }) rfl (fun K hK => ?_) AllReadyH.nil)
      refine step_set_var (by rfl) 26 (.tmp 7) (.tmp 40) rfl g7 Q rfl rfl 26 Z HR7.out HSQ.out HZQ.out H1Q.out ?_
      intro wz HW7
      refine hK.out _ _ ⟨texts_wrote hHeld.1 HW7.out (by have := HG7.out; have := HTB.out; omega), (HW7.out.other _ (by have := HG7.out; omega)).trans hHeld.2.1, (HW7.out.other _ (by have := HG7.out; omega)).trans hHeld.2.2⟩ (fun hHeld => ?_)
      clear hK K
      try simp only [Act.put, List.setIfInBounds_toArray, List.set_cons_zero, List.set_cons_succ]
      refine wpAnyH_done (by kernel_rfl) ?_ _
      have h7 : g6 < g7 := HG7.out
      have HR7z := hidk HW7.out.row
      have HR2z := hidk hHeld.2.2
      have HBz := hidk (HW7.out.below w.heap.size w HBc.out (by omega))
      clear HW7 HBc hHeld HR7
      cases bd
      · obtain ⟨rfl, rfl⟩ := HNO.out (by simp)
        go_wp2_with (first
          | (show wpList _ _ _ ({ dst := some 48, op := _, type := _, pos := _, after := _, guard := _ } :: _) _ _; refine wpList_build_none rfl 26 rfl R HBZ.out ?_; try simp only [Act.put, List.setIfInBounds_toArray, List.set_cons_zero, List.set_cons_succ])
          | (refine wpList_set_var rfl 26 (.tmp 2) (.tmp 48) rfl g2 R rfl rfl 26 R HR2z.out HSZ.out rfl H1Z.out ?_; intro wz HW2; try simp only [Act.put, List.setIfInBounds_toArray, List.set_cons_zero, List.set_cons_succ])
          | fail)
        refine bodyPost_ret (v := .tuple #[.agg R, .int .i64 70]) ?_ rfl ⟨rfl, HW2.out.below w.heap.size w HBz.out h2⟩
        exact results_row_tmp (p := 2) (q := 3) (ty := 26) rfl _ _ g2 26 R (0, 0) _ rfl HW2.out.row Tryd.underlying26 rfl HSZ.out
      · go_wp2_with (first
          | (show wpList _ _ _ ({ dst := some 44, op := _, type := _, pos := _, after := _, guard := _ } :: _) _ _; refine wpList_load_row_w (by rfl) 26 (.tmp 7) rfl g7 rfl 26 Q (0, 0) _ HR7z.out Tryd.underlying26 rfl HSQ.out ?_; try simp only [Act.put, List.setIfInBounds_toArray, List.set_cons_zero, List.set_cons_succ])
          | fail)
        refine (RI.out _).mono ?_
        rintro e wr ⟨rfl, hbr⟩
        have HBr := hidk (HBz.out.trans (hbr.mono HBz.out.size))
        have HR7r := hidk ((hbr.block _ (heap_lt HR7z.out)).trans HR7z.out)
        have HR2r := hidk ((hbr.block _ (heap_lt HR2z.out)).trans HR2z.out)
        clear hbr HBz HR7z HR2z RI
        cases br
        · obtain ⟨rfl, rfl⟩ := HNO.out (by simp)
          go_wp2_with (first
            | (show wpList _ _ _ ({ dst := some 48, op := _, type := _, pos := _, after := _, guard := _ } :: _) _ _; refine wpList_build_none rfl 26 rfl R HBZ.out ?_; try simp only [Act.put, List.setIfInBounds_toArray, List.set_cons_zero, List.set_cons_succ])
            | (refine wpList_set_var rfl 26 (.tmp 2) (.tmp 48) rfl g2 R rfl rfl 26 R HR2r.out HSZ.out rfl H1Z.out ?_; intro wz HW2; try simp only [Act.put, List.setIfInBounds_toArray, List.set_cons_zero, List.set_cons_succ])
            | fail)
          refine bodyPost_ret (v := .tuple #[.agg R, .int .i64 70]) ?_ rfl ⟨rfl, HW2.out.below w.heap.size w HBr.out h2⟩
          exact results_row_tmp (p := 2) (q := 3) (ty := 26) rfl _ _ g2 26 R (0, 0) _ rfl HW2.out.row Tryd.underlying26 rfl HSZ.out
        · obtain ⟨rfl, rfl⟩ := HOK.out (by simp)
          go_wp2_with (first
            | (show wpList _ _ _ ({ dst := some 49, op := _, type := _, pos := _, after := _, guard := _ } :: _) _ _; refine wpList_load_row rfl 26 (.tmp 7) rfl g7 rfl 26 R (0, 0) _ HR7r.out Tryd.underlying26 rfl HSQ.out ?_; try simp only [Act.put, List.setIfInBounds_toArray, List.set_cons_zero, List.set_cons_succ])
            | (refine wpList_set_var rfl 26 (.tmp 2) (.tmp 49) rfl g2 R rfl rfl 26 Z HR2r.out HSR.out HZR.out H1R.out ?_; intro wz HW2; try simp only [Act.put, List.setIfInBounds_toArray, List.set_cons_zero, List.set_cons_succ])
            | fail)
          refine bodyPost_ret (v := .tuple #[.agg R, .int .i64 0]) ?_ rfl ⟨rfl, HW2.out.below w.heap.size w HBr.out h2⟩
          exact results_row_tmp (p := 2) (q := 3) (ty := 26) rfl _ _ g2 26 R (0, 0) _ rfl HW2.out.row Tryd.underlying26 rfl HSR.out
end Go.Proofs.YtdnhnjimhbbabaaDoor

/- What the document's GetSigned answers. -/
namespace Go.Proofs.YtdnhnjimhbbabaaDoor
open Go.RowKit Sums Nums
set_option linter.unusedVariables false
set_option linter.unusedSimpArgs false
set_option maxRecDepth 100000
/-- '[]byte(s)': a new row that reads s. -/
theorem wpList_conv_text {P : Program} {ops : Array Oper} {rest : List Oper} {o : Oper} {a : Act} {w : World} {Q : Exit → Act → World → Prop} (hg : o.guard = none) (src dst e : TypeId) (x : Operand) (ho : o.op = .convert src dst x)
    (s : ByteArray) (hx : a.eval x = .string s) (hs : P.underlying src = some .string) (hd : P.underlying dst = some (.slice e)) (he : P.underlying e = some (.int .u8)) (hl : s.size ≤ maxLen)
    (h : ∀ b c w', Hid (Reads w' (some b) s.size c s.data.toList ∧ Below w.heap.size w w') → wpList P ops Q rest (a.put o.dst (.slice (some b) s.size c)) w') : wpList P ops Q (o :: rest) a w := by
  refine wpList_plain hg fun K hK => ?_
  have hr := run_bytes_of_string (P := P) w src dst e s hs hd he
  obtain ⟨c, hc⟩ : ∃ c, grownCap w s.size 0 e = c := ⟨_, rfl⟩
  have h1 : s.size ≤ c := by rw [← hc]; exact grownCap_ge w s.size 0 e
  have h2 : c ≤ maxLen := by rw [← hc]; exact grownCap_le_maxLen w s.size 0 e hl
  rw [hc] at hr
  obtain ⟨C, hC⟩ : ∃ C, bytesRow s c = C := ⟨_, rfl⟩
  rw [hC] at hr
  have hB : Below w.heap.size w (w.drew.alloc (.cells C e (C.size, C.size + 1))) := (Below.refl _ _).drew.alloc (Nat.le_refl _) _
  have hR : Reads (w.drew.alloc (.cells C e (C.size, C.size + 1))) (some ⟨w.heap.size, 0, none⟩) s.size c s.data.toList := by
    refine ⟨Array.length_toList, h1, by unfold maxLen at h2; omega, .inr (.inr ⟨w.heap.size, 0, rfl, ?_, fun i hi => ?_⟩)⟩
    · show w.heap.size < (w.heap.push _).size
      simp
    · have hn : (w.drew.alloc (.cells C e (C.size, C.size + 1))).heap[w.heap.size]? = some (.cells C e (C.size, C.size + 1)) := by
        show (w.heap.push _)[w.heap.size]? = _
        simp
      have hi' : i < s.data.size := by simpa using hi
      simp only [World.cell?, hn, Nat.zero_add]
      rw [← hC]
      unfold bytesRow
      rw [Array.getElem?_append_left (by simpa using hi')]
      simp
      exact ⟨s.data[i], Array.getElem?_eq_getElem hi', rfl⟩
  have hk := hK _ _ (h _ _ _ ⟨hR, hB⟩)
  unfold Oper.wp execOp
  simp only [ho]
  simp [hx, hr]
  exact hk
def getSO (bs : List UInt8) : SgT := (getS bs).getD zeroS
def getSE (bs : List UInt8) : Int := if (getS bs).isSome then 0 else 70
theorem getSO_digs (bs : List UInt8) : (getSO bs).h.d.length = 32 ∧ (getSO bs).g.length = 32 := by
  unfold getSO
  cases h : getS bs with
  | none => exact ⟨rfl, rfl⟩
  | some x => exact ⟨(getS_some h).2.1, (getS_some h).2.2.1⟩
theorem getHE_two (bs : List UInt8) : getHE bs = 0 ∨ getHE bs = 70 := by unfold getHE; split <;> simp
theorem parts_size {bs : List UInt8} {n : Nat} {l : List ByteArray} (h : partsO bs n = some l) : ∀ y ∈ l, y.size ≤ bs.length := by
  intro y hy
  obtain ⟨-, -, h3⟩ := row_parts h
  have h4 := rowB_length (fieldsN l)
  rw [h3] at h4
  have h5 : (fieldsN l).map (fun f => f.2.size) = l.map (·.size) := by
    have := congrArg (List.map ByteArray.size) (fieldsN_snd l)
    rw [List.map_map] at this
    exact this
  rw [h5] at h4
  have h6 : ∀ (l : List ByteArray), y ∈ l → y.size ≤ (l.map (·.size)).sum := by
    intro l
    induction l with
    | nil => intro h; cases h
    | cons a r ih =>
      intro h
      simp only [List.map_cons, List.sum_cons]
      rcases List.mem_cons.1 h with rfl | h
      · omega
      · have := ih h; omega
  have := h6 l hy
  omega
theorem getS_three {bs : List UInt8} {x1 x2 x3 : ByteArray} (hp : partsO bs 3 = some [x1, x2, x3]) (s : SgT) (hs : s = ⟨getHO x1.data.toList, valO x2.data.toList, digO x3⟩) (E : Int) (bd bm : Bool) (hE : E = getHE x1.data.toList) (hb : decide (x3.size = 32) = bd) (hm : mayS s = bm) :
    ((E = 0 ∧ bd = true ∧ bm = true) → getS bs = some s) ∧ (¬ (E = 0 ∧ bd = true ∧ bm = true) → getS bs = none) := by
  have hg : getS bs = match getO x1.data.toList with
    | some h => if x3.size = 32 ∧ mayS ⟨h, valO x2.data.toList, x3.data.toList⟩ = true then some ⟨h, valO x2.data.toList, x3.data.toList⟩ else none
    | none => none := by unfold getS; rw [hp]; rfl
  cases ho : getO x1.data.toList with
  | none =>
    rw [ho] at hg
    have e : E = 70 := by rw [hE]; unfold getHE; rw [ho]; rfl
    exact ⟨fun h => by rw [e] at h; omega, fun _ => hg⟩
  | some h =>
    rw [ho] at hg
    have e : E = 0 := by rw [hE]; unfold getHE; rw [ho]; rfl
    have eh : getHO x1.data.toList = h := by unfold getHO; rw [ho]; rfl
    by_cases h3 : x3.size = 32
    · have es : s = ⟨h, valO x2.data.toList, x3.data.toList⟩ := by rw [hs, eh]; unfold digO; rw [if_pos h3]
      have hbd : bd = true := by rw [← hb]; simpa using h3
      refine ⟨fun hh => ?_, fun hh => ?_⟩
      · rw [hg]; show (if _ then _ else _) = _; rw [← es, if_pos ⟨h3, by rw [hm]; exact hh.2.2⟩]
      · rw [hg]; show (if _ then _ else _) = _; rw [← es, if_neg]
        rintro ⟨_, hm'⟩
        exact hh ⟨e, hbd, by rw [← hm]; exact hm'⟩
    · have hbd : bd = false := by rw [← hb]; simpa using h3
      refine ⟨fun hh => by rw [hbd] at hh; exact absurd hh.2.1 (by simp), fun _ => ?_⟩
      rw [hg]; show (if _ then _ else _) = _; rw [if_neg]
      exact fun hh => h3 hh.1
set_option maxHeartbeats 16000000 in
theorem refGetS_any (a : Option Addr) (len cap : Nat) (bs : List UInt8) (w : World) (hR : Reads w a len cap bs) (hl : len ≤ 1000000) (R : Array Value) (HR : Hid (R = (scells (getSO bs)).toArray)) :
    Calls Tryd.prog 20 #[.slice a len cap] w fun e w' => e = .returned (.tuple #[.agg R, .int .i64 (getSE bs)]) ∧ Below w.heap.size w w' := by
  have hnot : ∀ (x : Bool) (w : World), (Op.unary .not (.bool x)).run Tryd.prog w = .ok (.bool (!x)) w := fun _ _ => rfl
  obtain ⟨Z, HZ, HA, HBZ, H69⟩ := noughtsS
  obtain ⟨ZH, HZH, HAH, HBZH, H36⟩ := noughtsH
  obtain ⟨ZD, HZD, HAD, HSZD, H1ZD, H32D⟩ := noughts27
  have hdR := getSO_digs bs
  have HSR : Hid ((Tryd.prog.info? 28).map (·.size) = some R.size) := by show _ = _; rw [sizeS, HR.out]; simp [scells_length _ hdR.1 hdR.2]
  have H1R : Hid (R.all (·.oneCell') = true) := by show _ = _; rw [HR.out]; exact one_cellsS _
  have HZR : Hid (Z.size = R.size) := by show _ = _; rw [H69.out, HR.out]; simp [scells_length _ hdR.1 hdR.2]
  have PA : Hid (∀ W, Below w.heap.size w W → Calls Tryd.prog 47 #[.slice a len cap, .int .i64 3] W fun e w' => PartsR bs 3 e w' ∧ Below W.heap.size W w') := fun W hb => refParts_any a len cap bs 3 W (hR.below hb) hl (by omega)
  have hlen : bs.length = len := hR.1
  clear hR
  cases hp : partsO bs 3 with
  | none =>
    have hg : getS bs = none := by unfold getS; rw [hp]
    have hE : getSE bs = 70 := by unfold getSE; rw [hg]; rfl
    obtain rfl : R = Z := by rw [HR.out, HZ.out]; unfold getSO; rw [hg]; rfl
    have PN : Hid (∀ W, Below w.heap.size w W → Calls Tryd.prog 47 #[.slice a len cap, .int .i64 3] W fun e w' => e = .returned (.tuple #[.slice none 0 0, .bool false]) ∧ Below W.heap.size W w') := fun W hb => (PA.out W hb).mono (by rintro e w' ⟨h1, h2⟩; unfold PartsR at h1; rw [hp] at h1; exact ⟨h1, h2⟩)
    rw [hE]
    clear hE hg hp PA HR HZ HZR hdR HZH HAH HBZH H36 HZD HAD HSZD H1ZD H32D
    go_enter Tryd.func20, Tryd.ntmps20
    go_wp2_with (first
      | (show wpList _ _ _ ({ dst := some 2, op := _, type := _, pos := _, after := _, guard := _ } :: _) _ _; refine wpList_new_var rfl 28 rfl R HA.out ?_; intro g2 w1 HM2; try simp only [Act.put, List.setIfInBounds_toArray, List.set_cons_zero, List.set_cons_succ])
      | fail)
    refine (PN.out _ HM2.out.below).mono ?_
    rintro e w2 ⟨rfl, hb2⟩
    have HB2 := hidk (HM2.out.below.trans (hb2.mono HM2.out.below.size))
    have HR2 := hidk ((hb2.block _ (heap_lt HM2.out.row)).trans HM2.out.row)
    have h2 : w.heap.size ≤ g2 := Nat.le_of_eq HM2.out.new.symm
    clear hb2 HM2 PN
    go_wp2_with (first
      | (show wpList _ _ _ ({ dst := some 17, op := _, type := _, pos := _, after := _, guard := _ } :: _) _ _; refine wpList_build_none rfl 28 rfl R HBZ.out ?_; try simp only [Act.put, List.setIfInBounds_toArray, List.set_cons_zero, List.set_cons_succ])
      | (refine wpList_set_var rfl 28 (.tmp 2) (.tmp 17) rfl g2 R rfl rfl 28 R HR2.out HSR.out rfl H1R.out ?_; intro wz HW2; try simp only [Act.put, List.setIfInBounds_toArray, List.set_cons_zero, List.set_cons_succ])
      | fail)
    refine bodyPost_ret (v := .tuple #[.agg R, .int .i64 70]) ?_ rfl ⟨rfl, HW2.out.below w.heap.size w HB2.out h2⟩
    exact results_row_tmp (p := 2) (q := 3) (ty := 28) rfl _ _ g2 28 R (0, 0) _ rfl HW2.out.row Tryd.underlying28 rfl HSR.out
  | some l =>
    have hl3 : l.length = 3 := (row_parts hp).1
    obtain ⟨x1, x2, x3, rfl⟩ : ∃ x1 x2 x3, l = [x1, x2, x3] := by
      match l, hl3 with
      | [x1, x2, x3], _ => exact ⟨x1, x2, x3, rfl⟩
    have hsz := parts_size hp
    have hm1 : (1000000 : Nat) ≤ maxLen := by unfold maxLen; omega
    have hsm : ∀ y ∈ [x1, x2, x3], y.size ≤ maxLen := fun y hy => by have := hsz y hy; omega
    have hx1 : x1.size ≤ 1000000 := by have := hsz x1 (by simp); omega
    have hx1m : x1.size ≤ maxLen := hsm x1 (by simp)
    have PN : Hid (∀ W, Below w.heap.size w W → Calls Tryd.prog 47 #[.slice a len cap, .int .i64 3] W fun e w' => (∃ x c, e = .returned (.tuple #[.slice x 3 c, .bool true]) ∧ Texts w' x 3 [x1, x2, x3]) ∧ Below W.heap.size W w') := fun W hb => (PA.out W hb).mono (by rintro e w' ⟨h1, h2⟩; unfold PartsR at h1; rw [hp] at h1; exact ⟨h1, h2⟩)
    obtain ⟨D, HD, HSD, H1D, H32DD⟩ := dig_row' (digO x3) (digO_length x3)
    have HZDD : Hid (ZD.size = D.size) := by show _ = _; rw [H32D.out, H32DD.out]
    obtain ⟨bd, hbd⟩ : ∃ b, decide (x3.size = 32) = b := ⟨_, rfl⟩
    have DG : Hid (∀ W, Calls Tryd.prog 48 #[.string x3] W fun e w' => e = .returned (.tuple #[.agg D, .bool bd]) ∧ Below W.heap.size W w') := fun W => by rw [← hbd]; exact refDig_any x3 W (hsm x3 (by simp)) D HD
    obtain ⟨v2, hv2⟩ : ∃ v, v = valO x2.data.toList := ⟨_, rfl⟩
    have V2 : Hid (∀ W, Calls Tryd.prog 49 #[.string x2] W fun e w' => e = .returned (.int .i64 v2) ∧ Below W.heap.size W w') := fun W => (refVal_any x2 W (hsm x2 (by simp))).mono (by rintro e w' ⟨rfl, rfl⟩; exact ⟨by rw [hv2], Below.refl _ _⟩)
    have hhd := getHO_digs x1.data.toList
    obtain ⟨C, HC, HSC, H1C, H36C⟩ := head_row5 (getHO x1.data.toList) hhd
    have HZC : Hid (ZH.size = C.size) := by show _ = _; rw [H36.out, H36C.out]
    obtain ⟨E1, hE1⟩ : ∃ E, E = getHE x1.data.toList := ⟨_, rfl⟩
    have GH : Hid (∀ W b c, Reads W (some b) x1.size c x1.data.toList → Calls Tryd.prog 19 #[.slice (some b) x1.size c] W fun e w' => e = .returned (.tuple #[.agg C, .int .i64 E1]) ∧ Below W.heap.size W w') := fun W b c h => by rw [hE1]; exact refGet7_any (some b) x1.size c x1.data.toList W h hx1 C HC
    obtain ⟨ss, Hss⟩ : ∃ s : SgT, Hid (s = ⟨getHO x1.data.toList, v2, digO x3⟩) := ⟨_, hidk rfl⟩
    have hsd : ss.h.d.length = 32 := by rw [Hss.out]; exact hhd
    have hsg : ss.g.length = 32 := by rw [Hss.out]; exact digO_length x3
    obtain ⟨Q, HQ, HSQ, H1Q, H69Q⟩ := sign_row ss hsd hsg
    have HZQ : Hid (Z.size = Q.size) := by show _ = _; rw [H69.out, H69Q.out]
    have BS : Hid (∀ W, (Instr.build 28 #[(0, .agg C), (1, .int .i64 v2), (2, .agg D)]).run Tryd.prog W = .ok (.agg Q) W) := fun W => built_sign W ss hsd hsg C D Q (by rw [Hss.out]; exact HC) (by rw [Hss.out]; exact HD) HQ v2 (by rw [Hss.out])
    obtain ⟨bm, hbm⟩ : ∃ b, mayS ss = b := ⟨_, rfl⟩
    have MA : Hid (∀ W, Calls Tryd.prog 32 #[.agg Q] W fun e w' => e = .returned (.bool bm) ∧ Below W.heap.size W w') := fun W => by rw [← hbm]; exact refMay_any ss hsd W Q HQ
    have hO := getS_three hp ss (by rw [Hss.out, hv2]) E1 bd bm hE1 hbd hbm
    have HOK : Hid ((E1 = 0 ∧ bd = true ∧ bm = true) → R = Q ∧ getSE bs = 0) := fun hb => by
      have := hO.1 hb
      refine ⟨?_, by unfold getSE; rw [this]; rfl⟩
      rw [HR.out, HQ.out]; unfold getSO; rw [this]; rfl
    have HNO : Hid (¬ (E1 = 0 ∧ bd = true ∧ bm = true) → R = Z ∧ getSE bs = 70) := fun hb => by
      have := hO.2 hb
      refine ⟨?_, by unfold getSE; rw [this]; rfl⟩
      rw [HR.out, HZ.out]; unfold getSO; rw [this]; rfl
    have h12 : E1 = 0 ∨ E1 = 70 := by rw [hE1]; exact getHE_two _
    obtain ⟨E, hE⟩ : ∃ E, E = getSE bs := ⟨_, rfl⟩
    rw [← hE] at HOK HNO ⊢
    have HSZ : Hid ((Tryd.prog.info? 28).map (·.size) = some Z.size) := by show _ = _; rw [sizeS, H69.out]
    have H1Z : Hid (Z.all (·.oneCell') = true) := by show _ = _; rw [HZ.out]; exact one_cellsS _
    clear hE hO hbm hbd hp hl3 hsm hsz hm1 PA HR HZ HD HQ HC Hss hv2 hE1 hhd hdR hsd hsg hlen hl hx1 HZH HZD
    go_enter Tryd.func20, Tryd.ntmps20
    go_wp2_with (first
      | (show wpList _ _ _ ({ dst := some 2, op := _, type := _, pos := _, after := _, guard := _ } :: _) _ _; refine wpList_new_var rfl 28 rfl Z HA.out ?_; intro g2 w1 HM2; try simp only [Act.put, List.setIfInBounds_toArray, List.set_cons_zero, List.set_cons_succ])
      | fail)
    refine (PN.out _ HM2.out.below).mono ?_
    rintro e w2 ⟨⟨y, c, rfl, hy⟩, hb2⟩
    obtain ⟨b, off, rfl⟩ : ∃ b off, y = some ⟨b, off, none⟩ := by
      rcases hy.2 with h0 | ⟨b, off, e, _⟩
      · cases h0
      · exact ⟨b, off, e⟩
    have HY := hidk hy
    have HB2 := hidk (HM2.out.below.trans (hb2.mono HM2.out.below.size))
    have HR2 := hidk ((hb2.block _ (heap_lt HM2.out.row)).trans HM2.out.row)
    have h2 : w.heap.size ≤ g2 := Nat.le_of_eq HM2.out.new.symm
    have hc1 := text_cell hy 0 (by simp)
    simp only [List.getElem_cons_zero, List.getElem_cons_succ, Nat.add_zero] at hc1
    clear hb2 HM2 PN hy
    go_wp2_with (first
      | (show wpList _ _ _ ({ dst := some 22, op := _, type := _, pos := _, after := _, guard := _ } :: _) _ _; refine wpList_conv_text rfl 9 35 5 (.tmp 21) rfl x1 rfl Tryd.underlying9 Tryd.underlying35 Tryd.underlying5 hx1m ?_; intro b1 c1 w3 HX3; try simp only [Act.put, List.setIfInBounds_toArray, List.set_cons_zero, List.set_cons_succ])
      | fail)
    refine (GH.out _ _ _ HX3.out.1).mono ?_
    rintro e w4 ⟨rfl, hb4⟩
    have HX4 := hidk (HX3.out.2.trans (hb4.mono HX3.out.2.size))
    have HB4 := hidk (HB2.out.trans (HX4.out.mono HB2.out.size))
    have HR24 := hidk ((HX4.out.block _ (heap_lt HR2.out)).trans HR2.out)
    have HY4 := hidk (HY.out.keep HX4.out)
    clear hb4 HX3 HX4 HB2 HR2 HY GH hc1
    go_wp2_with (first
      | (show wpList _ _ _ ({ dst := some 6, op := _, type := _, pos := _, after := _, guard := _ } :: _) _ _; refine wpList_new_var rfl 26 rfl ZH HAH.out ?_; intro g6 w5 HM6; try simp only [Act.put, List.setIfInBounds_toArray, List.set_cons_zero, List.set_cons_succ])
      | (refine wpList_set_var rfl 26 (.tmp 6) (.tmp 24) rfl g6 C rfl rfl 26 ZH HM6.out.row HSC.out HZC.out H1C.out ?_; intro w6 HW6; have hx6 := hidk (HW6.out.below w4.heap.size w4 HM6.out.below (Nat.le_of_eq HM6.out.new.symm)); have hc3 := text_cell (HY4.out.keep hx6.out) 2 (by simp); simp only [List.getElem_cons_zero, List.getElem_cons_succ] at hc3; try simp only [Act.put, List.setIfInBounds_toArray, List.set_cons_zero, List.set_cons_succ])
      | fail)
    have h6 : g2 < g6 := by rw [HM6.out.new]; exact heap_lt HR24.out
    have HB6 := hidk (HB4.out.trans (hx6.out.mono HB4.out.size))
    have HR26 := hidk ((hx6.out.block _ (heap_lt HR24.out)).trans HR24.out)
    have HY6 := hidk (HY4.out.keep hx6.out)
    have HR66 := hidk HW6.out.row
    clear HM6 HW6 hx6 HB4 HR24 HY4
    refine (DG.out _).mono ?_
    rintro e w7 ⟨rfl, hb7⟩
    have HB7 := hidk (HB6.out.trans (hb7.mono HB6.out.size))
    have HR27 := hidk ((hb7.block _ (heap_lt HR26.out)).trans HR26.out)
    have HR67 := hidk ((hb7.block _ (heap_lt HR66.out)).trans HR66.out)
    have HY7 := hidk (HY6.out.keep hb7)
    clear hb7 HB6 HR26 HR66 HY6 DG hc3
    go_wp2_with (first
      | (show wpList _ _ _ ({ dst := some 8, op := _, type := _, pos := _, after := _, guard := _ } :: _) _ _; refine wpList_new_var rfl 24 rfl ZD HAD.out ?_; intro g8 w8 HM8; try simp only [Act.put, List.setIfInBounds_toArray, List.set_cons_zero, List.set_cons_succ])
      | (refine wpList_set_var rfl 24 (.tmp 8) (.tmp 31) rfl g8 D rfl rfl 24 ZD HM8.out.row HSD.out HZDD.out H1D.out ?_; intro w9 HW8; try simp only [Act.put, List.setIfInBounds_toArray, List.set_cons_zero, List.set_cons_succ])
      | fail)
    have h8 : g6 < g8 := by rw [HM8.out.new]; exact heap_lt HR67.out
    have HX9 := hidk (HW8.out.below w7.heap.size w7 HM8.out.below (Nat.le_of_eq HM8.out.new.symm))
    have HBc := hidk (HB7.out.trans (HX9.out.mono HB7.out.size)).drew
    have HR29 := hidk ((HX9.out.block _ (heap_lt HR27.out)).trans HR27.out)
    have HR69 := hidk ((HX9.out.block _ (heap_lt HR67.out)).trans HR67.out)
    have HY9 := hidk (HY7.out.keep HX9.out)
    have HR89 := hidk HW8.out.row
    have HTB : Hid (b < g8) := by
      show b < g8
      rcases HY7.out.2 with h0 | ⟨b', off', e, hlt, _⟩
      · cases h0
      · cases e; rw [HM8.out.new]; exact hlt
    clear HM8 HW8 HX9 HB7 HR27 HR67 HY7
    refine wp_region_held_drew (S := (fun W => Texts W (some ⟨b, off, none⟩) 3 [x1, x2, x3] ∧ W.heap[g6]? = some (.cells C 26 (0, 0)) ∧ W.heap[g8]? = some (.cells D 24 (0, 0)) ∧ W.heap[g2]? = some (.cells Z 28 (0, 0)))) (by kernel_rfl) ⟨HY9.out.keep (Below.refl _ _).drew, HR69.out, HR89.out, HR29.out⟩ (fun hHeld => ?_)
    refine wpAnyH_take (i := 0) (oi := { dst := some 33, op := Op.load 26 (Operand.tmp 6), type := 26, pos := "ref.go:147", after := #[], guard := none }) (v := .agg C) rfl (by kernel_rfl) (by kernel_rfl) (by kernel_rfl) (fun _ _ _ h => h) (yieldsIf_row (by rfl) 26 (.tmp 6) rfl g6 rfl 26 C (0, 0) _ (fun _ h => h.2.1) Tryd.underlying26 rfl HSC.out) hHeld ?_
    try simp only [Act.put, List.setIfInBounds_toArray, List.set_cons_zero, List.set_cons_succ]
    refine wpAnyH_take (i := 1) (oi := { dst := some 34, op := Op.move (Operand.tmp 4), type := 76, pos := "ref.go:147", after := #[], guard := none }) (v := .slice (some ⟨b, off, none⟩) 3 c) rfl (by kernel_rfl) (by kernel_rfl) (by kernel_rfl) (fun _ _ _ h => h) (Or.inl ⟨by rfl, by intro W hSw; go_simp⟩) hHeld ?_
    try simp only [Act.put, List.setIfInBounds_toArray, List.set_cons_zero, List.set_cons_succ]
    refine wpAnyH_take (i := 2) (oi := { dst := some 35, op := Op.indexAddr 76 (Operand.tmp 34) (Operand.const (Value.int IntKind.i64 1)), type := 0, pos := "ref.go:147", after := #[{ on := 1, ground := Ground.data }], guard := none }) (v := .pointer (some ⟨b, off + 1, none⟩)) rfl (by kernel_rfl) (by kernel_rfl) (by kernel_rfl) (fun _ _ _ h => h) (Or.inl ⟨by rfl, by intro W hSw; go_simp⟩) hHeld ?_
    try simp only [Act.put, List.setIfInBounds_toArray, List.set_cons_zero, List.set_cons_succ]
    refine wpAnyH_take (i := 3) (oi := { dst := some 36, op := Op.load 9 (Operand.tmp 35), type := 9, pos := "ref.go:147", after := #[{ on := 2, ground := Ground.data }], guard := none }) (v := .string x2) rfl (by kernel_rfl) (by kernel_rfl) (by kernel_rfl) (fun _ _ _ h => h) (Or.inl ⟨by rfl, by intro W hSw; have h1 := text_cell hSw.1 1 (by simp); simp only [List.getElem_cons_zero, List.getElem_cons_succ, Nat.add_zero] at h1; go_simp⟩) hHeld ?_
    try simp only [Act.put, List.setIfInBounds_toArray, List.set_cons_zero, List.set_cons_succ]
    refine wpAnyH_take (i := 5) (oi := { dst := some 38, op := Op.load 24 (Operand.tmp 8), type := 24, pos := "ref.go:147", after := #[], guard := none }) (v := .agg D) rfl (by kernel_rfl) (by kernel_rfl) (by kernel_rfl) (fun _ _ _ h => h) (yieldsIf_row (by rfl) 24 (.tmp 8) rfl g8 rfl 24 D (0, 0) _ (fun _ h => h.2.2.1) Tryd.underlying24 rfl HSD.out) hHeld ?_
    try simp only [Act.put, List.setIfInBounds_toArray, List.set_cons_zero, List.set_cons_succ]
    refine wpAnyH_ready (rs := [4, 7]) (by kernel_rfl) (by simp) ?_
    refine (AllReadyH.cons (o := { dst := some 37, op := Op.call { callee := Callee.value (Operand.func 49), args := #[Operand.tmp 36], argTypes := #[9] }, type := 3, pos := "ref.go:147", after := #[{ on := 3, ground := Ground.data }], guard := none }) rfl (fun K hK => ?_) (AllReadyH.cons (o := { dst := some 9, op := Op.alloc 28, type := 0, pos := "ref.go:147", after := #[], guard := none }) rfl (fun K hK => ?_) AllReadyH.nil))
    · go_simp
      refine (V2.out _).mono ?_
      rintro e w10 ⟨rfl, hb10⟩
      replace HBc := hidk (HBc.out.trans (hb10.mono HBc.out.size))
      try replace HR9 := hidk ((hb10.block _ (heap_lt HR9.out)).trans HR9.out)
      go_wp2_with fail
      refine hK.out _ _ ⟨hHeld.1.keep hb10, (hb10.block _ (heap_lt hHeld.2.1)).trans hHeld.2.1, (hb10.block _ (heap_lt hHeld.2.2.1)).trans hHeld.2.2.1, (hb10.block _ (heap_lt hHeld.2.2.2)).trans hHeld.2.2.2⟩ (fun hHeld => ?_)
      clear hK K
      try simp only [Act.put, List.setIfInBounds_toArray, List.set_cons_zero, List.set_cons_succ]
      refine wpAnyH_take (i := 6) (oi := { dst := some 39, op := Op.build 28 #[(0, Operand.tmp 33), (1, Operand.tmp 37), (2, Operand.tmp 38)], type := 28, pos := "ref.go:147", after := #[{ on := 0, ground := Ground.data }, { on := 4, ground := Ground.data }, { on := 5, ground := Ground.data }], guard := none }) (v := .agg Q) rfl (by kernel_rfl) (by kernel_rfl) (by kernel_rfl) (fun _ _ _ h => h) (yieldsIf_build (by rfl) 28 _ rfl #[(0, .agg C), (1, .int .i64 v2), (2, .agg D)] rfl (.agg Q) BS.out) hHeld ?_
      try simp only [Act.put, List.setIfInBounds_toArray, List.set_cons_zero, List.set_cons_succ]
      refine wpAnyH_ready (rs := [7]) (by kernel_rfl) (by simp) ?_
      refine (AllReadyH.cons (o := { dst := some 9, op := Op.alloc 28, type := 0, pos := "ref.go:147", after := #[], guard := none }) rfl (fun K hK => ?_) AllReadyH.nil)
      refine step_new_var (by rfl) 28 rfl Z HA.out ?_
      intro g9 wg HM9
      have HR9 := hidk HM9.out.row
      have HG9 : Hid (g8 < g9) := (by show g8 < g9; rw [HM9.out.new]; exact heap_lt hHeld.2.2.1)
      replace HBc := hidk (HBc.out.trans (HM9.out.below.mono HBc.out.size))
      refine hK.out _ _ ⟨hHeld.1.keep HM9.out.below, (HM9.out.below.block _ (heap_lt hHeld.2.1)).trans hHeld.2.1, (HM9.out.below.block _ (heap_lt hHeld.2.2.1)).trans hHeld.2.2.1, (HM9.out.below.block _ (heap_lt hHeld.2.2.2)).trans hHeld.2.2.2⟩ (fun hHeld => ?_)
      clear hK K
      try simp only [Act.put, List.setIfInBounds_toArray, List.set_cons_zero, List.set_cons_succ]
      refine wpAnyH_ready (rs := [8]) (by kernel_rfl) (by simp) ?_
      refine (AllReadyH.cons (o := { dst := none, op := Op.store 28 (Operand.tmp 9) (Operand.tmp 39), type := 0, pos := "ref.go:147", after := #[{ on := 7, ground := Ground.data }, { on := 6, ground := Ground.data }, { on := 4, ground := Ground.chain }, { on := 0, ground := Ground.phase }, { on := 1, ground := Ground.phase }, { on := 2, ground := Ground.phase }, { on := 3, ground := Ground.phase }, { on := 4, ground := Ground.phase }, { on := 5, ground := Ground.phase }, { on := 6, ground := Ground.phase }, { on := 7, ground := Ground.phase }], guard := none }) rfl (fun K hK => ?_) AllReadyH.nil)
      refine step_set_var (by rfl) 28 (.tmp 9) (.tmp 39) rfl g9 Q rfl rfl 28 Z HR9.out HSQ.out HZQ.out H1Q.out ?_
      intro wz HW9
      refine hK.out _ _ ⟨texts_wrote hHeld.1 HW9.out (by have := HG9.out; have := HTB.out; omega), (HW9.out.other _ (by have := HG9.out; omega)).trans hHeld.2.1, (HW9.out.other _ (by have := HG9.out; omega)).trans hHeld.2.2.1, (HW9.out.other _ (by have := HG9.out; omega)).trans hHeld.2.2.2⟩ (fun hHeld => ?_)
      clear hK K
      try simp only [Act.put, List.setIfInBounds_toArray, List.set_cons_zero, List.set_cons_succ]
      refine wpAnyH_done (by kernel_rfl) ?_ _
      have h9 : g8 < g9 := HG9.out
      have HR9z := hidk HW9.out.row
      have HR2z := hidk hHeld.2.2.2
      have HBz := hidk (HW9.out.below w.heap.size w HBc.out (by omega))
      clear HW9 HBc hHeld HR9
      rcases h12 with rfl | rfl
      rotate_left
      · obtain ⟨rfl, rfl⟩ := HNO.out (by simp)
        go_wp2_with (first
          | (show wpList _ _ _ ({ dst := some 51, op := _, type := _, pos := _, after := _, guard := _ } :: _) _ _; refine wpList_build_none rfl 28 rfl R HBZ.out ?_; try simp only [Act.put, List.setIfInBounds_toArray, List.set_cons_zero, List.set_cons_succ])
          | (refine wpList_set_var rfl 28 (.tmp 2) (.tmp 51) rfl g2 R rfl rfl 28 R HR2z.out HSZ.out rfl H1Z.out ?_; intro wz HW2; try simp only [Act.put, List.setIfInBounds_toArray, List.set_cons_zero, List.set_cons_succ])
          | fail)
        refine bodyPost_ret (v := .tuple #[.agg R, .int .i64 70]) ?_ rfl ⟨rfl, HW2.out.below w.heap.size w HBz.out h2⟩
        exact results_row_tmp (p := 2) (q := 3) (ty := 28) rfl _ _ g2 28 R (0, 0) _ rfl HW2.out.row Tryd.underlying28 rfl HSZ.out
      · cases bd
        · obtain ⟨rfl, rfl⟩ := HNO.out (by simp)
          go_wp2_with (first
            | (show wpList _ _ _ ({ dst := some 51, op := _, type := _, pos := _, after := _, guard := _ } :: _) _ _; refine wpList_build_none rfl 28 rfl R HBZ.out ?_; try simp only [Act.put, List.setIfInBounds_toArray, List.set_cons_zero, List.set_cons_succ])
            | (refine wpList_set_var rfl 28 (.tmp 2) (.tmp 51) rfl g2 R rfl rfl 28 R HR2z.out HSZ.out rfl H1Z.out ?_; intro wz HW2; try simp only [Act.put, List.setIfInBounds_toArray, List.set_cons_zero, List.set_cons_succ])
            | fail)
          refine bodyPost_ret (v := .tuple #[.agg R, .int .i64 70]) ?_ rfl ⟨rfl, HW2.out.below w.heap.size w HBz.out h2⟩
          exact results_row_tmp (p := 2) (q := 3) (ty := 28) rfl _ _ g2 28 R (0, 0) _ rfl HW2.out.row Tryd.underlying28 rfl HSZ.out
        · go_wp2_with (first
            | (show wpList _ _ _ ({ dst := some 47, op := _, type := _, pos := _, after := _, guard := _ } :: _) _ _; refine wpList_load_row_w (by rfl) 28 (.tmp 9) rfl g9 rfl 28 Q (0, 0) _ HR9z.out Tryd.underlying28 rfl HSQ.out ?_; try simp only [Act.put, List.setIfInBounds_toArray, List.set_cons_zero, List.set_cons_succ])
            | fail)
          refine (MA.out _).mono ?_
          rintro e wr ⟨rfl, hbr⟩
          have HBr := hidk (HBz.out.trans (hbr.mono HBz.out.size))
          have HR9r := hidk ((hbr.block _ (heap_lt HR9z.out)).trans HR9z.out)
          have HR2r := hidk ((hbr.block _ (heap_lt HR2z.out)).trans HR2z.out)
          clear hbr HBz HR9z HR2z MA
          cases bm
          · obtain ⟨rfl, rfl⟩ := HNO.out (by simp)
            go_wp2_with (first
              | (show wpList _ _ _ ({ dst := some 51, op := _, type := _, pos := _, after := _, guard := _ } :: _) _ _; refine wpList_build_none rfl 28 rfl R HBZ.out ?_; try simp only [Act.put, List.setIfInBounds_toArray, List.set_cons_zero, List.set_cons_succ])
              | (refine wpList_set_var rfl 28 (.tmp 2) (.tmp 51) rfl g2 R rfl rfl 28 R HR2r.out HSZ.out rfl H1Z.out ?_; intro wz HW2; try simp only [Act.put, List.setIfInBounds_toArray, List.set_cons_zero, List.set_cons_succ])
              | fail)
            refine bodyPost_ret (v := .tuple #[.agg R, .int .i64 70]) ?_ rfl ⟨rfl, HW2.out.below w.heap.size w HBr.out h2⟩
            exact results_row_tmp (p := 2) (q := 3) (ty := 28) rfl _ _ g2 28 R (0, 0) _ rfl HW2.out.row Tryd.underlying28 rfl HSZ.out
          · obtain ⟨rfl, rfl⟩ := HOK.out (by simp)
            go_wp2_with (first
              | (show wpList _ _ _ ({ dst := some 52, op := _, type := _, pos := _, after := _, guard := _ } :: _) _ _; refine wpList_load_row rfl 28 (.tmp 9) rfl g9 rfl 28 R (0, 0) _ HR9r.out Tryd.underlying28 rfl HSQ.out ?_; try simp only [Act.put, List.setIfInBounds_toArray, List.set_cons_zero, List.set_cons_succ])
              | (refine wpList_set_var rfl 28 (.tmp 2) (.tmp 52) rfl g2 R rfl rfl 28 Z HR2r.out HSR.out HZR.out H1R.out ?_; intro wz HW2; try simp only [Act.put, List.setIfInBounds_toArray, List.set_cons_zero, List.set_cons_succ])
              | fail)
            refine bodyPost_ret (v := .tuple #[.agg R, .int .i64 0]) ?_ rfl ⟨rfl, HW2.out.below w.heap.size w HBr.out h2⟩
            exact results_row_tmp (p := 2) (q := 3) (ty := 28) rfl _ _ g2 28 R (0, 0) _ rfl HW2.out.row Tryd.underlying28 rfl HSR.out
    · refine step_new_var (by rfl) 28 rfl Z HA.out ?_
      intro g9 wg HM9
      have HR9 := hidk HM9.out.row
      have HG9 : Hid (g8 < g9) := (by show g8 < g9; rw [HM9.out.new]; exact heap_lt hHeld.2.2.1)
      replace HBc := hidk (HBc.out.trans (HM9.out.below.mono HBc.out.size))
      refine hK.out _ _ ⟨hHeld.1.keep HM9.out.below, (HM9.out.below.block _ (heap_lt hHeld.2.1)).trans hHeld.2.1, (HM9.out.below.block _ (heap_lt hHeld.2.2.1)).trans hHeld.2.2.1, (HM9.out.below.block _ (heap_lt hHeld.2.2.2)).trans hHeld.2.2.2⟩ (fun hHeld => ?_)
      clear hK K
      try simp only [Act.put, List.setIfInBounds_toArray, List.set_cons_zero, List.set_cons_succ]
      refine wpAnyH_ready (rs := [4]) (by kernel_rfl) (by simp) ?_
      refine (AllReadyH.cons (o := { dst := some 37, op := Op.call { callee := Callee.value (Operand.func 49), args := #[Operand.tmp 36], argTypes := #[9] }, type := 3, pos := "ref.go:147", after := #[{ on := 3, ground := Ground.data }], guard := none }) rfl (fun K hK => ?_) AllReadyH.nil)
      go_simp
      refine (V2.out _).mono ?_
      rintro e w10 ⟨rfl, hb10⟩
      replace HBc := hidk (HBc.out.trans (hb10.mono HBc.out.size))
      try replace HR9 := hidk ((hb10.block _ (heap_lt HR9.out)).trans HR9.out)
      go_wp2_with fail
      refine hK.out _ _ ⟨hHeld.1.keep hb10, (hb10.block _ (heap_lt hHeld.2.1)).trans hHeld.2.1, (hb10.block _ (heap_lt hHeld.2.2.1)).trans hHeld.2.2.1, (hb10.block _ (heap_lt hHeld.2.2.2)).trans hHeld.2.2.2⟩ (fun hHeld => ?_)
      clear hK K
      try simp only [Act.put, List.setIfInBounds_toArray, List.set_cons_zero, List.set_cons_succ]
      refine wpAnyH_take (i := 6) (oi := { dst := some 39, op := Op.build 28 #[(0, Operand.tmp 33), (1, Operand.tmp 37), (2, Operand.tmp 38)], type := 28, pos := "ref.go:147", after := #[{ on := 0, ground := Ground.data }, { on := 4, ground := Ground.data }, { on := 5, ground := Ground.data }], guard := none }) (v := .agg Q) rfl (by kernel_rfl) (by kernel_rfl) (by kernel_rfl) (fun _ _ _ h => h) (yieldsIf_build (by rfl) 28 _ rfl #[(0, .agg C), (1, .int .i64 v2), (2, .agg D)] rfl (.agg Q) BS.out) hHeld ?_
      try simp only [Act.put, List.setIfInBounds_toArray, List.set_cons_zero, List.set_cons_succ]
      refine wpAnyH_ready (rs := [8]) (by kernel_rfl) (by simp) ?_
      refine (AllReadyH.cons (o := { dst := none, op := Op.store 28 (Operand.tmp 9) (Operand.tmp 39), type := 0, pos := "ref.go:147", after := #[{ on := 7, ground := Ground.data }, { on := 6, ground := Ground.data }, { on := 4, ground := Ground.chain }, { on := 0, ground := Ground.phase }, { on := 1, ground := Ground.phase }, { on := 2, ground := Ground.phase }, { on := 3, ground := Ground.phase }, { on := 4, ground := Ground.phase }, { on := 5, ground := Ground.phase }, { on := 6, ground := Ground.phase }, { on := 7, ground := Ground.phase }], guard := none }) rfl (fun K hK => ?_) AllReadyH.nil)
      refine step_set_var (by rfl) 28 (.tmp 9) (.tmp 39) rfl g9 Q rfl rfl 28 Z HR9.out HSQ.out HZQ.out H1Q.out ?_
      intro wz HW9
      refine hK.out _ _ ⟨texts_wrote hHeld.1 HW9.out (by have := HG9.out; have := HTB.out; omega), (HW9.out.other _ (by have := HG9.out; omega)).trans hHeld.2.1, (HW9.out.other _ (by have := HG9.out; omega)).trans hHeld.2.2.1, (HW9.out.other _ (by have := HG9.out; omega)).trans hHeld.2.2.2⟩ (fun hHeld => ?_)
      clear hK K
      try simp only [Act.put, List.setIfInBounds_toArray, List.set_cons_zero, List.set_cons_succ]
      refine wpAnyH_done (by kernel_rfl) ?_ _
      have h9 : g8 < g9 := HG9.out
      have HR9z := hidk HW9.out.row
      have HR2z := hidk hHeld.2.2.2
      have HBz := hidk (HW9.out.below w.heap.size w HBc.out (by omega))
      clear HW9 HBc hHeld HR9
      rcases h12 with rfl | rfl
      rotate_left
      · obtain ⟨rfl, rfl⟩ := HNO.out (by simp)
        go_wp2_with (first
          | (show wpList _ _ _ ({ dst := some 51, op := _, type := _, pos := _, after := _, guard := _ } :: _) _ _; refine wpList_build_none rfl 28 rfl R HBZ.out ?_; try simp only [Act.put, List.setIfInBounds_toArray, List.set_cons_zero, List.set_cons_succ])
          | (refine wpList_set_var rfl 28 (.tmp 2) (.tmp 51) rfl g2 R rfl rfl 28 R HR2z.out HSZ.out rfl H1Z.out ?_; intro wz HW2; try simp only [Act.put, List.setIfInBounds_toArray, List.set_cons_zero, List.set_cons_succ])
          | fail)
        refine bodyPost_ret (v := .tuple #[.agg R, .int .i64 70]) ?_ rfl ⟨rfl, HW2.out.below w.heap.size w HBz.out h2⟩
        exact results_row_tmp (p := 2) (q := 3) (ty := 28) rfl _ _ g2 28 R (0, 0) _ rfl HW2.out.row Tryd.underlying28 rfl HSZ.out
      · cases bd
        · obtain ⟨rfl, rfl⟩ := HNO.out (by simp)
          go_wp2_with (first
            | (show wpList _ _ _ ({ dst := some 51, op := _, type := _, pos := _, after := _, guard := _ } :: _) _ _; refine wpList_build_none rfl 28 rfl R HBZ.out ?_; try simp only [Act.put, List.setIfInBounds_toArray, List.set_cons_zero, List.set_cons_succ])
            | (refine wpList_set_var rfl 28 (.tmp 2) (.tmp 51) rfl g2 R rfl rfl 28 R HR2z.out HSZ.out rfl H1Z.out ?_; intro wz HW2; try simp only [Act.put, List.setIfInBounds_toArray, List.set_cons_zero, List.set_cons_succ])
            | fail)
          refine bodyPost_ret (v := .tuple #[.agg R, .int .i64 70]) ?_ rfl ⟨rfl, HW2.out.below w.heap.size w HBz.out h2⟩
          exact results_row_tmp (p := 2) (q := 3) (ty := 28) rfl _ _ g2 28 R (0, 0) _ rfl HW2.out.row Tryd.underlying28 rfl HSZ.out
        · go_wp2_with (first
            | (show wpList _ _ _ ({ dst := some 47, op := _, type := _, pos := _, after := _, guard := _ } :: _) _ _; refine wpList_load_row_w (by rfl) 28 (.tmp 9) rfl g9 rfl 28 Q (0, 0) _ HR9z.out Tryd.underlying28 rfl HSQ.out ?_; try simp only [Act.put, List.setIfInBounds_toArray, List.set_cons_zero, List.set_cons_succ])
            | fail)
          refine (MA.out _).mono ?_
          rintro e wr ⟨rfl, hbr⟩
          have HBr := hidk (HBz.out.trans (hbr.mono HBz.out.size))
          have HR9r := hidk ((hbr.block _ (heap_lt HR9z.out)).trans HR9z.out)
          have HR2r := hidk ((hbr.block _ (heap_lt HR2z.out)).trans HR2z.out)
          clear hbr HBz HR9z HR2z MA
          cases bm
          · obtain ⟨rfl, rfl⟩ := HNO.out (by simp)
            go_wp2_with (first
              | (show wpList _ _ _ ({ dst := some 51, op := _, type := _, pos := _, after := _, guard := _ } :: _) _ _; refine wpList_build_none rfl 28 rfl R HBZ.out ?_; try simp only [Act.put, List.setIfInBounds_toArray, List.set_cons_zero, List.set_cons_succ])
              | (refine wpList_set_var rfl 28 (.tmp 2) (.tmp 51) rfl g2 R rfl rfl 28 R HR2r.out HSZ.out rfl H1Z.out ?_; intro wz HW2; try simp only [Act.put, List.setIfInBounds_toArray, List.set_cons_zero, List.set_cons_succ])
              | fail)
            refine bodyPost_ret (v := .tuple #[.agg R, .int .i64 70]) ?_ rfl ⟨rfl, HW2.out.below w.heap.size w HBr.out h2⟩
            exact results_row_tmp (p := 2) (q := 3) (ty := 28) rfl _ _ g2 28 R (0, 0) _ rfl HW2.out.row Tryd.underlying28 rfl HSZ.out
          · obtain ⟨rfl, rfl⟩ := HOK.out (by simp)
            go_wp2_with (first
              | (show wpList _ _ _ ({ dst := some 52, op := _, type := _, pos := _, after := _, guard := _ } :: _) _ _; refine wpList_load_row rfl 28 (.tmp 9) rfl g9 rfl 28 R (0, 0) _ HR9r.out Tryd.underlying28 rfl HSQ.out ?_; try simp only [Act.put, List.setIfInBounds_toArray, List.set_cons_zero, List.set_cons_succ])
              | (refine wpList_set_var rfl 28 (.tmp 2) (.tmp 52) rfl g2 R rfl rfl 28 Z HR2r.out HSR.out HZR.out H1R.out ?_; intro wz HW2; try simp only [Act.put, List.setIfInBounds_toArray, List.set_cons_zero, List.set_cons_succ])
              | fail)
            refine bodyPost_ret (v := .tuple #[.agg R, .int .i64 0]) ?_ rfl ⟨rfl, HW2.out.below w.heap.size w HBr.out h2⟩
            exact results_row_tmp (p := 2) (q := 3) (ty := 28) rfl _ _ g2 28 R (0, 0) _ rfl HW2.out.row Tryd.underlying28 rfl HSR.out
end Go.Proofs.YtdnhnjimhbbabaaDoor

/- Heads and signed heads held against each other by == and !=. -/
namespace Go.Proofs.YtdnhnjimhbbabaaDoor
open Go.RowKit Sums Nums
set_option linter.unusedVariables false
set_option linter.unusedSimpArgs false
set_option maxRecDepth 100000
theorem sizeOfDD (w : World) : (sizeOf 24).run Tryd.prog w = .ok 32 w := by
  cases hq : Tryd.prog.info? 24 with
  | none => have := size23; simp [hq] at this
  | some i => have := size23; simp [hq] at this; simp [sizeOf, typeInfo, hq, this]
theorem sizeOfHH (w : World) : (sizeOf 26).run Tryd.prog w = .ok 36 w := by
  cases hq : Tryd.prog.info? 26 with
  | none => have := sizeH; simp [hq] at this
  | some i => have := sizeH; simp [hq] at this; simp [sizeOf, typeInfo, hq, this]
theorem cut_list (l : List Value) (off n : Nat) (m : List Value) (h : (l.drop off).take n = m) : l.toArray.extract off (off + n) = m.toArray := by
  rw [← h, List.extract_toArray, List.extract_eq_take_drop, Nat.add_sub_cancel_left]
theorem part_dig (l : List Value) (off : Nat) (m : List Value) (h : (l.drop off).take 32 = m) (w : World) : (Go.part 24 l.toArray off).run Tryd.prog w = .ok (.agg m.toArray) w := by
  have e := cut_list l off 32 m h
  simp only [Go.part, isAgg, run_underlying Tryd.underlying24, sizeOfDD, Sem.run_bind, Sem.run_pure, Result.andThen_ok, if_true, e]
theorem part_head (l : List Value) (off : Nat) (m : List Value) (h : (l.drop off).take 36 = m) (w : World) : (Go.part 26 l.toArray off).run Tryd.prog w = .ok (.agg m.toArray) w := by
  have e := cut_list l off 36 m h
  simp only [Go.part, isAgg, run_underlying Tryd.underlying26, sizeOfHH, Sem.run_bind, Sem.run_pure, Result.andThen_ok, if_true, e]
theorem part_int (l : List Value) (off : Nat) (v : Value) (h : l[off]? = some v) (w : World) : (Go.part 3 l.toArray off).run Tryd.prog w = .ok v w := by
  simp [Go.part, isAgg, run_underlying Tryd.underlying3, h]
theorem heldH : Tryd.prog.stoodInHeld 26 = false := by kernel_rfl
theorem heldS : Tryd.prog.stoodInHeld 28 = false := by kernel_rfl
theorem hcells_d (h : HdT) (hd : h.d.length = 32) : ((hcells h).drop 3).take 32 = cellsOf h.d := by
  show (cellsOf h.d ++ [Value.int .i64 h.t]).take 32 = _
  rw [List.take_left' (by rw [cellsOf_length, hd])]
theorem hcells_t (h : HdT) (hd : h.d.length = 32) : (hcells h)[35]? = some (.int .i64 h.t) := by
  unfold hcells
  rw [List.getElem?_append_right (by simp [cellsOf_length, hd])]
  simp [cellsOf_length, hd]
theorem scells_h (s : SgT) (hd : s.h.d.length = 32) : ((scells s).drop 0).take 36 = hcells s.h := by
  unfold scells
  rw [List.drop_zero, List.append_assoc, List.take_left' (hcells_length _ hd)]
theorem scells_n (s : SgT) (hd : s.h.d.length = 32) : (scells s)[36]? = some (.int .i64 s.n) := by
  unfold scells
  rw [List.append_assoc, List.getElem?_append_right (by rw [hcells_length _ hd]; omega), hcells_length _ hd]
  rfl
theorem scells_g (s : SgT) (hd : s.h.d.length = 32) (hg : s.g.length = 32) : ((scells s).drop 37).take 32 = cellsOf s.g := by
  unfold scells
  rw [List.drop_left' (by simp [hcells_length _ hd]), List.take_of_length_le (by rw [cellsOf_length, hg]; omega)]
theorem equalHead (d : Nat) (a b : HdT) (ha : a.d.length = 32) (hb : b.d.length = 32) (x : Bool) (hx : x = true ↔ a = b) (w : World) : (Op.equalIn (d + 4) 26 (.agg (hcells a).toArray) (.agg (hcells b).toArray)).run Tryd.prog w = .ok x w := by
  have hf : Tryd.prog.fieldsOf 26 = #[{ name := "Region", type := 3, offset := 0, embedded := false, tag := "", pkgPath := "", byteOffset := 0 }, { name := "Epoch", type := 3, offset := 1, embedded := false, tag := "", pkgPath := "", byteOffset := 8 }, { name := "Size", type := 3, offset := 2, embedded := false, tag := "", pkgPath := "", byteOffset := 16 }, { name := "Root", type := 24, offset := 3, embedded := false, tag := "", pkgPath := "", byteOffset := 24 }, { name := "Tick", type := 3, offset := 35, embedded := false, tag := "", pkgPath := "", byteOffset := 56 }] := by
    unfold Program.fieldsOf; rw [Tryd.underlying26]
  have p0 := fun (h : HdT) W => part_int (hcells h) 0 (.int .i64 h.r) rfl W
  have p1 := fun (h : HdT) W => part_int (hcells h) 1 (.int .i64 h.e) rfl W
  have p2 := fun (h : HdT) W => part_int (hcells h) 2 (.int .i64 h.s) rfl W
  have p3a := fun W => part_dig (hcells a) 3 _ (hcells_d a ha) W
  have p3b := fun W => part_dig (hcells b) 3 _ (hcells_d b hb) W
  have p4a := fun W => part_int (hcells a) 35 _ (hcells_t a ha) W
  have p4b := fun W => part_int (hcells b) 35 _ (hcells_t b hb) W
  have ei := fun (x y : Int) W => run_equalIn_int (P := Tryd.prog) W (d + 2) 3 .i64 .i64 x y Tryd.underlying3
  have ed : ∀ W, (Op.equalIn (d + 3) 24 (.agg (cellsOf a.d).toArray) (.agg (cellsOf b.d).toArray)).run Tryd.prog W = .ok (a.d == b.d) W := fun W => run_equalIn_bytes (P := Tryd.prog) W (d + 1) 24 5 32 Tryd.underlying24 Tryd.underlying5 sizeOf5 a.d b.d ha hb
  rw [run_equalIn_struct w (d + 3) 26 _ _ (by rw [hf]; exact Tryd.underlying26) heldH, hf]
  obtain ⟨b0, h0⟩ : ∃ x, (a.r == b.r) = x := ⟨_, rfl⟩
  obtain ⟨b1, h1⟩ : ∃ x, (a.e == b.e) = x := ⟨_, rfl⟩
  obtain ⟨b2, h2⟩ : ∃ x, (a.s == b.s) = x := ⟨_, rfl⟩
  obtain ⟨b3, h3⟩ : ∃ x, (a.d == b.d) = x := ⟨_, rfl⟩
  obtain ⟨b4, h4⟩ : ∃ x, (a.t == b.t) = x := ⟨_, rfl⟩
  have hq : x = (b0 && b1 && b2 && b3 && b4) := by
    rw [← h0, ← h1, ← h2, ← h3, ← h4, Bool.eq_iff_iff]
    rw [hx]
    simp only [Bool.and_eq_true, beq_iff_eq]
    constructor
    · rintro rfl; simp
    · rintro ⟨⟨⟨⟨e0, e1⟩, e2⟩, e3⟩, e4⟩
      cases a; cases b
      simp only at e0 e1 e2 e3 e4
      rw [e0, e1, e2, e3, e4]
  have x0 := ei a.r b.r
  have x1 := ei a.e b.e
  have x2 := ei a.s b.s
  have x4 := ei a.t b.t
  rw [h0] at x0
  rw [h1] at x1
  rw [h2] at x2
  rw [h3] at ed
  rw [h4] at x4
  rw [hq]
  obtain ⟨A, hA⟩ : ∃ A, (hcells a).toArray = A := ⟨_, rfl⟩
  obtain ⟨B, hB⟩ : ∃ B, (hcells b).toArray = B := ⟨_, rfl⟩
  have p0a := p0 a
  have p0b := p0 b
  have p1a := p1 a
  have p1b := p1 b
  have p2a := p2 a
  have p2b := p2 b
  rw [hA] at p0a p1a p2a p3a p4a
  rw [hB] at p0b p1b p2b p3b p4b
  rw [hA, hB]
  obtain ⟨DA, hDA⟩ : ∃ D, (cellsOf a.d).toArray = D := ⟨_, rfl⟩
  obtain ⟨DB, hDB⟩ : ∃ D, (cellsOf b.d).toArray = D := ⟨_, rfl⟩
  rw [hDA] at p3a ed
  rw [hDB] at p3b ed
  simp [Op.eqFields, p0a, p0b, p1a, p1b, p2a, p2b, p3a, p3b, p4a, p4b, x0, x1, x2, x4, ed]
  cases b0 <;> cases b1 <;> cases b2 <;> cases b3 <;> cases b4 <;> simp
theorem equalSigned (d : Nat) (a b : SgT) (ha : a.h.d.length = 32) (hb : b.h.d.length = 32) (ga : a.g.length = 32) (gb : b.g.length = 32) (x : Bool) (hx : x = true ↔ a = b) (w : World) : (Op.equalIn (d + 5) 28 (.agg (scells a).toArray) (.agg (scells b).toArray)).run Tryd.prog w = .ok x w := by
  have hf : Tryd.prog.fieldsOf 28 = #[{ name := "Head", type := 26, offset := 0, embedded := false, tag := "", pkgPath := "", byteOffset := 0 }, { name := "Node", type := 3, offset := 36, embedded := false, tag := "", pkgPath := "", byteOffset := 64 }, { name := "Tag", type := 24, offset := 37, embedded := false, tag := "", pkgPath := "", byteOffset := 72 }] := by
    unfold Program.fieldsOf; rw [Tryd.underlying28]
  obtain ⟨b0, hb0⟩ : ∃ x : Bool, x = true ↔ a.h = b.h := by
    by_cases h : a.h = b.h
    · exact ⟨true, by simp [h]⟩
    · exact ⟨false, by simp [h]⟩
  have p0a := fun W => part_head (scells a) 0 _ (scells_h a ha) W
  have p0b := fun W => part_head (scells b) 0 _ (scells_h b hb) W
  have p1a := fun W => part_int (scells a) 36 _ (scells_n a ha) W
  have p1b := fun W => part_int (scells b) 36 _ (scells_n b hb) W
  have p2a := fun W => part_dig (scells a) 37 _ (scells_g a ha ga) W
  have p2b := fun W => part_dig (scells b) 37 _ (scells_g b hb gb) W
  have x0 : ∀ W, (Op.equalIn (d + 4) 26 (.agg (hcells a.h).toArray) (.agg (hcells b.h).toArray)).run Tryd.prog W = .ok b0 W := fun W => equalHead d a.h b.h ha hb b0 hb0 W
  have x1 := fun W => run_equalIn_int (P := Tryd.prog) W (d + 3) 3 .i64 .i64 a.n b.n Tryd.underlying3
  have x2 : ∀ W, (Op.equalIn (d + 4) 24 (.agg (cellsOf a.g).toArray) (.agg (cellsOf b.g).toArray)).run Tryd.prog W = .ok (a.g == b.g) W := fun W => run_equalIn_bytes (P := Tryd.prog) W (d + 2) 24 5 32 Tryd.underlying24 Tryd.underlying5 sizeOf5 a.g b.g ga gb
  rw [run_equalIn_struct w (d + 4) 28 _ _ (by rw [hf]; exact Tryd.underlying28) heldS, hf]
  obtain ⟨b1, h1⟩ : ∃ x, (a.n == b.n) = x := ⟨_, rfl⟩
  obtain ⟨b2, h2⟩ : ∃ x, (a.g == b.g) = x := ⟨_, rfl⟩
  have hq : x = (b0 && b1 && b2) := by
    rw [← h1, ← h2, Bool.eq_iff_iff]
    rw [hx]
    simp only [Bool.and_eq_true, beq_iff_eq, hb0]
    constructor
    · rintro rfl; simp
    · rintro ⟨⟨e0, e1⟩, e2⟩
      cases a; cases b
      simp only at e0 e1 e2
      rw [e0, e1, e2]
  rw [h1] at x1
  rw [h2] at x2
  rw [hq]
  obtain ⟨A, hA⟩ : ∃ A, (scells a).toArray = A := ⟨_, rfl⟩
  obtain ⟨B, hB⟩ : ∃ B, (scells b).toArray = B := ⟨_, rfl⟩
  rw [hA] at p0a p1a p2a
  rw [hB] at p0b p1b p2b
  rw [hA, hB]
  obtain ⟨DA, hDA⟩ : ∃ D, (cellsOf a.g).toArray = D := ⟨_, rfl⟩
  obtain ⟨DB, hDB⟩ : ∃ D, (cellsOf b.g).toArray = D := ⟨_, rfl⟩
  rw [hDA] at p2a x2
  rw [hDB] at p2b x2
  obtain ⟨EA, hEA⟩ : ∃ D, (hcells a.h).toArray = D := ⟨_, rfl⟩
  obtain ⟨EB, hEB⟩ : ∃ D, (hcells b.h).toArray = D := ⟨_, rfl⟩
  rw [hEA] at p0a x0
  rw [hEB] at p0b x0
  simp [Op.eqFields, p0a, p0b, p1a, p1b, p2a, p2b, x0, x1, x2]
  cases b0 <;> cases b1 <;> cases b2 <;> simp
theorem eqHead (a b : HdT) (ha : a.d.length = 32) (hb : b.d.length = 32) (A B : Array Value) (HA : Hid (A = (hcells a).toArray)) (HB : Hid (B = (hcells b).toArray)) (x : Bool) (hx : x = true ↔ a = b) (w : World) : (binOp .eql 26 (.agg A) (.agg B)).run Tryd.prog w = .ok (.bool x) w := by
  rw [run_eql_struct, HA.out, HB.out, show (10000 : Nat) = 9996 + 4 from rfl, equalHead 9996 a b ha hb x hx]; rfl
theorem neqHead (a b : HdT) (ha : a.d.length = 32) (hb : b.d.length = 32) (A B : Array Value) (HA : Hid (A = (hcells a).toArray)) (HB : Hid (B = (hcells b).toArray)) (x : Bool) (hx : x = false ↔ a = b) (w : World) : (binOp .neq 26 (.agg A) (.agg B)).run Tryd.prog w = .ok (.bool x) w := by
  rw [run_neq_struct, HA.out, HB.out, show (10000 : Nat) = 9996 + 4 from rfl, equalHead 9996 a b ha hb (!x) (by rw [← hx]; simp)]; simp
theorem neqSigned (a b : SgT) (ha : a.h.d.length = 32) (hb : b.h.d.length = 32) (ga : a.g.length = 32) (gb : b.g.length = 32) (A B : Array Value) (HA : Hid (A = (scells a).toArray)) (HB : Hid (B = (scells b).toArray)) (x : Bool) (hx : x = false ↔ a = b) (w : World) : (binOp .neq 28 (.agg A) (.agg B)).run Tryd.prog w = .ok (.bool x) w := by
  rw [run_neq_struct, HA.out, HB.out, show (10000 : Nat) = 9995 + 5 from rfl, equalSigned 9995 a b ha hb ga gb (!x) (by rw [← hx]; simp)]; simp
end Go.Proofs.YtdnhnjimhbbabaaDoor

/- What the calls of package head answer, as the document says (their proofs are of one commit of the code). -/
namespace Go.Proofs.YtdnhnjimhbbabaaDoor
open Go.RowKit Sums Nums
set_option linter.unusedVariables false
set_option linter.unusedSimpArgs false
set_option maxRecDepth 100000
/-- The tables that head reads. -/
def TabH (w : World) : Prop := Table 0 w
theorem TabH.keep {w w' : World} (h : TabH w) (hb : Below w.heap.size w w') : TabH w' := Table.keep h hb
def In64 (z : Int) : Prop := -9223372036854775808 ≤ z ∧ z ≤ 9223372036854775807
/-- A head that lies in a variable. -/
structure InH (h : HdT) : Prop where
  d : h.d.length = 32
  r : In64 h.r
  e : In64 h.e
  s : In64 h.s
  t : In64 h.t
structure InS (s : SgT) : Prop where
  h : InH s.h
  n : In64 s.n
  g : s.g.length = 32
/-- A row of bytes and an error. -/
def BytesE (bs : List UInt8) (E : Int) (e : Ending) (w' : World) : Prop := ∃ a cap, e = .returned (.tuple #[.slice a bs.length cap, .int .i64 E]) ∧ Reads w' a bs.length cap bs
def putB (h : HdT) : List UInt8 := if rightH h = true then headB h else []
def putE (h : HdT) : Int := if rightH h = true then 0 else 70
def putSB (s : SgT) : List UInt8 := if mayS s = true then signB s else []
def putSE (s : SgT) : Int := if mayS s = true then 0 else 70
/-- What the calls of package head answer. -/
structure HeadC : Prop where
  check : ∀ (h : HdT) (hh : InH h) (w : World) (C : Array Value) (HC : Hid (C = (hcells h).toArray)),
    Calls Tryd.prog 38 #[.agg C] w fun e w' => e = .returned (.int .i64 (putE h)) ∧ Below w.heap.size w w'
  put : ∀ (h : HdT) (hh : InH h) (w : World) (C : Array Value) (HC : Hid (C = (hcells h).toArray)),
    Calls Tryd.prog 22 #[.agg C] w fun e w' => BytesE (putB h) (putE h) e w' ∧ Below w.heap.size w w'
  get : ∀ (a : Option Addr) (len cap : Nat) (bs : List UInt8) (w : World) (hR : Reads w a len cap bs) (hl : len ≤ 100000) (R : Array Value) (HR : Hid (R = (hcells (getHO bs)).toArray)),
    Calls Tryd.prog 18 #[.slice a len cap] w fun e w' => e = .returned (.tuple #[.agg R, .int .i64 (getHE bs)]) ∧ Below w.heap.size w w'
  sign : ∀ (master : List UInt8) (h : HdT) (n : Int) (w : World) (M C R : Array Value) (HM : Hid (M = (cellsOf master).toArray)) (HC : Hid (C = (hcells h).toArray)) (hm : master.length = 32) (hh : InH h) (hn : In64 n) (hT : TabH w) (HR : Hid (R = (scells (signO master h n)).toArray)),
    Calls Tryd.prog 8 #[.agg M, .agg C, .int .i64 n] w fun e w' => e = .returned (.tuple #[.agg R, .int .i64 (signE h n)]) ∧ Below w.heap.size w w'
  verify : ∀ (master : List UInt8) (s : SgT) (w : World) (M C : Array Value) (HM : Hid (M = (cellsOf master).toArray)) (HC : Hid (C = (scells s).toArray)) (hm : master.length = 32) (hs : InS s) (hT : TabH w),
    Calls Tryd.prog 11 #[.agg M, .agg C] w fun e w' => e = .returned (.int .i64 (verE master s)) ∧ Below w.heap.size w w'
  putS : ∀ (s : SgT) (hs : InS s) (w : World) (C : Array Value) (HC : Hid (C = (scells s).toArray)),
    Calls Tryd.prog 13 #[.agg C] w fun e w' => BytesE (putSB s) (putSE s) e w' ∧ Below w.heap.size w w'
  getS : ∀ (a : Option Addr) (len cap : Nat) (bs : List UInt8) (w : World) (hR : Reads w a len cap bs) (hl : len ≤ 100000) (R : Array Value) (HR : Hid (R = (scells (getSO bs)).toArray)),
    Calls Tryd.prog 16 #[.slice a len cap] w fun e w' => e = .returned (.tuple #[.agg R, .int .i64 (getSE bs)]) ∧ Below w.heap.size w w'
theorem right_in {h : HdT} (hr : rightH h = true) (hd : h.d.length = 32) : InH h := by
  have := (rightH_iff h).1 hr
  refine ⟨hd, ?_, ?_, ?_, ?_⟩ <;> unfold In64 <;> omega
theorem zero_in : InH zeroH := ⟨rfl, by unfold In64; decide, by unfold In64; decide, by unfold In64; decide, by unfold In64; decide⟩
theorem getHO_in (bs : List UInt8) : InH (getHO bs) := by
  unfold getHO
  cases h : getO bs with
  | none => exact zero_in
  | some x => exact right_in (getO_some h).1 (getO_some h).2.1
theorem may_in {s : SgT} (hm : mayS s = true) (hd : s.h.d.length = 32) (hg : s.g.length = 32) : InS s := by
  have := (mayS_iff s).1 hm
  exact ⟨right_in this.1 hd, by unfold In64; omega, hg⟩
theorem zeroS_in : InS zeroS := ⟨zero_in, by unfold In64; decide, rfl⟩
theorem getSO_in (bs : List UInt8) : InS (getSO bs) := by
  unfold getSO
  cases h : Go.Proofs.YtdnhnjimhbbabaaDoor.getS bs with
  | none => exact zeroS_in
  | some x => exact may_in (getS_some h).1 (getS_some h).2.1 (getS_some h).2.2.1
/-! The document's H. -/
def oneH : HdT := ⟨1, 1, 0, List.replicate 32 0, 0⟩
theorem one_in : InH oneH := ⟨rfl, by unfold In64; decide, by unfold In64; decide, by unfold In64; decide, by unfold In64; decide⟩
theorem one_right : rightH oneH = true := by decide
theorem wpList_build_two {P : Program} {ops : Array Oper} {rest : List Oper} {o : Oper} {a : Act} {w : World} {Q : Exit → Act → World → Prop} (hg : o.guard = none) (t : TypeId) (i j : Nat) (x y : Operand) (ho : o.op = .build t #[(i, x), (j, y)])
    (cs : Array Value) (v u : Value) (hv : a.eval x = v) (hu : a.eval y = u) (hb : P.built t [(i, v), (j, u)] = some cs) (h : wpList P ops Q rest (a.put o.dst (.agg cs)) w) : wpList P ops Q (o :: rest) a w :=
  wpList_build_row hg t #[(i, x), (j, y)] ho cs (by simpa [hv, hu] using hb) h
theorem builtOne : Tryd.prog.built 26 [(0, .int .i64 1), (1, .int .i64 1)] = some (hcells oneH).toArray := by kernel_rfl
theorem one_any (w : World) (C : Array Value) (HC : Hid (C = (hcells oneH).toArray)) :
    Calls Tryd.prog 30 #[] w fun e w' => e = .returned (.agg C) ∧ Below w.heap.size w w' := by
  obtain ⟨Z, HZ, HA, HBZ, H36⟩ := noughtsH
  have HSC : Hid ((Tryd.prog.info? 26).map (·.size) = some C.size) := by show _ = _; rw [sizeH, HC.out]; rfl
  have H1C : Hid (C.all (·.oneCell') = true) := by show _ = _; rw [HC.out]; exact one_cells _
  have HZC : Hid (Z.size = C.size) := by show _ = _; rw [H36.out, HC.out]; rfl
  have HBO : Hid (Tryd.prog.built 26 [(0, .int .i64 1), (1, .int .i64 1)] = some C) := by show _ = _; rw [HC.out]; exact builtOne
  clear HC HZ HBZ H36
  go_enter Tryd.func30, Tryd.ntmps30
  go_wp2_with (first
    | (show wpList _ _ _ ({ dst := some 0, op := _, type := _, pos := _, after := _, guard := _ } :: _) _ _; refine wpList_new_var rfl 26 rfl Z HA.out ?_; intro g0 w1 HM0; try simp only [Act.put, List.setIfInBounds_toArray, List.set_cons_zero, List.set_cons_succ])
    | (show wpList _ _ _ ({ dst := some 1, op := _, type := _, pos := _, after := _, guard := _ } :: _) _ _; refine wpList_build_two rfl 26 0 1 (.const (.int .i64 1)) (.const (.int .i64 1)) rfl C (.int .i64 1) (.int .i64 1) rfl rfl HBO.out ?_; try simp only [Act.put, List.setIfInBounds_toArray, List.set_cons_zero, List.set_cons_succ])
    | (refine wpList_set_var rfl 26 (.tmp 0) (.tmp 1) rfl g0 C rfl rfl 26 Z HM0.out.row HSC.out HZC.out H1C.out ?_; intro w2 HW0; try simp only [Act.put, List.setIfInBounds_toArray, List.set_cons_zero, List.set_cons_succ])
    | fail)
  refine bodyPost_ret (v := .agg C) ?_ rfl ⟨rfl, HW0.out.below w.heap.size w HM0.out.below (Nat.le_of_eq HM0.out.new.symm)⟩
  exact results_cell_row (p := 0) (ty := 26) rfl _ _ g0 26 C (0, 0) _ rfl HW0.out.row Tryd.underlying26 rfl HSC.out
end Go.Proofs.YtdnhnjimhbbabaaDoor

/- The statements' own example of signing, over what the calls of package head answer. -/
namespace Go.Proofs.YtdnhnjimhbbabaaDoor
open Go.RowKit Sums Nums
set_option linter.unusedVariables false
set_option linter.unusedSimpArgs false
set_option maxRecDepth 100000
theorem tags_apart : tagD (List.replicate 32 0) oneH 2 ≠ tagD (List.replicate 32 0) oneH 1 := by decide +kernel
theorem headB_one : headB oneH = [1, 0, 0, 1, 1, 2, 0, 0, 1, 1, 3, 0, 0, 0, 4, 0, 0, 32] ++ List.replicate 32 0 ++ [5, 0, 0, 0] := by decide +kernel
theorem wrote_part {w : World} {g k : Nat} {D : Array Value} {t : TypeId} {v : Value} (h : w.heap[g]? = some (.cells D t (0, 0))) : Wrote g (D.setIfInBounds k v) t w (w.setCell ⟨g, k, none⟩ v) :=
  ⟨heap_setCell_same w g k D t v h, fun j hj => Below.heap_setCell _ _ _ _ hj, fun B a hb hg => hb.setCell hg v⟩
/-- A number stored in the midst of a variable. -/
theorem wpList_set_int {P : Program} {ops : Array Oper} {rest : List Oper} {o : Oper} {a : Act} {w : World} {Q : Exit → Act → World → Prop} (hgd : o.guard = none) (ty : TypeId) (x y : Operand) (ho : o.op = .store ty x y)
    (g k : Nat) (q : IntKind) (n : Int) (hx : a.eval x = .pointer (some ⟨g, k, none⟩)) (hy : a.eval y = .int q n) (t' : TypeId) (D : Array Value) (hg : w.heap[g]? = some (.cells D t' (0, 0))) (hk : k < D.size) (hi : (P.info? ty).map (·.size) = some 1)
    (h : ∀ w', Hid (Wrote g (D.setIfInBounds k (.int q n)) t' w w') → wpList P ops Q rest (a.put o.dst undef) w') : wpList P ops Q (o :: rest) a w := by
  refine wpList_plain hgd fun K hK => ?_
  have hkk := hK _ _ (h _ (wrote_part (k := k) (v := .int q n) hg))
  have hc : w.cell? ⟨g, k, none⟩ = some D[k] := by rw [cell_of_row w g k D t' (0, 0) hg]; simp [hk]
  have hf : w.frozen? ⟨g, k, none⟩ = false := frozen_of_row w g k D t' hg
  cases hq : P.info? ty with
  | none => simp [hq] at hi
  | some i =>
    have hs : i.size = 1 := by simpa [hq] using hi
    have := run_storeCells_cells (P := P) g k [.int q n] 0 w (fun j hj => by
      obtain rfl : j = 0 := by simpa using hj
      simp [hc]) (fun j hj => by
      obtain rfl : j = 0 := by simpa using hj
      simpa using hf) (fun v hv => by simp at hv; subst hv; rfl)
    unfold Oper.wp execOp
    simp only [ho, hx, hy, Instr.storeAt, Instr.sureAddr, Sem.run_bind, Sem.run_pure, Result.andThen_ok]
    simp only [Nat.add_zero] at this
    simp [storeVar, sizeOf, typeInfo, hq, Value.cells, hs, this]
    exact hkk
theorem scells_set (h : HdT) (n m : Int) (t : List UInt8) (hd : h.d.length = 32) : (scells ⟨h, n, t⟩).toArray.setIfInBounds 36 (.int .i64 m) = (scells ⟨h, m, t⟩).toArray := by
  simp only [List.setIfInBounds_toArray]
  congr 1
  unfold scells
  simp only [List.append_assoc]
  rw [List.set_append_right _ _ (by rw [hcells_length _ hd]; omega), hcells_length _ hd]
  rfl
theorem wpList_build_none_w {P : Program} {ops : Array Oper} {rest : List Oper} {o : Oper} {a : Act} {w : World} {Q : Exit → Act → World → Prop} (hw : Region.wanted o (yielded ops a.tmps) = true) (t : TypeId) (ho : o.op = .build t #[])
    (cs : Array Value) (hb : P.built t [] = some cs) (h : wpList P ops Q rest (a.put o.dst (.agg cs)) w) : wpList P ops Q (o :: rest) a w :=
  BigFrame.wpList_want hw fun _ hK => by
    have hr := run_build w t #[] cs (by simpa using hb)
    unfold Oper.wp execOp
    simp [ho, hr]
    exact hK _ _ h
set_option maxHeartbeats 4000000 in
theorem signs_true (ck : HeadC) (w : World) (hT : TabH w) : Calls Tryd.prog 10 #[] w fun e w' => e = .returned (.bool true) ∧ Below w.heap.size w w' := by
  obtain ⟨Y, HY, HAY, H32Y⟩ := noughtsY
  have HBY : Hid (Tryd.prog.built 23 [] = some Y) := by show _ = _; rw [HY.out]; kernel_rfl
  obtain ⟨Z, HZ, HA, HBZ, H69⟩ := noughtsS
  obtain ⟨C, HC, HSC, H1C, H36⟩ := head_row5 oneH rfl
  have hs1 : signsO oneH 1 = true := by decide
  have hs4 : signsO oneH 4 = false := by decide
  have hg1 : (tagD (List.replicate 32 0) oneH 1).length = 32 := tagD_length sumD_length _ _ _
  obtain ⟨X, HX, HSX, H1X, H69X⟩ := sign_row ⟨oneH, 1, tagD (List.replicate 32 0) oneH 1⟩ rfl hg1
  obtain ⟨U, HU, HSU, H1U, H69U⟩ := sign_row ⟨oneH, 2, tagD (List.replicate 32 0) oneH 1⟩ rfl hg1
  have HZX : Hid (Z.size = X.size) := by show _ = _; rw [H69.out, H69X.out]
  have HSZ : Hid ((Tryd.prog.info? 28).map (·.size) = some Z.size) := by show _ = _; rw [sizeS, H69.out]
  have H1Z : Hid (Z.all (·.oneCell') = true) := by show _ = _; rw [HZ.out]; exact one_cellsS _
  have HXU : Hid (X.setIfInBounds 36 (.int .i64 2) = U) := by show _ = _; rw [HX.out, HU.out]; exact scells_set oneH 1 2 _ rfl
  have H36X : Hid (36 < X.size) := by show _ < _; rw [H69X.out]; omega
  have hi3 : (Tryd.prog.info? 3).map (·.size) = some 1 := by kernel_rfl
  have hzl : (List.replicate 32 (0 : UInt8)).length = 32 := rfl
  have ON : Hid (∀ W, Calls Tryd.prog 30 #[] W fun e w' => e = .returned (.agg C) ∧ Below W.heap.size W w') := fun W => one_any W C HC
  have S1 : Hid (∀ W, Below w.heap.size w W → Calls Tryd.prog 8 #[.agg Y, .agg C, .int .i64 1] W fun e w' => e = .returned (.tuple #[.agg X, .int .i64 0]) ∧ Below W.heap.size W w') := fun W hb => by
    have := ck.sign _ oneH 1 W Y C X HY HC hzl one_in (by unfold In64; decide) (hT.keep hb) (by show _ = _; unfold signO; rw [hs1]; exact HX.out)
    have e : signE oneH 1 = 0 := by decide
    rwa [e] at this
  have S4 : Hid (∀ W, Below w.heap.size w W → Calls Tryd.prog 8 #[.agg Y, .agg C, .int .i64 4] W fun e w' => e = .returned (.tuple #[.agg Z, .int .i64 70]) ∧ Below W.heap.size W w') := fun W hb => by
    have := ck.sign _ oneH 4 W Y C Z HY HC hzl one_in (by unfold In64; decide) (hT.keep hb) (by show _ = _; unfold signO; rw [hs4]; exact HZ.out)
    have e : signE oneH 4 = 70 := by decide
    rwa [e] at this
  have hm1 : mayS ⟨oneH, 1, tagD (List.replicate 32 0) oneH 1⟩ = true := (mayS_iff _).2 ⟨one_right, by show (1 : Int) ≤ 1; omega, by show (1 : Int) ≤ 3; omega⟩
  have hm2 : mayS ⟨oneH, 2, tagD (List.replicate 32 0) oneH 1⟩ = true := (mayS_iff _).2 ⟨one_right, by show (1 : Int) ≤ 2; omega, by show (2 : Int) ≤ 3; omega⟩
  have V1 : Hid (∀ W, Below w.heap.size w W → Calls Tryd.prog 11 #[.agg Y, .agg X] W fun e w' => e = .returned (.int .i64 0) ∧ Below W.heap.size W w') := fun W hb => by
    have := ck.verify _ ⟨oneH, 1, tagD (List.replicate 32 0) oneH 1⟩ W Y X HY HX hzl (may_in hm1 rfl hg1) (hT.keep hb)
    have e : verE (List.replicate 32 0) ⟨oneH, 1, tagD (List.replicate 32 0) oneH 1⟩ = 0 := by unfold verE; rw [if_pos hm1, if_pos rfl]
    rwa [e] at this
  have V2 : Hid (∀ W, Below w.heap.size w W → Calls Tryd.prog 11 #[.agg Y, .agg U] W fun e w' => e = .returned (.int .i64 72) ∧ Below W.heap.size W w') := fun W hb => by
    have := ck.verify _ ⟨oneH, 2, tagD (List.replicate 32 0) oneH 1⟩ W Y U HY HU hzl (may_in hm2 rfl hg1) (hT.keep hb)
    have e : verE (List.replicate 32 0) ⟨oneH, 2, tagD (List.replicate 32 0) oneH 1⟩ = 72 := by unfold verE; rw [if_pos hm2, if_neg tags_apart]
    rwa [e] at this
  clear hT HY HZ HC HX HU hm1 hm2 hg1 hs1 hs4 hzl HSC H1C H36 HAY
  go_enter Tryd.func10, Tryd.ntmps10
  go_wp2_with (first
    | (show wpList _ _ _ ({ dst := some 7, op := _, type := _, pos := _, after := _, guard := _ } :: _) _ _; refine wpList_build_none rfl 23 rfl Y HBY.out ?_; try simp only [Act.put, List.setIfInBounds_toArray, List.set_cons_zero, List.set_cons_succ])
    | fail)
  refine (ON.out _).mono ?_
  rintro e w1 ⟨rfl, hb1⟩
  have HB1 := hidk hb1
  clear hb1
  go_wp2_with fail
  refine (S1.out _ HB1.out).mono ?_
  rintro e w2 ⟨rfl, hb2⟩
  have HB2 := hidk (HB1.out.trans (hb2.mono HB1.out.size))
  clear hb2 HB1 S1
  go_wp2_with (first
    | (show wpList _ _ _ ({ dst := some 1, op := _, type := _, pos := _, after := _, guard := _ } :: _) _ _; refine wpList_new_var rfl 28 rfl Z HA.out ?_; intro g1 w3 HM1; try simp only [Act.put, List.setIfInBounds_toArray, List.set_cons_zero, List.set_cons_succ])
    | (refine wpList_set_var rfl 28 (.tmp 1) (.tmp 10) rfl g1 X rfl rfl 28 Z HM1.out.row HSX.out HZX.out H1X.out ?_; intro w4 HW1; try simp only [Act.put, List.setIfInBounds_toArray, List.set_cons_zero, List.set_cons_succ])
    | (show wpList _ _ _ ({ dst := some 12, op := _, type := _, pos := _, after := _, guard := _ } :: _) _ _; refine wpList_load_row rfl 28 (.tmp 1) rfl g1 rfl 28 X (0, 0) _ HW1.out.row Tryd.underlying28 rfl HSX.out ?_; try simp only [Act.put, List.setIfInBounds_toArray, List.set_cons_zero, List.set_cons_succ])
    | (show wpList _ _ _ ({ dst := some 3, op := _, type := _, pos := _, after := _, guard := _ } :: _) _ _; refine wpList_new_var rfl 28 rfl Z HA.out ?_; intro g3 w5 HM3; try simp only [Act.put, List.setIfInBounds_toArray, List.set_cons_zero, List.set_cons_succ])
    | (refine wpList_set_var rfl 28 (.tmp 3) (.tmp 12) rfl g3 X rfl rfl 28 Z HM3.out.row HSX.out HZX.out H1X.out ?_; intro w6 HW3; try simp only [Act.put, List.setIfInBounds_toArray, List.set_cons_zero, List.set_cons_succ])
    | (refine wpList_set_int rfl 3 (.tmp 13) (.const (.int .i64 2)) rfl g3 36 .i64 2 rfl rfl 28 X HW3.out.row H36X.out hi3 ?_; intro w7 HW7; try simp only [Act.put, List.setIfInBounds_toArray, List.set_cons_zero, List.set_cons_succ])
    | (show wpList _ _ _ ({ dst := some 15, op := _, type := _, pos := _, after := _, guard := _ } :: _) _ _; refine wpList_build_none rfl 23 rfl Y HBY.out ?_; try simp only [Act.put, List.setIfInBounds_toArray, List.set_cons_zero, List.set_cons_succ])
    | fail)
  have h1 : w.heap.size ≤ g1 := by rw [HM1.out.new]; exact HB2.out.size
  have h3 : g1 < g3 := by rw [HM3.out.new]; exact heap_lt HW1.out.row
  have HB4 := hidk (HW1.out.below w.heap.size w (HB2.out.trans (HM1.out.below.mono HB2.out.size)) h1)
  have HB6 := hidk (HW3.out.below w.heap.size w (HB4.out.trans (HM3.out.below.mono HB4.out.size)) (by omega))
  have HB7 := hidk (HW7.out.below w.heap.size w HB6.out (by omega))
  have HR1 : Hid (w7.heap[g1]? = some (.cells X 28 (0, 0))) := by
    show _ = _
    rw [HW7.out.other _ (by omega), HW3.out.other _ (by omega), HM3.out.below.block _ (heap_lt HW1.out.row)]
    exact HW1.out.row
  have HR3 : Hid (w7.heap[g3]? = some (.cells U 28 (0, 0))) := by
    show _ = _
    rw [HW7.out.row, HXU.out]
  clear HW7 HW3 HM3 HW1 HM1 HB2 HB4 HB6
  refine (ON.out _).mono ?_
  rintro e w8 ⟨rfl, hb8⟩
  have HB8 := hidk (HB7.out.trans (hb8.mono HB7.out.size))
  have HR18 := hidk ((hb8.block _ (heap_lt HR1.out)).trans HR1.out)
  have HR38 := hidk ((hb8.block _ (heap_lt HR3.out)).trans HR3.out)
  clear hb8 HB7 HR1 HR3 ON
  go_wp2_with fail
  refine (S4.out _ HB8.out).mono ?_
  rintro e w9 ⟨rfl, hb9⟩
  have HB9 := hidk (HB8.out.trans (hb9.mono HB8.out.size))
  have HR19 := hidk ((hb9.block _ (heap_lt HR18.out)).trans HR18.out)
  have HR39 := hidk ((hb9.block _ (heap_lt HR38.out)).trans HR38.out)
  clear hb9 HB8 HR18 HR38 S4
  go_wp2_with (first
    | (show wpList _ _ _ ({ dst := some 4, op := _, type := _, pos := _, after := _, guard := _ } :: _) _ _; refine wpList_new_var rfl 28 rfl Z HA.out ?_; intro g4 w10 HM4; try simp only [Act.put, List.setIfInBounds_toArray, List.set_cons_zero, List.set_cons_succ])
    | (refine wpList_set_var rfl 28 (.tmp 4) (.tmp 18) rfl g4 Z rfl rfl 28 Z HM4.out.row HSZ.out rfl H1Z.out ?_; intro w11 HW4; have HX11 := hidk (HW4.out.below w9.heap.size w9 HM4.out.below (Nat.le_of_eq HM4.out.new.symm)); have HRa := hidk ((HX11.out.block _ (heap_lt HR19.out)).trans HR19.out); try simp only [Act.put, List.setIfInBounds_toArray, List.set_cons_zero, List.set_cons_succ])
    | (show wpList _ _ _ ({ dst := some 23, op := _, type := _, pos := _, after := _, guard := _ } :: _) _ _; refine wpList_build_none_w (by rfl) 23 rfl Y HBY.out ?_; try simp only [Act.put, List.setIfInBounds_toArray, List.set_cons_zero, List.set_cons_succ])
    | (show wpList _ _ _ ({ dst := some 24, op := _, type := _, pos := _, after := _, guard := _ } :: _) _ _; refine wpList_load_row_w (by rfl) 28 (.tmp 1) rfl g1 rfl 28 X (0, 0) _ HRa.out Tryd.underlying28 rfl HSX.out ?_; try simp only [Act.put, List.setIfInBounds_toArray, List.set_cons_zero, List.set_cons_succ])
    | fail)
  have HB11 := hidk (HB9.out.trans (HX11.out.mono HB9.out.size))
  have HR3b := hidk ((HX11.out.block _ (heap_lt HR39.out)).trans HR39.out)
  clear HM4 HW4 HX11 HB9 HR19 HR39
  refine (V1.out _ HB11.out).mono ?_
  rintro e w12 ⟨rfl, hb12⟩
  have HB12 := hidk (HB11.out.trans (hb12.mono HB11.out.size))
  have HR3c := hidk ((hb12.block _ (heap_lt HR3b.out)).trans HR3b.out)
  clear hb12 HB11 HRa HR3b V1
  go_wp2_with (first
    | (show wpList _ _ _ ({ dst := some 29, op := _, type := _, pos := _, after := _, guard := _ } :: _) _ _; refine wpList_build_none_w (by rfl) 23 rfl Y HBY.out ?_; try simp only [Act.put, List.setIfInBounds_toArray, List.set_cons_zero, List.set_cons_succ])
    | (show wpList _ _ _ ({ dst := some 30, op := _, type := _, pos := _, after := _, guard := _ } :: _) _ _; refine wpList_load_row_w (by rfl) 28 (.tmp 3) rfl g3 rfl 28 U (0, 0) _ HR3c.out Tryd.underlying28 rfl HSU.out ?_; try simp only [Act.put, List.setIfInBounds_toArray, List.set_cons_zero, List.set_cons_succ])
    | fail)
  refine (V2.out _ HB12.out).mono ?_
  rintro e w13 ⟨rfl, hb13⟩
  have HB13 := hidk (HB12.out.trans (hb13.mono HB12.out.size))
  clear hb13 HB12 V2 HR3c
  go_wp2_with fail
  go_ret
  exact ⟨rfl, HB13.out⟩
end Go.Proofs.YtdnhnjimhbbabaaDoor

/- The statements' own example of a head's bytes, over what the calls of package head answer. -/
namespace Go.Proofs.YtdnhnjimhbbabaaDoor
open Go.RowKit Sums Nums
set_option linter.unusedVariables false
set_option linter.unusedSimpArgs false
set_option maxRecDepth 100000
theorem getHE_cut : getHE ((headB oneH).take 53) = 70 := by decide +kernel
theorem getHO_cut : getHO ((headB oneH).take 53) = zeroH := by
  have h := getHE_cut
  unfold getHE at h
  unfold getHO
  cases hq : getO ((headB oneH).take 53) with
  | none => rfl
  | some x => rw [hq] at h; simp at h
theorem get_one : getO (headB oneH) = some oneH := getO_head oneH one_right rfl
theorem len_one : (headB oneH).length = 54 := by rw [headB_one]; rfl
theorem slice_bytes (W : World) (g o len cap k : Nat) (hk : k ≤ cap) : (Instr.sliceAt 35 (.slice (some ⟨g, o, none⟩) len cap) none (some (.int .i64 k)) none).run Tryd.prog W = .ok (.slice (some ⟨g, o, none⟩) k cap) W := by
  simp [Instr.sliceAt, Instr.slice, Instr.sliceBounds, Instr.sliceBound, asIntOf, run_underlying Tryd.underlying35, sizeOf5, hk]
  rw [add_plain]
  simp
set_option maxHeartbeats 8000000 in
theorem lays_true (ck : HeadC) (w : World) : Calls Tryd.prog 15 #[] w fun e w' => e = .returned (.bool true) ∧ Below w.heap.size w w' := by
  obtain ⟨Z, HZ, HA, HBZ, H36⟩ := noughtsH
  obtain ⟨C, HC, HSC, H1C, H36C⟩ := head_row5 oneH rfl
  have HZC : Hid (Z.size = C.size) := by show _ = _; rw [H36.out, H36C.out]
  have HSZ : Hid ((Tryd.prog.info? 26).map (·.size) = some Z.size) := by show _ = _; rw [sizeH, H36.out]
  have H1Z : Hid (Z.all (·.oneCell') = true) := by show _ = _; rw [HZ.out]; exact one_cells _
  have ON : Hid (∀ W, Calls Tryd.prog 30 #[] W fun e w' => e = .returned (.agg C) ∧ Below W.heap.size W w') := fun W => one_any W C HC
  have PU : Hid (∀ W, Calls Tryd.prog 22 #[.agg C] W fun e w' => (∃ b off cap, e = .returned (.tuple #[.slice (some ⟨b, off, none⟩) 54 cap, .int .i64 0]) ∧ 54 ≤ cap ∧ Reads w' (some ⟨b, off, none⟩) 54 cap (headB oneH)) ∧ Below W.heap.size W w') := fun W => (ck.put oneH one_in W C HC).mono (by
    rintro e w' ⟨⟨a, cap, rfl, hR⟩, hb⟩
    have e1 : putB oneH = headB oneH := by unfold putB; rw [if_pos one_right]
    have e2 : putE oneH = 0 := by unfold putE; rw [if_pos one_right]
    rw [e1, len_one] at hR
    rw [e1, e2, len_one]
    refine ⟨?_, hb⟩
    obtain ⟨q1, q2, q3, q4⟩ := hR
    rcases q4 with ⟨_, h0⟩ | ⟨ad, _, h0⟩ | ⟨b, off, rfl, h⟩
    · omega
    · omega
    · exact ⟨b, off, cap, rfl, q2, q1, q2, q3, .inr (.inr ⟨b, off, rfl, h⟩)⟩)
  have GE : Hid (∀ W b off cap, Reads W (some ⟨b, off, none⟩) 54 cap (headB oneH) → Calls Tryd.prog 18 #[.slice (some ⟨b, off, none⟩) 54 cap] W fun e w' => e = .returned (.tuple #[.agg C, .int .i64 0]) ∧ Below W.heap.size W w') := fun W b off cap h => by
    have := ck.get _ _ _ _ W h (by omega) C (by show _ = _; unfold getHO; rw [get_one]; exact HC.out)
    have e : getHE (headB oneH) = 0 := by unfold getHE; rw [get_one]; rfl
    rwa [e] at this
  have GC : Hid (∀ W b off cap, Reads W (some ⟨b, off, none⟩) 54 cap (headB oneH) → Calls Tryd.prog 18 #[.slice (some ⟨b, off, none⟩) 53 cap] W fun e w' => e = .returned (.tuple #[.agg Z, .int .i64 70]) ∧ Below W.heap.size W w') := fun W b off cap h => by
    have h' : Reads W (some ⟨b, off, none⟩) 53 cap ((headB oneH).take 53) := by
      obtain ⟨q1, q2, q3, q4⟩ := h
      refine ⟨by rw [List.length_take, len_one]; rfl, by omega, q3, .inr (.inr ?_)⟩
      rcases q4 with ⟨h0, _⟩ | ⟨ad, _, h0⟩ | ⟨b', off', e, hlt, hc⟩
      · cases h0
      · omega
      · cases e
        refine ⟨b, off, rfl, hlt, fun i hi => ?_⟩
        rw [List.getElem_take]
        exact hc i (by rw [List.length_take] at hi; omega)
    have := ck.get _ _ _ _ W h' (by omega) Z (by show _ = _; rw [getHO_cut]; exact HZ.out)
    rwa [getHE_cut] at this
  have CV : Hid (∀ W b off cap, Reads W (some ⟨b, off, none⟩) 54 cap (headB oneH) → (convert 35 9 (.slice (some ⟨b, off, none⟩) 14 cap)).run Tryd.prog W = .ok (.string ⟨#[1, 0, 0, 1, 1, 2, 0, 0, 1, 1, 3, 0, 0, 0]⟩) W) := fun W b off cap h => by
    have := run_convert_bytes_back (P := Tryd.prog) W 35 9 5 ⟨b, off, none⟩ cap [1, 0, 0, 1, 1, 2, 0, 0, 1, 1, 3, 0, 0, 0] Tryd.underlying35 Tryd.underlying5 Tryd.underlying9 (fun j hj => by
      obtain ⟨q1, q2, q3, q4⟩ := h
      rcases q4 with ⟨h0, _⟩ | ⟨ad, _, h0⟩ | ⟨b', off', e, hlt, hc⟩
      · cases h0
      · omega
      · cases e
        have hj14 : j < 14 := hj
        have hj' : j < (headB oneH).length := by rw [len_one]; omega
        have e2 : (headB oneH)[j]'hj' = [1, 0, 0, 1, 1, 2, 0, 0, 1, 1, 3, 0, 0, 0][j] := by
          apply Option.some.inj
          rw [← List.getElem?_eq_getElem, ← List.getElem?_eq_getElem, headB_one, List.append_assoc, List.getElem?_append_left (by simp; omega)]
          show ([1, 0, 0, 1, 1, 2, 0, 0, 1, 1, 3, 0, 0, 0] ++ [4, 0, 0, 32] : List UInt8)[j]? = _
          rw [List.getElem?_append_left hj]
        rw [add_plain]
        have := hc j hj'
        rw [e2] at this
        exact this)
    exact this
  have NE : ∀ W, (binOp .neq 9 (.string ⟨#[1, 0, 0, 1, 1, 2, 0, 0, 1, 1, 3, 0, 0, 0]⟩) (.string ⟨#[1, 0, 0, 1, 1, 2, 0, 0, 1, 1, 3, 0, 0, 0]⟩)).run Tryd.prog W = .ok (.bool false) W := fun W => by simp [go_sem]
  have EQ : ∀ W, (binOp .eql 26 (.agg C) (.agg C)).run Tryd.prog W = .ok (.bool true) W := fun W => eqHead oneH oneH rfl rfl C C HC HC true (by simp) W
  have CH1 : Hid (∀ W, Calls Tryd.prog 38 #[.agg C] W fun e w' => e = .returned (.int .i64 0) ∧ Below W.heap.size W w') := fun W => by
    have := ck.check oneH one_in W C HC
    have e : putE oneH = 0 := by decide
    rwa [e] at this
  have CH0 : Hid (∀ W, Calls Tryd.prog 38 #[.agg Z] W fun e w' => e = .returned (.int .i64 70) ∧ Below W.heap.size W w') := fun W => by
    have := ck.check zeroH zero_in W Z HZ
    have e : putE zeroH = 70 := by decide
    rwa [e] at this
  have BZ : Hid (∀ W, (Instr.build 26 #[]).run Tryd.prog W = .ok (.agg Z) W) := fun W => run_build W 26 #[] Z HBZ.out
  clear HC HZ HBZ H36 H36C
  go_enter Tryd.func15, Tryd.ntmps15
  go_wp2_with fail
  refine (ON.out _).mono ?_
  rintro e w1 ⟨rfl, hb1⟩
  have HB1 := hidk hb1
  clear hb1
  go_wp2_with fail
  refine (PU.out _).mono ?_
  rintro e w2 ⟨⟨b, off, cap, rfl, h54, hR⟩, hb2⟩
  have HR := hidk hR
  have HB2 := hidk (HB1.out.trans (hb2.mono HB1.out.size))
  have hcv := CV.out w2 b off cap hR
  have hs14 : ∀ W, (Instr.sliceAt 35 (.slice (some ⟨b, off, none⟩) 54 cap) none (some (.int .i64 14)) none).run Tryd.prog W = .ok (.slice (some ⟨b, off, none⟩) 14 cap) W := fun W => slice_bytes W b off 54 cap 14 (by omega)
  have hs53 : ∀ W, (Instr.sliceAt 35 (.slice (some ⟨b, off, none⟩) 54 cap) none (some (.int .i64 53)) none).run Tryd.prog W = .ok (.slice (some ⟨b, off, none⟩) 53 cap) W := fun W => slice_bytes W b off 54 cap 53 (by omega)
  clear hb2 HB1 PU CV hR
  go_wp2_with fail
  refine (GE.out _ _ _ _ HR.out).mono ?_
  rintro e w3 ⟨rfl, hb3⟩
  have HB3 := hidk (HB2.out.trans (hb3.mono HB2.out.size))
  have HR3 := hidk (HR.out.below hb3)
  clear hb3 HB2 HR GE hcv hs14 NE
  go_wp2_with (first
    | (show wpList _ _ _ ({ dst := some 3, op := _, type := _, pos := _, after := _, guard := _ } :: _) _ _; refine wpList_new_var rfl 26 rfl Z HA.out ?_; intro g3 w4 HM3; try simp only [Act.put, List.setIfInBounds_toArray, List.set_cons_zero, List.set_cons_succ])
    | (refine wpList_set_var rfl 26 (.tmp 3) (.tmp 28) rfl g3 C rfl rfl 26 Z HM3.out.row HSC.out HZC.out H1C.out ?_; intro w5 HW3; try simp only [Act.put, List.setIfInBounds_toArray, List.set_cons_zero, List.set_cons_succ])
    | fail)
  have HX5 := hidk (HW3.out.below w3.heap.size w3 HM3.out.below (Nat.le_of_eq HM3.out.new.symm))
  have HB5 := hidk (HB3.out.trans (HX5.out.mono HB3.out.size))
  have HR5 := hidk (HR3.out.below HX5.out)
  have HG5 := hidk HW3.out.row
  clear HM3 HW3 HX5 HB3 HR3
  refine (GC.out _ _ _ _ HR5.out).mono ?_
  rintro e w6 ⟨rfl, hb6⟩
  have HB6 := hidk (HB5.out.trans (hb6.mono HB5.out.size))
  have HG6 := hidk ((hb6.block _ (heap_lt HG5.out)).trans HG5.out)
  clear hb6 HB5 HR5 HG5 GC hs53
  go_wp2_with (first
    | (show wpList _ _ _ ({ dst := some 5, op := _, type := _, pos := _, after := _, guard := _ } :: _) _ _; refine wpList_new_var rfl 26 rfl Z HA.out ?_; intro g5 w7 HM5; try simp only [Act.put, List.setIfInBounds_toArray, List.set_cons_zero, List.set_cons_succ])
    | (refine wpList_set_var rfl 26 (.tmp 5) (.tmp 34) rfl g5 Z rfl rfl 26 Z HM5.out.row HSZ.out rfl H1Z.out ?_; intro w8 HW5; try simp only [Act.put, List.setIfInBounds_toArray, List.set_cons_zero, List.set_cons_succ])
    | fail)
  have HX8 := hidk (HW5.out.below w6.heap.size w6 HM5.out.below (Nat.le_of_eq HM5.out.new.symm))
  have HBc := hidk (HB6.out.trans (HX8.out.mono HB6.out.size)).drew
  have HG8 := hidk ((HX8.out.block _ (heap_lt HG6.out)).trans HG6.out)
  clear HM5 HW5 HX8 HB6 HG6
  refine wp_region_held_drew (S := (fun W => W.heap[g3]? = some (.cells C 26 (0, 0)))) (by kernel_rfl) HG8.out (fun hHeld => ?_)
  refine wpAnyH_take (i := 0) (oi := { dst := some 36, op := Op.move (Operand.tmp 4), type := 29, pos := "law.go:25", after := #[], guard := none }) (v := .int .i64 0) rfl (by kernel_rfl) (by kernel_rfl) (by kernel_rfl) (fun _ _ _ h => h) (Or.inl ⟨by rfl, by intro W hSw; go_simp⟩) hHeld ?_
  try simp only [Act.put, List.setIfInBounds_toArray, List.set_cons_zero, List.set_cons_succ]
  refine wpAnyH_take (i := 1) (oi := { dst := some 37, op := Op.binOp BinOp.eql 29 (Operand.tmp 36) (Operand.const (Value.int IntKind.i64 0)) 29, type := 4, pos := "law.go:25", after := #[{ on := 0, ground := Ground.data }], guard := none }) (v := .bool true) rfl (by kernel_rfl) (by kernel_rfl) (by kernel_rfl) (fun _ _ _ h => h) (Or.inl ⟨by rfl, by intro W hSw; go_simp⟩) hHeld ?_
  try simp only [Act.put, List.setIfInBounds_toArray, List.set_cons_zero, List.set_cons_succ]
  refine wpAnyH_take (i := 2) (oi := { dst := some 38, op := Op.move (Operand.tmp 37), type := 4, pos := "law.go:25", after := #[{ on := 1, ground := Ground.data }], guard := none }) (v := .bool true) rfl (by kernel_rfl) (by kernel_rfl) (by kernel_rfl) (fun _ _ _ h => h) (Or.inl ⟨by rfl, by intro W hSw; go_simp⟩) hHeld ?_
  try simp only [Act.put, List.setIfInBounds_toArray, List.set_cons_zero, List.set_cons_succ]
  refine wpAnyH_take (i := 3) (oi := { dst := some 39, op := Op.load 26 (Operand.tmp 3), type := 26, pos := "law.go:25", after := #[{ on := 2, ground := Ground.guard }], guard := some (2, true) }) (v := .agg C) rfl (by kernel_rfl) (by kernel_rfl) (by kernel_rfl) (fun _ _ _ h => h) (yieldsIf_row (by rfl) 26 (.tmp 3) rfl g3 rfl 26 C (0, 0) _ (fun _ h => h) Tryd.underlying26 rfl HSC.out) hHeld ?_
  try simp only [Act.put, List.setIfInBounds_toArray, List.set_cons_zero, List.set_cons_succ]
  refine wpAnyH_ready (rs := [4]) (by kernel_rfl) (by simp) ?_
  refine (AllReadyH.cons (o := { dst := some 40, op := Op.call { callee := Callee.value (Operand.func 30), args := #[], argTypes := #[] }, type := 26, pos := "law.go:25", after := #[{ on := 2, ground := Ground.chain }, { on := 2, ground := Ground.guard }], guard := some (2, true) }) rfl (fun K hK => ?_) AllReadyH.nil)
  go_simp
  refine (ON.out _).mono ?_
  rintro e wc4 ⟨rfl, hb4⟩
  replace HBc := hidk (HBc.out.trans (hb4.mono HBc.out.size))
  go_wp2_with fail
  refine hK.out _ _ ((hb4.block _ (heap_lt hHeld)).trans hHeld) (fun hHeld => ?_)
  clear hK K
  try simp only [Act.put, List.setIfInBounds_toArray, List.set_cons_zero, List.set_cons_succ]
  refine wpAnyH_take (i := 5) (oi := { dst := some 41, op := Op.binOp BinOp.eql 26 (Operand.tmp 39) (Operand.tmp 40) 26, type := 4, pos := "law.go:25", after := #[{ on := 3, ground := Ground.data }, { on := 4, ground := Ground.data }, { on := 2, ground := Ground.guard }], guard := some (2, true) }) (v := .bool true) rfl (by kernel_rfl) (by kernel_rfl) (by kernel_rfl) (fun _ _ _ h => h) (Or.inl ⟨by rfl, by intro W hSw; have := EQ W; go_simp⟩) hHeld ?_
  try simp only [Act.put, List.setIfInBounds_toArray, List.set_cons_zero, List.set_cons_succ]
  refine wpAnyH_take (i := 6) (oi := { dst := some 42, op := Op.pick (Operand.tmp 38) (Operand.tmp 41) (Operand.const (Value.bool false)), type := 4, pos := "law.go:25", after := #[{ on := 2, ground := Ground.data }, { on := 5, ground := Ground.data }], guard := none }) (v := .bool true) rfl (by kernel_rfl) (by kernel_rfl) (by kernel_rfl) (fun _ _ _ h => h) (Or.inl ⟨by rfl, by intro W hSw; go_simp⟩) hHeld ?_
  try simp only [Act.put, List.setIfInBounds_toArray, List.set_cons_zero, List.set_cons_succ]
  refine wpAnyH_take (i := 7) (oi := { dst := some 43, op := Op.move (Operand.tmp 42), type := 4, pos := "law.go:25", after := #[{ on := 6, ground := Ground.data }, { on := 4, ground := Ground.chain }], guard := none }) (v := .bool true) rfl (by kernel_rfl) (by kernel_rfl) (by kernel_rfl) (fun _ _ _ h => h) (Or.inl ⟨by rfl, by intro W hSw; go_simp⟩) hHeld ?_
  try simp only [Act.put, List.setIfInBounds_toArray, List.set_cons_zero, List.set_cons_succ]
  refine wpAnyH_take (i := 8) (oi := { dst := some 44, op := Op.move (Operand.tmp 6), type := 29, pos := "law.go:25", after := #[{ on := 7, ground := Ground.guard }], guard := some (7, true) }) (v := .int .i64 70) rfl (by kernel_rfl) (by kernel_rfl) (by kernel_rfl) (fun _ _ _ h => h) (Or.inl ⟨by rfl, by intro W hSw; go_simp⟩) hHeld ?_
  try simp only [Act.put, List.setIfInBounds_toArray, List.set_cons_zero, List.set_cons_succ]
  refine wpAnyH_take (i := 9) (oi := { dst := some 45, op := Op.binOp BinOp.eql 29 (Operand.tmp 44) (Operand.const (Value.int IntKind.i64 70)) 29, type := 4, pos := "law.go:25", after := #[{ on := 8, ground := Ground.data }, { on := 7, ground := Ground.guard }], guard := some (7, true) }) (v := .bool true) rfl (by kernel_rfl) (by kernel_rfl) (by kernel_rfl) (fun _ _ _ h => h) (Or.inl ⟨by rfl, by intro W hSw; go_simp⟩) hHeld ?_
  try simp only [Act.put, List.setIfInBounds_toArray, List.set_cons_zero, List.set_cons_succ]
  refine wpAnyH_take (i := 10) (oi := { dst := some 46, op := Op.pick (Operand.tmp 43) (Operand.tmp 45) (Operand.const (Value.bool false)), type := 4, pos := "law.go:25", after := #[{ on := 7, ground := Ground.data }, { on := 9, ground := Ground.data }], guard := none }) (v := .bool true) rfl (by kernel_rfl) (by kernel_rfl) (by kernel_rfl) (fun _ _ _ h => h) (Or.inl ⟨by rfl, by intro W hSw; go_simp⟩) hHeld ?_
  try simp only [Act.put, List.setIfInBounds_toArray, List.set_cons_zero, List.set_cons_succ]
  refine wpAnyH_take (i := 11) (oi := { dst := some 47, op := Op.move (Operand.tmp 46), type := 4, pos := "law.go:25", after := #[{ on := 10, ground := Ground.data }, { on := 7, ground := Ground.chain }], guard := none }) (v := .bool true) rfl (by kernel_rfl) (by kernel_rfl) (by kernel_rfl) (fun _ _ _ h => h) (Or.inl ⟨by rfl, by intro W hSw; go_simp⟩) hHeld ?_
  try simp only [Act.put, List.setIfInBounds_toArray, List.set_cons_zero, List.set_cons_succ]
  refine wpAnyH_ready (rs := [12]) (by kernel_rfl) (by simp) ?_
  refine (AllReadyH.cons (o := { dst := some 48, op := Op.call { callee := Callee.value (Operand.func 30), args := #[], argTypes := #[] }, type := 26, pos := "law.go:25", after := #[{ on := 11, ground := Ground.chain }, { on := 11, ground := Ground.guard }], guard := some (11, true) }) rfl (fun K hK => ?_) AllReadyH.nil)
  go_simp
  refine (ON.out _).mono ?_
  rintro e wc12 ⟨rfl, hb12⟩
  replace HBc := hidk (HBc.out.trans (hb12.mono HBc.out.size))
  go_wp2_with fail
  refine hK.out _ _ ((hb12.block _ (heap_lt hHeld)).trans hHeld) (fun hHeld => ?_)
  clear hK K
  try simp only [Act.put, List.setIfInBounds_toArray, List.set_cons_zero, List.set_cons_succ]
  refine wpAnyH_ready (rs := [13]) (by kernel_rfl) (by simp) ?_
  refine (AllReadyH.cons (o := { dst := some 49, op := Op.call { callee := Callee.value (Operand.func 38), args := #[Operand.tmp 48], argTypes := #[26] }, type := 29, pos := "law.go:25", after := #[{ on := 12, ground := Ground.data }, { on := 12, ground := Ground.chain }, { on := 11, ground := Ground.guard }], guard := some (11, true) }) rfl (fun K hK => ?_) AllReadyH.nil)
  go_simp
  refine (CH1.out _).mono ?_
  rintro e wc13 ⟨rfl, hb13⟩
  replace HBc := hidk (HBc.out.trans (hb13.mono HBc.out.size))
  go_wp2_with fail
  refine hK.out _ _ ((hb13.block _ (heap_lt hHeld)).trans hHeld) (fun hHeld => ?_)
  clear hK K
  try simp only [Act.put, List.setIfInBounds_toArray, List.set_cons_zero, List.set_cons_succ]
  refine wpAnyH_take (i := 14) (oi := { dst := some 50, op := Op.binOp BinOp.eql 29 (Operand.tmp 49) (Operand.const (Value.int IntKind.i64 0)) 29, type := 4, pos := "law.go:25", after := #[{ on := 13, ground := Ground.data }, { on := 11, ground := Ground.guard }], guard := some (11, true) }) (v := .bool true) rfl (by kernel_rfl) (by kernel_rfl) (by kernel_rfl) (fun _ _ _ h => h) (Or.inl ⟨by rfl, by intro W hSw; go_simp⟩) hHeld ?_
  try simp only [Act.put, List.setIfInBounds_toArray, List.set_cons_zero, List.set_cons_succ]
  refine wpAnyH_take (i := 15) (oi := { dst := some 51, op := Op.pick (Operand.tmp 47) (Operand.tmp 50) (Operand.const (Value.bool false)), type := 4, pos := "law.go:25", after := #[{ on := 11, ground := Ground.data }, { on := 14, ground := Ground.data }], guard := none }) (v := .bool true) rfl (by kernel_rfl) (by kernel_rfl) (by kernel_rfl) (fun _ _ _ h => h) (Or.inl ⟨by rfl, by intro W hSw; go_simp⟩) hHeld ?_
  try simp only [Act.put, List.setIfInBounds_toArray, List.set_cons_zero, List.set_cons_succ]
  refine wpAnyH_take (i := 16) (oi := { dst := some 52, op := Op.move (Operand.tmp 51), type := 4, pos := "law.go:25", after := #[{ on := 15, ground := Ground.data }, { on := 13, ground := Ground.chain }], guard := none }) (v := .bool true) rfl (by kernel_rfl) (by kernel_rfl) (by kernel_rfl) (fun _ _ _ h => h) (Or.inl ⟨by rfl, by intro W hSw; go_simp⟩) hHeld ?_
  try simp only [Act.put, List.setIfInBounds_toArray, List.set_cons_zero, List.set_cons_succ]
  refine wpAnyH_take (i := 17) (oi := { dst := some 53, op := Op.build 26 #[], type := 26, pos := "law.go:25", after := #[{ on := 16, ground := Ground.guard }], guard := some (16, true) }) (v := .agg Z) rfl (by kernel_rfl) (by kernel_rfl) (by kernel_rfl) (fun _ _ _ h => h) (yieldsIf_build (by rfl) 26 #[] rfl #[] rfl (.agg Z) BZ.out) hHeld ?_
  try simp only [Act.put, List.setIfInBounds_toArray, List.set_cons_zero, List.set_cons_succ]
  refine wpAnyH_ready (rs := [18]) (by kernel_rfl) (by simp) ?_
  refine (AllReadyH.cons (o := { dst := some 54, op := Op.call { callee := Callee.value (Operand.func 38), args := #[Operand.tmp 53], argTypes := #[26] }, type := 29, pos := "law.go:25", after := #[{ on := 17, ground := Ground.data }, { on := 16, ground := Ground.chain }, { on := 16, ground := Ground.guard }], guard := some (16, true) }) rfl (fun K hK => ?_) AllReadyH.nil)
  go_simp
  refine (CH0.out _).mono ?_
  rintro e wc18 ⟨rfl, hb18⟩
  replace HBc := hidk (HBc.out.trans (hb18.mono HBc.out.size))
  go_wp2_with fail
  refine hK.out _ _ ((hb18.block _ (heap_lt hHeld)).trans hHeld) (fun hHeld => ?_)
  clear hK K
  try simp only [Act.put, List.setIfInBounds_toArray, List.set_cons_zero, List.set_cons_succ]
  refine wpAnyH_take (i := 19) (oi := { dst := some 55, op := Op.binOp BinOp.eql 29 (Operand.tmp 54) (Operand.const (Value.int IntKind.i64 70)) 29, type := 4, pos := "law.go:25", after := #[{ on := 18, ground := Ground.data }, { on := 16, ground := Ground.guard }], guard := some (16, true) }) (v := .bool true) rfl (by kernel_rfl) (by kernel_rfl) (by kernel_rfl) (fun _ _ _ h => h) (Or.inl ⟨by rfl, by intro W hSw; go_simp⟩) hHeld ?_
  try simp only [Act.put, List.setIfInBounds_toArray, List.set_cons_zero, List.set_cons_succ]
  refine wpAnyH_take (i := 20) (oi := { dst := some 56, op := Op.pick (Operand.tmp 52) (Operand.tmp 55) (Operand.const (Value.bool false)), type := 4, pos := "law.go:25", after := #[{ on := 16, ground := Ground.data }, { on := 19, ground := Ground.data }], guard := none }) (v := .bool true) rfl (by kernel_rfl) (by kernel_rfl) (by kernel_rfl) (fun _ _ _ h => h) (Or.inl ⟨by rfl, by intro W hSw; go_simp⟩) hHeld ?_
  try simp only [Act.put, List.setIfInBounds_toArray, List.set_cons_zero, List.set_cons_succ]
  refine wpAnyH_take (i := 21) (oi := { dst := some 0, op := Op.assign (Operand.tmp 56), type := 4, pos := "law.go:25", after := #[{ on := 20, ground := Ground.data }, { on := 18, ground := Ground.chain }, { on := 0, ground := Ground.phase }, { on := 1, ground := Ground.phase }, { on := 2, ground := Ground.phase }, { on := 3, ground := Ground.phase }, { on := 4, ground := Ground.phase }, { on := 5, ground := Ground.phase }, { on := 6, ground := Ground.phase }, { on := 7, ground := Ground.phase }, { on := 8, ground := Ground.phase }, { on := 9, ground := Ground.phase }, { on := 10, ground := Ground.phase }, { on := 11, ground := Ground.phase }, { on := 12, ground := Ground.phase }, { on := 13, ground := Ground.phase }, { on := 14, ground := Ground.phase }, { on := 15, ground := Ground.phase }, { on := 16, ground := Ground.phase }, { on := 17, ground := Ground.phase }, { on := 18, ground := Ground.phase }, { on := 19, ground := Ground.phase }, { on := 20, ground := Ground.phase }], guard := none }) (v := .bool true) rfl (by kernel_rfl) (by kernel_rfl) (by kernel_rfl) (fun _ _ _ h => h) (Or.inl ⟨by rfl, by intro W hSw; go_simp⟩) hHeld ?_
  try simp only [Act.put, List.setIfInBounds_toArray, List.set_cons_zero, List.set_cons_succ]
  refine wpAnyH_done (by kernel_rfl) ?_ _
  go_wp2_with fail
  go_ret
  exact ⟨rfl, HBc.out⟩
end Go.Proofs.YtdnhnjimhbbabaaDoor

/- What HeadLays says of any input, over what the calls of package head answer. -/
namespace Go.Proofs.YtdnhnjimhbbabaaDoor
open Go.RowKit Sums Nums
set_option linter.unusedVariables false
set_option linter.unusedSimpArgs false
set_option maxRecDepth 100000

end Go.Proofs.YtdnhnjimhbbabaaDoor

/- What HeadReads says of any bytes, over what the calls of package head answer. -/
namespace Go.Proofs.YtdnhnjimhbbabaaDoor
open Go.RowKit Sums Nums
set_option linter.unusedVariables false
set_option linter.unusedSimpArgs false
set_option maxRecDepth 100000
theorem eq_same (W : World) (s : ByteArray) : (binOp .eql 9 (.string s) (.string s)).run Tryd.prog W = .ok (.bool true) W := by simp [go_sem]
theorem reads_lent {w : World} {B g len c : Nat} {l : List UInt8} (h : w.ownsRow B 5 1 (.slice (some ⟨g, 0, none⟩) (len + 7) c) (len + 7) (cellsOf (l ++ marks 7))) (hl : l.length = len) :
    Reads w (some ⟨g, 0, none⟩) (len + 7) c (l ++ marks 7) := by
  have hlen : (l ++ marks 7).length = len + 7 := by simp [marks]; omega
  obtain ⟨a, cap, e, hr⟩ := reads_own (l := l ++ marks 7) (by rw [hlen]; exact h)
  rw [hlen] at e hr
  cases e
  exact hr
theorem getHE_zero {bs : List UInt8} (h : getHE bs = 0) : putB (getHO bs) = bs := by
  unfold getHE at h
  unfold getHO
  cases hg : getO bs with
  | none => rw [hg] at h; simp at h
  | some x =>
    obtain ⟨h1, _, h3⟩ := getO_some hg
    show putB x = bs
    unfold putB
    rw [if_pos h1, h3]
theorem getSE_zero {bs : List UInt8} (h : getSE bs = 0) : putSB (getSO bs) = bs := by
  unfold getSE at h
  unfold getSO
  cases hg : Go.Proofs.YtdnhnjimhbbabaaDoor.getS bs with
  | none => rw [hg] at h; simp at h
  | some x =>
    obtain ⟨h1, _, _, h3⟩ := getS_some hg
    show putSB x = bs
    unfold putSB
    rw [if_pos h1, h3]
theorem getHE_vals (bs : List UInt8) : getHE bs = 0 ∨ getHE bs = 70 := by
  unfold getHE
  cases getO bs <;> simp
theorem getSE_vals (bs : List UInt8) : getSE bs = 0 ∨ getSE bs = 70 := by
  unfold getSE
  cases Go.Proofs.YtdnhnjimhbbabaaDoor.getS bs <;> simp
/-- Bytes lent and bytes that came in, and two heads and two signed heads read of them. -/
structure Lies4 (w : World) (a0 : Option Addr) (len0 cap0 g c : Nat) (bs : List UInt8) (W : World) : Prop where
  below : Below w.heap.size w W
  came : Reads W a0 len0 cap0 bs
  lent : Reads W (some ⟨g, 0, none⟩) (len0 + 7) c (bs ++ marks 7)
theorem Lies4.keep {w W W' : World} {a0 : Option Addr} {len0 cap0 g c : Nat} {bs : List UInt8} (h : Lies4 w a0 len0 cap0 g c bs W) (hb : Below W.heap.size W W') : Lies4 w a0 len0 cap0 g c bs W' :=
  ⟨h.below.trans (hb.mono h.below.size), h.came.below hb, h.lent.below hb⟩
theorem Lies4.front {w W : World} {a0 : Option Addr} {len0 cap0 g c : Nat} {bs : List UInt8} (h : Lies4 w a0 len0 cap0 g c bs W) : Reads W (some ⟨g, 0, none⟩) len0 c bs := reads_front h.lent h.came.1
set_option maxHeartbeats 16000000 in
theorem headReads_of (ck : HeadC) (a0 : Option Addr) (len0 cap0 : Nat) (bs : List UInt8) (w : World) (w0 : Reads w a0 len0 cap0 bs) (hT : TabH w) :
    Calls Tryd.prog 5 #[.slice a0 len0 cap0] w fun e w' => e = .returned (.bool true) ∧ Below w.heap.size w w' := by
  have hmax : len0 ≤ 9223372036854775807 := Nat.le_trans w0.2.1 w0.2.2.1
  by_cases hlen : 16384 < len0
  · have d0 : decide (16384 < (len0 : Int)) = true := by rw [decide_eq_true_eq]; omega
    have d0' : decide (16384 < len0) = true := by rw [decide_eq_true_eq]; omega
    clear hlen
    go_enter Tryd.func5, Tryd.ntmps5
    go_wp2
    go_ret
    exact ⟨rfl, Below.refl _ _⟩
  have d0 : decide (16384 < (len0 : Int)) = false := by rw [decide_eq_false_iff_not]; omega
  have d0' : decide (16384 < len0) = false := by rw [decide_eq_false_iff_not]; omega
  have hle : len0 ≤ 16384 := by omega
  obtain ⟨Z, HZ, HA, HBZ, H36⟩ := noughtsH
  obtain ⟨Y, HY, HAY, HBY, H69⟩ := noughtsS
  have hin := getHO_in bs
  have hinS := getSO_in bs
  obtain ⟨R, HR⟩ : ∃ R : Array Value, Hid (R = (hcells (getHO bs)).toArray) := ⟨_, (rfl : _ = _)⟩
  obtain ⟨X, HX⟩ : ∃ X : Array Value, Hid (X = (scells (getSO bs)).toArray) := ⟨_, (rfl : _ = _)⟩
  have HSR : Hid ((Tryd.prog.info? 26).map (·.size) = some R.size) := by show _ = _; rw [sizeH, HR.out]; simp [hcells_length _ hin.d]
  have HSX : Hid ((Tryd.prog.info? 28).map (·.size) = some X.size) := by show _ = _; rw [sizeS, HX.out]; simp [scells_length _ hinS.h.d hinS.g]
  have H1R : Hid (R.all (·.oneCell') = true) := by show _ = _; rw [HR.out]; exact one_cells _
  have H1X : Hid (X.all (·.oneCell') = true) := by show _ = _; rw [HX.out]; exact one_cellsS _
  have HZR : Hid (Z.size = R.size) := by show _ = _; rw [H36.out, HR.out]; simp [hcells_length _ hin.d]
  have HYX : Hid (Y.size = X.size) := by show _ = _; rw [H69.out, HX.out]; simp [scells_length _ hinS.h.d hinS.g]
  obtain ⟨E, hE⟩ : ∃ E, E = getHE bs := ⟨_, rfl⟩
  obtain ⟨G, hG⟩ : ∃ G, G = getSE bs := ⟨_, rfl⟩
  have hE0 : E = 0 ∨ E = 70 := by rw [hE]; exact getHE_vals bs
  have hG0 : G = 0 ∨ G = 70 := by rw [hG]; exact getSE_vals bs
  obtain ⟨L1, hL1⟩ : ∃ L, L = putB (getHO bs) := ⟨_, rfl⟩
  obtain ⟨L2, hL2⟩ : ∃ L, L = putSB (getSO bs) := ⟨_, rfl⟩
  have l1 : E = 0 → L1 = bs := fun h => by rw [hL1]; exact getHE_zero (hE ▸ h)
  have l2 : G = 0 → L2 = bs := fun h => by rw [hL2]; exact getSE_zero (hG ▸ h)
  obtain ⟨n1, hn1⟩ : ∃ n, n = L1.length := ⟨_, rfl⟩
  obtain ⟨n2, hn2⟩ : ∃ n, n = L2.length := ⟨_, rfl⟩
  obtain ⟨F, hF⟩ : ∃ F, F = putE (getHO bs) := ⟨_, rfl⟩
  obtain ⟨K, hK⟩ : ∃ F, F = putSE (getSO bs) := ⟨_, rfl⟩
  have GH : Hid (∀ W a cap, Reads W a len0 cap bs → Calls Tryd.prog 18 #[.slice a len0 cap] W fun e w' => e = .returned (.tuple #[.agg R, .int .i64 E]) ∧ Below W.heap.size W w') := fun W a cap h => by rw [hE]; exact ck.get a len0 cap bs W h (by omega) R HR
  have GR : Hid (∀ W a cap, Reads W a len0 cap bs → Calls Tryd.prog 19 #[.slice a len0 cap] W fun e w' => e = .returned (.tuple #[.agg R, .int .i64 E]) ∧ Below W.heap.size W w') := fun W a cap h => by rw [hE]; exact refGet7_any a len0 cap bs W h (by omega) R HR
  have SH : Hid (∀ W a cap, Reads W a len0 cap bs → Calls Tryd.prog 16 #[.slice a len0 cap] W fun e w' => e = .returned (.tuple #[.agg X, .int .i64 G]) ∧ Below W.heap.size W w') := fun W a cap h => by rw [hG]; exact ck.getS a len0 cap bs W h (by omega) X HX
  have SR : Hid (∀ W a cap, Reads W a len0 cap bs → Calls Tryd.prog 20 #[.slice a len0 cap] W fun e w' => e = .returned (.tuple #[.agg X, .int .i64 G]) ∧ Below W.heap.size W w') := fun W a cap h => by rw [hG]; exact refGetS_any a len0 cap bs W h (by omega) X HX
  have PH : Hid (∀ W, Calls Tryd.prog 22 #[.agg R] W fun e w' => (∃ a cap, e = .returned (.tuple #[.slice a n1 cap, .int .i64 F]) ∧ Reads w' a n1 cap L1) ∧ Below W.heap.size W w') := fun W => by rw [hF, hn1, hL1]; exact ck.put _ hin W R HR
  have PS : Hid (∀ W, Calls Tryd.prog 13 #[.agg X] W fun e w' => (∃ a cap, e = .returned (.tuple #[.slice a n2 cap, .int .i64 K]) ∧ Reads w' a n2 cap L2) ∧ Below W.heap.size W w') := fun W => by rw [hK, hn2, hL2]; exact ck.putS _ hinS W X HX
  have LY : Hid (∀ W, Calls Tryd.prog 15 #[] W fun e w' => e = .returned (.bool true) ∧ Below W.heap.size W w') := fun W => lays_true ck W
  have SI : Hid (∀ W, Below w.heap.size w W → Calls Tryd.prog 10 #[] W fun e w' => e = .returned (.bool true) ∧ Below W.heap.size W w') := fun W hb => signs_true ck W (hT.keep hb)
  have LE : Hid (∀ W, Reads W a0 len0 cap0 bs → Calls Tryd.prog 17 #[.slice a0 len0 cap0] W fun e w' => ∃ g c, e = .returned (.slice (some ⟨g, 0, none⟩) len0 c) ∧ Reads w' (some ⟨g, 0, none⟩) (len0 + 7) c (bs ++ marks 7) ∧ Below W.heap.size W w') := fun W h => (lent_any _ _ _ bs _ h (by omega)).mono (by
    rintro e w1 ⟨g, c, rfl, hg, hc7, hcm2, hown, hb1⟩
    exact ⟨g, c, rfl, reads_lent hown h.1, hb1⟩)
  have KE : Hid (∀ W g c, Reads W (some ⟨g, 0, none⟩) (len0 + 7) c (bs ++ marks 7) → Reads W a0 len0 cap0 bs → Calls Tryd.prog 21 #[.slice (some ⟨g, 0, none⟩) len0 c, .slice a0 len0 cap0] W fun e w' => e = .returned (.bool true) ∧ W = w') := fun W g c h1 h2 => kept_any g c _ _ _ bs _ h1 h2 (by omega)
  have NQH : ∀ W, (binOp .neq 26 (.agg R) (.agg R)).run Tryd.prog W = .ok (.bool false) W := fun W => neqHead _ _ hin.d hin.d R R HR HR false (by simp) W
  have NQS : ∀ W, (binOp .neq 28 (.agg X) (.agg X)).run Tryd.prog W = .ok (.bool false) W := fun W => neqSigned _ _ hinS.h.d hinS.h.d hinS.g hinS.g X X HX HX false (by simp) W
  obtain ⟨T0, HT0⟩ : ∃ T : ByteArray, Hid (T = ⟨bs.toArray⟩) := ⟨_, hidk rfl⟩
  have CV : Hid (∀ W a len cap, Reads W a len cap bs → (convert 35 9 (.slice a len cap)).run Tryd.prog W = .ok (.string T0) W) := fun W a len cap h => by rw [HT0.out]; exact conv_reads h
  have EQ9 : ∀ W, (binOp .eql 9 (.string T0) (.string T0)).run Tryd.prog W = .ok (.bool true) W := fun W => eq_same W T0
  have HW0 := hidk w0
  clear hT HR HX hin hinS hE hG hL1 hL2 hn1 hn2 hF hK HZ HBZ H36 HY HBY H69 HT0 w0 hlen
  go_enter Tryd.func5, Tryd.ntmps5
  go_wp2_with fail
  refine (LE.out _ HW0.out).mono ?_
  rintro e w1 ⟨g, c, rfl, hr1, hb1⟩
  have HB1 : Hid (Lies4 w a0 len0 cap0 g c bs w1) := ⟨hb1, HW0.out.below hb1, hr1⟩
  clear hr1 hb1 HW0 LE
  go_wp2_with fail
  refine (GH.out _ _ _ HB1.out.front).mono ?_
  rintro e w2 ⟨rfl, hb2⟩
  have HB2 := hidk (HB1.out.keep hb2)
  clear hb2 HB1 GH
  go_wp2_with (first
    | (show wpList _ _ _ ({ dst := some 4, op := _, type := _, pos := _, after := _, guard := _ } :: _) _ _; refine wpList_new_var rfl 26 rfl Z HA.out ?_; intro g4 w3 HM4; try simp only [Act.put, List.setIfInBounds_toArray, List.set_cons_zero, List.set_cons_succ])
    | (refine wpList_set_var rfl 26 (.tmp 4) (.tmp 24) rfl g4 R rfl rfl 26 Z HM4.out.row HSR.out HZR.out H1R.out ?_; intro w4 HW4; try simp only [Act.put, List.setIfInBounds_toArray, List.set_cons_zero, List.set_cons_succ])
    | fail)
  have HX4 := hidk (HW4.out.below w2.heap.size w2 HM4.out.below (Nat.le_of_eq HM4.out.new.symm))
  have HB4 := hidk (HB2.out.keep HX4.out)
  have HR44 := hidk HW4.out.row
  clear HM4 HW4 HX4 HB2
  refine (GR.out _ _ _ HB4.out.came).mono ?_
  rintro e w5 ⟨rfl, hb5⟩
  have HB5 := hidk (HB4.out.keep hb5)
  have HR45 := hidk ((hb5.block _ (heap_lt HR44.out)).trans HR44.out)
  clear hb5 HB4 HR44 GR
  go_wp2_with (first
    | (show wpList _ _ _ ({ dst := some 6, op := _, type := _, pos := _, after := _, guard := _ } :: _) _ _; refine wpList_new_var rfl 26 rfl Z HA.out ?_; intro g6 w6 HM6; try simp only [Act.put, List.setIfInBounds_toArray, List.set_cons_zero, List.set_cons_succ])
    | (refine wpList_set_var rfl 26 (.tmp 6) (.tmp 29) rfl g6 R rfl rfl 26 Z HM6.out.row HSR.out HZR.out H1R.out ?_; intro w7 HW6; try simp only [Act.put, List.setIfInBounds_toArray, List.set_cons_zero, List.set_cons_succ])
    | fail)
  have HX7 := hidk (HW6.out.below w5.heap.size w5 HM6.out.below (Nat.le_of_eq HM6.out.new.symm))
  have HB7 := hidk (HB5.out.keep HX7.out)
  have HR47 := hidk ((HX7.out.block _ (heap_lt HR45.out)).trans HR45.out)
  have HR67 := hidk HW6.out.row
  clear HM6 HW6 HX7 HB5 HR45
  refine (SH.out _ _ _ HB7.out.front).mono ?_
  rintro e w8 ⟨rfl, hb8⟩
  have HB8 := hidk (HB7.out.keep hb8)
  have HR48 := hidk ((hb8.block _ (heap_lt HR47.out)).trans HR47.out)
  have HR68 := hidk ((hb8.block _ (heap_lt HR67.out)).trans HR67.out)
  clear hb8 HB7 HR47 HR67 SH
  go_wp2_with (first
    | (show wpList _ _ _ ({ dst := some 8, op := _, type := _, pos := _, after := _, guard := _ } :: _) _ _; refine wpList_new_var rfl 28 rfl Y HAY.out ?_; intro g8 w9 HM8; try simp only [Act.put, List.setIfInBounds_toArray, List.set_cons_zero, List.set_cons_succ])
    | (refine wpList_set_var rfl 28 (.tmp 8) (.tmp 34) rfl g8 X rfl rfl 28 Y HM8.out.row HSX.out HYX.out H1X.out ?_; intro wa HW8; try simp only [Act.put, List.setIfInBounds_toArray, List.set_cons_zero, List.set_cons_succ])
    | fail)
  have HXa := hidk (HW8.out.below w8.heap.size w8 HM8.out.below (Nat.le_of_eq HM8.out.new.symm))
  have HBa := hidk (HB8.out.keep HXa.out)
  have HR4a := hidk ((HXa.out.block _ (heap_lt HR48.out)).trans HR48.out)
  have HR6a := hidk ((HXa.out.block _ (heap_lt HR68.out)).trans HR68.out)
  have HR8a := hidk HW8.out.row
  clear HM8 HW8 HXa HB8 HR48 HR68
  refine (SR.out _ _ _ HBa.out.came).mono ?_
  rintro e wb ⟨rfl, hbb⟩
  have HBb := hidk (HBa.out.keep hbb)
  have HR4b := hidk ((hbb.block _ (heap_lt HR4a.out)).trans HR4a.out)
  have HR6b := hidk ((hbb.block _ (heap_lt HR6a.out)).trans HR6a.out)
  have HR8b := hidk ((hbb.block _ (heap_lt HR8a.out)).trans HR8a.out)
  clear hbb HBa HR4a HR6a HR8a SR
  go_wp2_with (first
    | (show wpList _ _ _ ({ dst := some 10, op := _, type := _, pos := _, after := _, guard := _ } :: _) _ _; refine wpList_new_var rfl 28 rfl Y HAY.out ?_; intro g10 wc HM10; try simp only [Act.put, List.setIfInBounds_toArray, List.set_cons_zero, List.set_cons_succ])
    | (refine wpList_set_var rfl 28 (.tmp 10) (.tmp 39) rfl g10 X rfl rfl 28 Y HM10.out.row HSX.out HYX.out H1X.out ?_; intro wd HW10; have HXd := hidk (HW10.out.below wb.heap.size wb HM10.out.below (Nat.le_of_eq HM10.out.new.symm)); have HBd := hidk (HBb.out.keep HXd.out); have HR4d := hidk ((HXd.out.block _ (heap_lt HR4b.out)).trans HR4b.out); have HR6d := hidk ((HXd.out.block _ (heap_lt HR6b.out)).trans HR6b.out); have HR8d := hidk ((HXd.out.block _ (heap_lt HR8b.out)).trans HR8b.out); have HR10d := hidk HW10.out.row; clear HM10 HW10 HXd HBb HR4b HR6b HR8b; try simp only [Act.put, List.setIfInBounds_toArray, List.set_cons_zero, List.set_cons_succ])
    | (show wpList _ _ _ ({ dst := some 41, op := _, type := _, pos := _, after := _, guard := _ } :: _) _ _; refine wpList_load_row rfl 26 (.tmp 4) rfl g4 rfl 26 R (0, 0) _ HR4d.out Tryd.underlying26 rfl HSR.out ?_; try simp only [Act.put, List.setIfInBounds_toArray, List.set_cons_zero, List.set_cons_succ])
    | (show wpList _ _ _ ({ dst := some 42, op := _, type := _, pos := _, after := _, guard := _ } :: _) _ _; refine wpList_load_row rfl 26 (.tmp 6) rfl g6 rfl 26 R (0, 0) _ HR6d.out Tryd.underlying26 rfl HSR.out ?_; try simp only [Act.put, List.setIfInBounds_toArray, List.set_cons_zero, List.set_cons_succ])
    | (show wpList _ _ _ ({ dst := some 50, op := _, type := _, pos := _, after := _, guard := _ } :: _) _ _; refine wpList_load_row_w (by rfl) 28 (.tmp 8) rfl g8 rfl 28 X (0, 0) _ HR8d.out Tryd.underlying28 rfl HSX.out ?_; try simp only [Act.put, List.setIfInBounds_toArray, List.set_cons_zero, List.set_cons_succ])
    | (show wpList _ _ _ ({ dst := some 51, op := _, type := _, pos := _, after := _, guard := _ } :: _) _ _; refine wpList_load_row_w (by rfl) 28 (.tmp 10) rfl g10 rfl 28 X (0, 0) _ HR10d.out Tryd.underlying28 rfl HSX.out ?_; try simp only [Act.put, List.setIfInBounds_toArray, List.set_cons_zero, List.set_cons_succ])
    | fail)
  refine (KE.out _ _ _ HBd.out.lent HBd.out.came).mono ?_
  rintro e _ ⟨rfl, rfl⟩
  clear KE NQH NQS HR6d HR10d
  go_wp2_with (first
    | (show wpList _ _ _ ({ dst := some 66, op := _, type := _, pos := _, after := _, guard := _ } :: _) _ _; refine wpList_load_row rfl 26 (.tmp 4) rfl g4 rfl 26 R (0, 0) _ HR4d.out Tryd.underlying26 rfl HSR.out ?_; try simp only [Act.put, List.setIfInBounds_toArray, List.set_cons_zero, List.set_cons_succ])
    | fail)
  refine (PH.out _).mono ?_
  rintro e we ⟨⟨a1, cap1, rfl, hQ1⟩, hbe⟩
  have HQ1 := hidk hQ1
  have HBe := hidk (HBd.out.keep hbe)
  have HR8e := hidk ((hbe.block _ (heap_lt HR8d.out)).trans HR8d.out)
  clear hQ1 hbe HBd HR4d HR8d PH
  go_wp2_with (first
    | (show wpList _ _ _ ({ dst := some 71, op := _, type := _, pos := _, after := _, guard := _ } :: _) _ _; refine wpList_load_row rfl 28 (.tmp 8) rfl g8 rfl 28 X (0, 0) _ HR8e.out Tryd.underlying28 rfl HSX.out ?_; try simp only [Act.put, List.setIfInBounds_toArray, List.set_cons_zero, List.set_cons_succ])
    | fail)
  refine (PS.out _).mono ?_
  rintro e wf ⟨⟨a2, cap2, rfl, hQ2⟩, hbf⟩
  have HQ1f := hidk (HQ1.out.below hbf)
  have HQ2 := hidk hQ2
  have HBf := hidk (HBe.out.keep hbf)
  clear hQ2 hbf HBe HR8e PS HQ1
  go_wp2_with fail
  refine (LY.out _).mono ?_
  rintro e wg ⟨rfl, hbg⟩
  have HQ1g := hidk (HQ1f.out.below hbg)
  have HQ2g := hidk (HQ2.out.below hbg)
  have HBg := hidk (HBf.out.keep hbg)
  clear hbg HBf HQ1f HQ2 LY
  go_wp2_with fail
  refine (SI.out _ HBg.out.below).mono ?_
  rintro e wh ⟨rfl, hbh⟩
  have HQ1h := hidk (HQ1g.out.below hbh)
  have HQ2h := hidk (HQ2g.out.below hbh)
  have HBh := hidk (HBg.out.keep hbh)
  have c0 := CV.out wh a0 len0 cap0 HBh.out.came
  clear hbh HBg HQ1g HQ2g SI
  rcases hE0 with rfl | rfl
  · rw [l1 rfl] at HQ1h
    have c1 := CV.out wh a1 n1 cap1 HQ1h.out
    rcases hG0 with rfl | rfl
    · rw [l2 rfl] at HQ2h
      have c2 := CV.out wh a2 n2 cap2 HQ2h.out
      clear l1 l2 CV HQ1h HQ2h
      go_wp2_with fail
      go_ret
      exact ⟨rfl, HBh.out.below⟩
    · clear l1 l2 CV HQ1h HQ2h
      go_wp2_with fail
      go_ret
      exact ⟨rfl, HBh.out.below⟩
  · rcases hG0 with rfl | rfl
    · rw [l2 rfl] at HQ2h
      have c2 := CV.out wh a2 n2 cap2 HQ2h.out
      clear l1 l2 CV HQ1h HQ2h
      go_wp2_with fail
      go_ret
      exact ⟨rfl, HBh.out.below⟩
    · clear l1 l2 CV HQ1h HQ2h
      go_wp2_with fail
      go_ret
      exact ⟨rfl, HBh.out.below⟩
theorem headReads_in (ck : HeadC) (a0 : Option Addr) (len0 cap0 : Nat) (z0 : List UInt8) (w : World) (w0 : Reads w a0 len0 cap0 z0) (hT : TabH w) :
    Calls Tryd.prog 5 #[.slice a0 len0 cap0] w fun e w' => e = .returned (.bool true) ∧ Below w.heap.size w w' :=
  headReads_of ck a0 len0 cap0 z0 w w0 hT
end Go.Proofs.YtdnhnjimhbbabaaDoor

/- What HeadTurned says of any input, over what the calls of package head answer. -/
namespace Go.Proofs.YtdnhnjimhbbabaaDoor
open Go.RowKit Sums Nums
set_option linter.unusedVariables false
set_option linter.unusedSimpArgs false
set_option maxRecDepth 100000
/-- A row stored in the midst of a variable. -/
theorem wpList_set_mid {P : Program} {ops : Array Oper} {rest : List Oper} {o : Oper} {a : Act} {w : World} {Q : Exit → Act → World → Prop} (hgd : o.guard = none) (ty : TypeId) (x y : Operand) (ho : o.op = .store ty x y)
    (g k : Nat) (D : Array Value) (hx : a.eval x = .pointer (some ⟨g, k, none⟩)) (hy : a.eval y = .agg D) (t' : TypeId) (Z : Array Value) (hg : w.heap[g]? = some (.cells Z t' (0, 0))) (hk : k + D.size ≤ Z.size) (hi : (P.info? ty).map (·.size) = some D.size) (h1 : D.all (·.oneCell') = true)
    (h : ∀ w', Hid (Wrote g (Z.toList.take k ++ D.toList ++ Z.toList.drop (k + D.size)).toArray t' w w') → wpList P ops Q rest (a.put o.dst undef) w') : wpList P ops Q (o :: rest) a w := by
  refine wpList_plain hgd fun K hK => ?_
  have hkk := hK _ _ (h _ (wrote_row hg))
  have h1' : ∀ v ∈ D.toList, v.oneCell' = true := by
    intro v hv
    rw [Array.all_eq_true'] at h1
    exact h1 v (by simpa using hv)
  have hst := run_storeCells_at P g k t' D.toList 0 Z w hg (by simpa using hk) h1'
  cases hq : P.info? ty with
  | none => simp [hq] at hi
  | some i =>
    have hs : i.size = D.size := by simpa [hq] using hi
    unfold Oper.wp execOp
    simp only [ho, hx, hy, Instr.storeAt, Instr.sureAddr, Sem.run_bind, Sem.run_pure, Result.andThen_ok]
    simp only [Nat.add_zero, Nat.zero_add] at hst
    simp [storeVar, sizeOf, typeInfo, hq, Value.cells, hs, hst]
    simp only [List.append_assoc] at hkk ⊢
    exact hkk
/-- A key and two heads that came in. -/
def CameT (w W : World) (M C X : Array Value) : Prop := Below w.heap.size w W ∧ W.heap[w.heap.size]? = some (.cells M 23 (0, 0)) ∧ W.heap[w.heap.size + 1]? = some (.cells C 26 (0, 0)) ∧ W.heap[w.heap.size + 2]? = some (.cells X 26 (0, 0))
theorem CameT.keep {w W W' : World} {M C X : Array Value} (h : CameT w W M C X) (hb : Below W.heap.size W W') : CameT w W' M C X :=
  ⟨h.1.trans (hb.mono h.1.size), (hb.block _ (heap_lt h.2.1)).trans h.2.1, (hb.block _ (heap_lt h.2.2.1)).trans h.2.2.1, (hb.block _ (heap_lt h.2.2.2)).trans h.2.2.2⟩
end Go.Proofs.YtdnhnjimhbbabaaDoor

/- What a reader's own calls answer: what is left of a row, field by field. -/
namespace Go.Proofs.YtdnhnjimhbbabaaDoor
open Go.RowKit Sums Nums
set_option linter.unusedVariables false
set_option linter.unusedSimpArgs false
set_option maxRecDepth 100000
theorem grownBy_set0 (W : World) (b : Nat) (v : Value) : W.grownBy (W.setCell ⟨b, 0, none⟩ v) (some b) :=
  ⟨rfl, rfl, rfl, by simp [World.setCell], fun k _ hk => Below.heap_setCell W ⟨b, 0, none⟩ v k (fun e => hk (by rw [e]))⟩
/-- The fields that are left of a row, by a reader's variable g; they lie in a block from lo on, below g. -/
def Rd (W : World) (lo g : Nat) (fs : List (Int × ByteArray)) : Prop :=
  ∃ a cap, W.heap[g]? = some (.cells #[.slice a fs.length cap] 65 (0, 0)) ∧ lo ≤ g ∧ fs.length ≤ cap ∧ cap ≤ 9223372036854775807 ∧ (∀ f ∈ fs, f.2.size ≤ maxLen) ∧
    (fs = [] ∨ ∃ b off, a = some ⟨b, off, none⟩ ∧ lo ≤ b ∧ b < g ∧ ∀ (i : Nat) (h : i < fs.length), W.cell? ⟨b, off + i * 2, none⟩ = some (.int .i64 fs[i].1) ∧ W.cell? ⟨b, off + i * 2 + 1, none⟩ = some (.string fs[i].2))
theorem Rd.keep {W W' : World} {lo g : Nat} {fs : List (Int × ByteArray)} (h : Rd W lo g fs) (hb : ∀ k, lo ≤ k → k ≤ g → W'.heap[k]? = W.heap[k]?) : Rd W' lo g fs := by
  obtain ⟨a, cap, h1, h2, h3, h4, h5, h6⟩ := h
  refine ⟨a, cap, (hb g h2 (Nat.le_refl _)).trans h1, h2, h3, h4, h5, ?_⟩
  rcases h6 with h6 | ⟨b, off, e, hl, hg, hc⟩
  · exact .inl h6
  · have hk := hb b hl (by omega)
    exact .inr ⟨b, off, e, hl, hg, fun i hi => ⟨(World.cell?_of_block (a := ⟨b, off + i * 2, none⟩) hk).trans (hc i hi).1, (World.cell?_of_block (a := ⟨b, off + i * 2 + 1, none⟩) hk).trans (hc i hi).2⟩⟩
theorem Rd.lt {W : World} {lo g : Nat} {fs : List (Int × ByteArray)} (h : Rd W lo g fs) : g < W.heap.size := by
  obtain ⟨a, cap, h1, _⟩ := h
  exact heap_lt h1
theorem Rd.below {W W' : World} {lo g : Nat} {fs : List (Int × ByteArray)} (h : Rd W lo g fs) (hb : Below W.heap.size W W') : Rd W' lo g fs :=
  h.keep fun k _ hk => hb.block k (Nat.lt_of_le_of_lt hk h.lt)
theorem Rd.wrote {W W' : World} {lo g k : Nat} {D : Array Value} {t : TypeId} {fs : List (Int × ByteArray)} (h : Rd W lo g fs) (hw : Wrote k D t W W') (hk : k < lo ∨ g < k) : Rd W' lo g fs :=
  h.keep fun i hi hg => hw.other i (by omega)
def tkD (tag : Int) (fs : List (Int × ByteArray)) : ByteArray := match fs with
  | f :: _ => if f.1 = tag then f.2 else ⟨#[]⟩
  | [] => ⟨#[]⟩
def tkB (tag : Int) (fs : List (Int × ByteArray)) : Bool := match fs with
  | f :: _ => decide (f.1 = tag)
  | [] => false
def tkR (tag : Int) (fs : List (Int × ByteArray)) : List (Int × ByteArray) := match fs with
  | f :: r => if f.1 = tag then r else f :: r
  | [] => []
theorem ended_any (W : World) (lo g : Nat) (fs : List (Int × ByteArray)) (h : Rd W lo g fs) (x : Bool) (hx : x = decide (fs.length = 0)) :
    Calls Tryd.prog 46 #[.pointer (some ⟨g, 0, none⟩)] W fun e w' => e = .returned (.bool x) ∧ w' = W := by
  obtain ⟨a, cap, h1, h2, h3, h4, h5, h6⟩ := h
  have hc : W.cell? ⟨g, 0, none⟩ = some (.slice a fs.length cap) := by rw [cell_of_row W g 0 _ _ (0, 0) h1]; rfl
  have hm : fs.length ≤ 9223372036854775807 := by omega
  subst hx
  cases fs with
  | nil =>
    clear h1 h2 h3 h5 h6
    simp only [List.length_nil] at hc
    go_enter Tryd.func46, Tryd.ntmps46
    go_wp2
    go_ret
    exact ⟨rfl, rfl⟩
  | cons f r =>
    clear h1 h2 h3 h5 h6
    simp only [List.length_cons] at hc hm
    go_enter Tryd.func46, Tryd.ntmps46
    go_wp2
    go_ret
    exact ⟨by simp; omega, rfl⟩
set_option maxHeartbeats 2000000 in
theorem data_any (W : World) (lo g : Nat) (fs : List (Int × ByteArray)) (tag : Int) (h : Rd W lo g fs) :
    Calls Tryd.prog 64 #[.pointer (some ⟨g, 0, none⟩), .int .i64 tag] W fun e w' => e = .returned (.tuple #[.string (tkD tag fs), .bool (tkB tag fs)]) ∧ W.grownBy w' (some g) ∧ Rd w' lo g (tkR tag fs) := by
  obtain ⟨x, hx⟩ : ∃ x, x = decide (fs.length = 0) := ⟨_, rfl⟩
  have E1 : Hid (Calls Tryd.prog 46 #[.pointer (some ⟨g, 0, none⟩)] W fun e w' => e = .returned (.bool x) ∧ w' = W) := ended_any W lo g fs h x hx
  have HR := hidk h
  obtain ⟨a, cap, h1, h2, h3, h4, h5, h6⟩ := h
  have hc : W.cell? ⟨g, 0, none⟩ = some (.slice a fs.length cap) := by rw [cell_of_row W g 0 _ _ (0, 0) h1]; rfl
  have hm : fs.length ≤ 9223372036854775807 := by omega
  cases fs with
  | nil =>
    obtain rfl : x = true := by rw [hx]; rfl
    clear h1 h2 h3 h5 h6 hx hc hm
    go_enter Tryd.func64, Tryd.ntmps64
    go_wp2_with fail
    refine E1.out.mono ?_
    rintro e w1 ⟨rfl, rfl⟩
    go_wp2
    go_ret2
    exact ⟨rfl, World.grownBy.refl _ _, HR.out⟩
  | cons f r =>
    obtain rfl : x = false := by rw [hx]; simp
    rcases h6 with h6 | ⟨b, off, rfl, hl, hg, hcs⟩
    · cases h6
    have c0 := (hcs 0 (by simp)).1
    have c1 := (hcs 0 (by simp)).2
    simp only [Nat.zero_mul, Nat.add_zero, List.getElem_cons_zero] at c0 c1
    simp only [List.length_cons] at hc hm h3
    have hfz : W.frozen? ⟨g, 0, none⟩ = false := frozen_of_row W g 0 _ _ h1
    by_cases ht : f.1 = tag
    · have HE : Hid (tkD tag (f :: r) = f.2 ∧ tkB tag (f :: r) = true ∧ tkR tag (f :: r) = r) := ⟨if_pos ht, by show decide _ = true; simpa using ht, if_pos ht⟩
      rw [HE.out.1, HE.out.2.1, HE.out.2.2]
      obtain ⟨d, hd⟩ : ∃ d, d = f.2 := ⟨_, rfl⟩
      rw [ht] at c0
      rw [← hd] at c1 ⊢
      clear HE ht hd
      by_cases hcap : cap = 1
      · obtain rfl : r = [] := List.eq_nil_of_length_eq_zero (by omega)
        subst hcap
        have HG := hidk (grownBy_set0 W g (.slice (some ⟨b, off, none⟩) 0 0))
        have HN : Hid (Rd (W.setCell ⟨g, 0, none⟩ (.slice (some ⟨b, off, none⟩) 0 0)) lo g []) :=
          ⟨some ⟨b, off, none⟩, 0, Go.heap_setCell_same W g 0 _ _ _ h1, h2, Nat.le_refl _, by omega, fun y hy => by simp at hy, .inl rfl⟩
        simp only [List.length_nil, Nat.zero_add] at hc
        clear h1 h2 h5 hx HR hcs h3 hm
        go_enter Tryd.func64, Tryd.ntmps64
        go_wp2_with fail
        refine E1.out.mono ?_
        rintro e w1 ⟨rfl, rfl⟩
        go_wp2
        go_ret2
        exact ⟨rfl, HG.out, HN.out⟩
      · have HG := hidk (grownBy_set0 W g (.slice (some ⟨b, off + 2, none⟩) r.length (cap - 1)))
        have HN : Hid (Rd (W.setCell ⟨g, 0, none⟩ (.slice (some ⟨b, off + 2, none⟩) r.length (cap - 1))) lo g r) := by
          refine ⟨some ⟨b, off + 2, none⟩, cap - 1, ?_, h2, by omega, by omega, fun y hy => h5 y (List.mem_cons_of_mem _ hy), .inr ⟨b, off + 2, rfl, hl, hg, fun i hi => ?_⟩⟩
          · exact Go.heap_setCell_same W g 0 _ _ _ h1
          · have hk := Below.heap_setCell W ⟨g, 0, none⟩ (.slice (some ⟨b, off + 2, none⟩) r.length (cap - 1)) b (by show b ≠ g; omega)
            have hh := hcs (i + 1) (by simpa using hi)
            rw [show off + (i + 1) * 2 = off + 2 + i * 2 by omega] at hh
            exact ⟨(World.cell?_of_block (a := ⟨b, off + 2 + i * 2, none⟩) hk).trans hh.1, (World.cell?_of_block (a := ⟨b, off + 2 + i * 2 + 1, none⟩) hk).trans hh.2⟩
        have hcap' : ¬ cap - 1 = 0 := by omega
        clear h1 h2 h5 hx HR hcs
        go_enter Tryd.func64, Tryd.ntmps64
        go_wp2_with fail
        refine E1.out.mono ?_
        rintro e w1 ⟨rfl, rfl⟩
        go_wp2
        go_ret2
        exact ⟨rfl, HG.out, HN.out⟩
    · have HE : Hid (tkD tag (f :: r) = ⟨#[]⟩ ∧ tkB tag (f :: r) = false ∧ tkR tag (f :: r) = f :: r) := ⟨if_neg ht, by show decide _ = false; simpa using ht, if_neg ht⟩
      rw [HE.out.1, HE.out.2.1, HE.out.2.2]
      obtain ⟨t, hd⟩ : ∃ d, d = f.1 := ⟨_, rfl⟩
      rw [← hd] at c0 ht
      clear h1 h2 h5 hx hcs HE hd c1
      go_enter Tryd.func64, Tryd.ntmps64
      go_wp2_with fail
      refine E1.out.mono ?_
      rintro e w1 ⟨rfl, rfl⟩
      go_wp2
      go_ret2
      exact ⟨rfl, World.grownBy.refl _ _, HR.out⟩
end Go.Proofs.YtdnhnjimhbbabaaDoor

/- What the small calls of package head answer: within, Check, mayBe, numberField, digestField. -/
namespace Go.Proofs.YtdnhnjimhbbabaaDoor
open Go.RowKit Sums Nums
set_option linter.unusedVariables false
set_option linter.unusedSimpArgs false
set_option maxRecDepth 100000
theorem hWithin_any (n a b : Int) (w : World) : Calls Tryd.prog 50 #[.int .i64 n, .int .i64 a, .int .i64 b] w fun e w' => e = .returned (.bool (decide (a ≤ n) && decide (n ≤ b))) ∧ w' = w := by
  by_cases h1 : a ≤ n
  · have d1 : decide (a ≤ n) = true := by rw [decide_eq_true_eq]; exact h1
    obtain ⟨x, hx⟩ : ∃ x, decide (n ≤ b) = x := ⟨_, rfl⟩
    rw [d1, hx]
    clear h1
    go_enter Tryd.func50, Tryd.ntmps50
    go_wp2
    go_ret
    exact ⟨rfl, rfl⟩
  · have d1 : decide (a ≤ n) = false := by rw [decide_eq_false_iff_not]; exact h1
    rw [d1]
    clear h1
    go_enter Tryd.func50, Tryd.ntmps50
    go_wp2
    go_ret
    exact ⟨rfl, rfl⟩
set_option maxHeartbeats 2000000 in
theorem hCheck_any (h : HdT) (hd : h.d.length = 32) (w : World) (C : Array Value) (HC : Hid (C = (hcells h).toArray)) :
    Calls Tryd.prog 38 #[.agg C] w fun e w' => e = .returned (.int .i64 (putE h)) ∧ Below w.heap.size w w' := by
  have HR := hrow_new w h hd C HC 26
  have HB : Hid (Below w.heap.size w (w.alloc (.cells C 26))) := (Below.refl _ _).alloc (Nat.le_refl _) _
  have c0 := HR.r
  have c1 := HR.e
  have c2 := HR.s
  have c4 := HR.t
  simp only [Nat.zero_add] at c1 c2 c4
  have hnot : ∀ (x : Bool) (w : World), (Op.unary .not (.bool x)).run Tryd.prog w = .ok (.bool (!x)) w := fun _ _ => rfl
  have WI : Hid (∀ (n a b : Int) (W : World), Calls Tryd.prog 50 #[.int .i64 n, .int .i64 a, .int .i64 b] W fun e w' => e = .returned (.bool (decide (a ≤ n) && decide (n ≤ b))) ∧ w' = W) := hWithin_any
  obtain ⟨b1, hb1⟩ : ∃ b, (decide (1 ≤ h.r) && decide (h.r ≤ 5)) = b := ⟨_, rfl⟩
  obtain ⟨b2, hb2⟩ : ∃ b, (decide (1 ≤ h.e) && decide (h.e ≤ 900000000)) = b := ⟨_, rfl⟩
  obtain ⟨b3, hb3⟩ : ∃ b, (decide (0 ≤ h.s) && decide (h.s ≤ 100000)) = b := ⟨_, rfl⟩
  obtain ⟨b4, hb4⟩ : ∃ b, (decide (0 ≤ h.t) && decide (h.t ≤ 900000000)) = b := ⟨_, rfl⟩
  have W1 := hidk (WI.out h.r 1 5)
  have W2 := hidk (WI.out h.e 1 900000000)
  have W3 := hidk (WI.out h.s 0 100000)
  have W4 := hidk (WI.out h.t 0 900000000)
  rw [hb1] at W1
  rw [hb2] at W2
  rw [hb3] at W3
  rw [hb4] at W4
  have hE : putE h = if (b1 && (b2 && (b3 && b4))) = true then 0 else 70 := by
    rw [← hb1, ← hb2, ← hb3, ← hb4]
    unfold putE rightH
    simp only [Bool.and_assoc]
  rw [hE]
  obtain ⟨r, hr⟩ : ∃ r, r = h.r := ⟨_, rfl⟩
  obtain ⟨e, he⟩ : ∃ r, r = h.e := ⟨_, rfl⟩
  obtain ⟨s, hs⟩ : ∃ r, r = h.s := ⟨_, rfl⟩
  obtain ⟨t, ht⟩ : ∃ r, r = h.t := ⟨_, rfl⟩
  rw [← hr] at c0 W1
  rw [← he] at c1 W2
  rw [← hs] at c2 W3
  rw [← ht] at c4 W4
  clear hE hb1 hb2 hb3 hb4 WI HR hr he hs ht HC
  cases b1
  · go_enter Tryd.func38, Tryd.ntmps38
    go_wp2_with fail
    refine (W1.out _).mono ?_
    rintro e w1 ⟨rfl, rfl⟩
    go_wp2
    go_ret
    exact ⟨rfl, HB.out⟩
  cases b2
  · go_enter Tryd.func38, Tryd.ntmps38
    go_wp2_with fail
    refine (W1.out _).mono ?_
    rintro e w1 ⟨rfl, rfl⟩
    go_wp2_with fail
    refine (W2.out _).mono ?_
    rintro e w1 ⟨rfl, rfl⟩
    go_wp2
    go_ret
    exact ⟨rfl, HB.out⟩
  cases b3
  · go_enter Tryd.func38, Tryd.ntmps38
    go_wp2_with fail
    refine (W1.out _).mono ?_
    rintro e w1 ⟨rfl, rfl⟩
    go_wp2_with fail
    refine (W2.out _).mono ?_
    rintro e w1 ⟨rfl, rfl⟩
    go_wp2_with fail
    refine (W3.out _).mono ?_
    rintro e w1 ⟨rfl, rfl⟩
    go_wp2
    go_ret
    exact ⟨rfl, HB.out⟩
  cases b4
  · go_enter Tryd.func38, Tryd.ntmps38
    go_wp2_with fail
    refine (W1.out _).mono ?_
    rintro e w1 ⟨rfl, rfl⟩
    go_wp2_with fail
    refine (W2.out _).mono ?_
    rintro e w1 ⟨rfl, rfl⟩
    go_wp2_with fail
    refine (W3.out _).mono ?_
    rintro e w1 ⟨rfl, rfl⟩
    go_wp2_with fail
    refine (W4.out _).mono ?_
    rintro e w1 ⟨rfl, rfl⟩
    go_wp2
    go_ret
    exact ⟨rfl, HB.out⟩
  · go_enter Tryd.func38, Tryd.ntmps38
    go_wp2_with fail
    refine (W1.out _).mono ?_
    rintro e w1 ⟨rfl, rfl⟩
    go_wp2_with fail
    refine (W2.out _).mono ?_
    rintro e w1 ⟨rfl, rfl⟩
    go_wp2_with fail
    refine (W3.out _).mono ?_
    rintro e w1 ⟨rfl, rfl⟩
    go_wp2_with fail
    refine (W4.out _).mono ?_
    rintro e w1 ⟨rfl, rfl⟩
    go_wp2
    go_ret
    exact ⟨rfl, HB.out⟩
theorem putE_ok (h : HdT) : putE h = 0 ∧ rightH h = true ∨ putE h = 70 ∧ rightH h = false := by
  unfold putE
  cases rightH h
  · exact .inr ⟨rfl, rfl⟩
  · exact .inl ⟨rfl, rfl⟩
set_option maxHeartbeats 2000000 in
theorem hMay_any (s : SgT) (hd : s.h.d.length = 32) (w : World) (C : Array Value) (HC : Hid (C = (scells s).toArray)) :
    Calls Tryd.prog 23 #[.agg C] w fun e w' => e = .returned (.bool (mayS s)) ∧ Below w.heap.size w w' := by
  have HR := hidk (srow_new w s hd C HC 28)
  have HB : Hid (Below w.heap.size w (w.alloc (.cells C 28))) := (Below.refl _ _).alloc (Nat.le_refl _) _
  obtain ⟨HCs, HHC, HSH, H36⟩ := head_row s.h hd
  have HRH : Hid ((w.alloc (.cells C 28)).rangeAt w.heap.size 0 HCs.toList) := by rw [HHC.out]; exact HR.out.h
  obtain ⟨n, Hn⟩ : ∃ n, Hid (n = s.n) := ⟨s.n, hidk rfl⟩
  obtain ⟨b2, hb2⟩ : ∃ b, (decide (1 ≤ n) && decide (n ≤ 3)) = b := ⟨_, rfl⟩
  obtain ⟨E, hE0⟩ : ∃ E, E = putE s.h := ⟨_, rfl⟩
  have R1 : Hid (∀ W, Calls Tryd.prog 38 #[.agg HCs] W fun e w' => e = .returned (.int .i64 E) ∧ Below W.heap.size W w') := fun W => by rw [hE0]; exact hCheck_any s.h hd W HCs HHC
  have W2 : Hid (∀ W, Calls Tryd.prog 50 #[.int .i64 n, .int .i64 1, .int .i64 3] W fun e w' => e = .returned (.bool b2) ∧ w' = W) := fun W => by rw [← hb2]; exact hWithin_any n 1 3 W
  have hM : mayS s = (rightH s.h && b2) := by
    rw [← hb2, Hn.out]
    unfold mayS
    rw [Bool.and_assoc]
  rw [hM]
  have hp := putE_ok s.h
  rw [← hE0] at hp
  clear hM hb2 HC hE0
  rcases hp with ⟨rfl, hr⟩ | ⟨rfl, hr⟩
  · rw [hr]
    clear hr
    go_enter Tryd.func23, Tryd.ntmps23
    go_wp2_with (first
      | (show wpList _ _ _ ({ dst := some 4, op := _, type := _, pos := _, after := _, guard := _ } :: _) _ _; refine wpList_mid rfl 26 (.tmp 3) rfl w.heap.size 0 rfl HCs _ HRH.out Tryd.underlying26 rfl HSH.out ?_; try simp only [Act.put, List.setIfInBounds_toArray, List.set_cons_zero, List.set_cons_succ])
      | fail)
    refine (R1.out _).mono ?_
    rintro e w1 ⟨rfl, hb⟩
    have HB1 := hidk (HB.out.trans (hb.mono HB.out.size))
    have hc := (HR.out.keep hb).n
    rw [← Hn.out, Nat.zero_add] at hc
    clear hb
    go_wp2_with fail
    refine (W2.out _).mono ?_
    rintro e w2 ⟨rfl, rfl⟩
    go_wp2
    go_ret
    exact ⟨rfl, HB1.out⟩
  · rw [hr]
    clear hr
    go_enter Tryd.func23, Tryd.ntmps23
    go_wp2_with (first
      | (show wpList _ _ _ ({ dst := some 4, op := _, type := _, pos := _, after := _, guard := _ } :: _) _ _; refine wpList_mid rfl 26 (.tmp 3) rfl w.heap.size 0 rfl HCs _ HRH.out Tryd.underlying26 rfl HSH.out ?_; try simp only [Act.put, List.setIfInBounds_toArray, List.set_cons_zero, List.set_cons_succ])
      | fail)
    refine (R1.out _).mono ?_
    rintro e w1 ⟨rfl, hb⟩
    have HB1 := hidk (HB.out.trans (hb.mono HB.out.size))
    clear hb
    go_wp2
    go_ret
    exact ⟨rfl, HB1.out⟩
set_option maxHeartbeats 2000000 in
theorem hNum_any (t n : Int) (w : World) : Calls Tryd.prog 35 #[.int .i64 t, .int .i64 n] w fun e w' => e = .returned (.agg #[.int .i64 t, .string (nOf n)]) ∧ Below w.heap.size w w' := by
  obtain ⟨x, Hx⟩ : ∃ x : ByteArray, Hid (x = nOf n) := ⟨nOf n, hidk rfl⟩
  obtain ⟨E, HE⟩ : ∃ E, Hid (E = neOf n) := ⟨_, hidk rfl⟩
  have N1 : Hid (∀ W, Calls Tryd.prog 59 #[.int .i64 n] W fun e w' => e = .returned (.tuple #[.string x, .int .i64 E]) ∧ Below W.heap.size W w') := fun W => by rw [Hx.out, HE.out]; exact number_any n W
  rw [← Hx.out]
  clear Hx HE
  go_enter Tryd.func35, Tryd.ntmps35
  go_wp2_with fail
  refine (N1.out _).mono ?_
  rintro e w1 ⟨rfl, hb1⟩
  have hlt : w.heap.size < w1.heap.size := by have := hb1.size; simp at this; omega
  have hg : w1.heap[w.heap.size]? = some (.cells #[.int .i64 0, .string ⟨#[]⟩] 59 (0, 0)) := (hb1.block _ (by simp)).trans (heap_alloc_new w _)
  have c0 : w1.cell? ⟨w.heap.size, 0, none⟩ = some (.int .i64 0) := by rw [cell_of_row w1 _ 0 _ 59 (0, 0) hg]; rfl
  have c1 : w1.cell? ⟨w.heap.size, 1, none⟩ = some (.string ⟨#[]⟩) := by rw [cell_of_row w1 _ 1 _ 59 (0, 0) hg]; rfl
  have HB : Hid (Below w.heap.size w w1) := ((Below.refl _ _).alloc (Nat.le_refl _) _).trans (hb1.mono (by simp))
  have f0 : w1.frozen? ⟨w.heap.size, 0, none⟩ = false := frozen_of_row w1 _ 0 _ _ hg
  have f1 : w1.frozen? ⟨w.heap.size, 1, none⟩ = false := frozen_of_row w1 _ 1 _ _ hg
  clear hb1
  have HG2 := hidk (Go.heap_setCell_same _ _ 1 _ _ (.string x) (Go.heap_setCell_same w1 _ 0 _ _ (.int .i64 t) hg))
  clear hg
  go_wp2
  refine bodyPost_ret (v := .agg #[.int .i64 t, .string x]) ?_ rfl ⟨rfl, (HB.out.setCell (Nat.le_refl _) _).setCell (Nat.le_refl _) _⟩
  exact results_cell_row (p := 4) (ty := 59) rfl _ _ w.heap.size 59 #[.int .i64 t, .string x] (0, 0) _ rfl HG2.out Tryd.underlying59 rfl (by kernel_rfl)
set_option maxHeartbeats 2000000 in
theorem hDig_any (t : Int) (d : List UInt8) (hd : d.length = 32) (w : World) (D : Array Value) (HD : Hid (D = (cellsOf d).toArray)) : Calls Tryd.prog 36 #[.int .i64 t, .agg D] w fun e w' => e = .returned (.agg #[.int .i64 t, .string (bA d)]) ∧ Below w.heap.size w w' := by
  obtain ⟨x, Hx⟩ : ∃ x : ByteArray, Hid (x = bA d) := ⟨bA d, hidk rfl⟩
  have HCV : Hid (∀ (W : World) (g : Nat), W.heap[g]? = some (.cells D 24 (0, 0)) → Sem.run Tryd.prog (convert 35 9 (.slice (some ⟨g, 0, none⟩) 32 32)) W = .ok (.string x) W) := fun W g h => by
    rw [Hx.out]
    refine conv_at W g 0 d hd fun j v hj => ?_
    rw [Nat.zero_add, cell_of_row W g j _ _ (0, 0) h, HD.out]
    simpa using hj
  have HSL := hidk slice_at
  rw [← Hx.out]
  clear Hx HD
  have hn0 : (w.alloc (.cells D 24)).heap[w.heap.size]? = some (.cells D 24 (0, 0)) := heap_alloc_new w _
  have hcv := HCV.out ((w.alloc (.cells D 24)).alloc (.cells #[.int .i64 0, .string ⟨#[]⟩] 59)) w.heap.size (heap_keep hn0)
  have hsl := HSL.out ((w.alloc (.cells D 24)).alloc (.cells #[.int .i64 0, .string ⟨#[]⟩] 59)) w.heap.size 0
  have hg := heap_alloc_new (w.alloc (.cells D 24)) (.cells #[.int .i64 0, .string ⟨#[]⟩] 59)
  rw [alloc_size] at hg
  have hg2 := heap_alloc_new (w.alloc (.cells D 24)) (.cells #[.int .i64 t, .string x] 59)
  rw [alloc_size] at hg2
  have HG2 := hidk hg2
  have HB : Hid (Below w.heap.size w ((w.alloc (.cells D 24)).alloc (.cells #[.int .i64 t, .string x] 59))) := ((Below.refl _ _).alloc (Nat.le_refl _) _).alloc (by simp) _
  clear HCV HSL hn0 hg hg2
  go_enter Tryd.func36, Tryd.ntmps36
  go_wp2
  refine bodyPost_ret (v := .agg #[.int .i64 t, .string x]) ?_ rfl ⟨rfl, HB.out⟩
  exact results_cell_row (p := 4) (ty := 59) rfl _ _ (w.heap.size + 1) 59 #[.int .i64 t, .string x] (0, 0) _ rfl HG2.out Tryd.underlying59 rfl (by kernel_rfl)
end Go.Proofs.YtdnhnjimhbbabaaDoor

/- What a reader takes: numbers, digests; what fills a place by it. -/
namespace Go.Proofs.YtdnhnjimhbbabaaDoor
open Go.RowKit Sums Nums
set_option linter.unusedVariables false
set_option linter.unusedSimpArgs false
set_option maxRecDepth 100000
theorem Rd.small {W : World} {lo g : Nat} {fs : List (Int × ByteArray)} (h : Rd W lo g fs) (tag : Int) : (tkD tag fs).size ≤ maxLen := by
  obtain ⟨a, cap, h1, h2, h3, h4, h5, h6⟩ := h
  cases fs with
  | nil => show (⟨#[]⟩ : ByteArray).size ≤ maxLen; unfold maxLen; decide
  | cons f r =>
    unfold tkD
    split
    · rename_i hh
      split
      · have := List.cons.inj hh
        rw [← this.1]
        exact h5 f (List.mem_cons_self ..)
      · show (⟨#[]⟩ : ByteArray).size ≤ maxLen; unfold maxLen; decide
    · show (⟨#[]⟩ : ByteArray).size ≤ maxLen; unfold maxLen; decide
theorem grown_trans {a b c : World} {r : Option Nat} (h : a.grownBy b r) (k : b.grownBy c r) : a.grownBy c r :=
  ⟨k.os.trans h.os, k.tape.trans h.tape, k.output.trans h.output, Nat.le_trans h.size k.size, fun i hi hr => (k.block i (Nat.lt_of_lt_of_le hi h.size) hr).trans (h.block i hi hr)⟩
theorem grown_below {a b : World} {r : Option Nat} (h : Below a.heap.size a b) : a.grownBy b r := ⟨h.os, h.tape, h.output, h.size, fun k hk _ => h.block k hk⟩
/-- A write above what was there. -/
theorem grown_wrote {a b c : World} {r : Option Nat} {g : Nat} {D : Array Value} {t : TypeId} (h : a.grownBy b r) (hw : Wrote g D t b c) (hg : a.heap.size ≤ g) : a.grownBy c r := by
  have hb : Below a.heap.size b c := hw.below a.heap.size b (Below.refl _ _) hg
  exact ⟨hb.os.trans h.os, hb.tape.trans h.tape, hb.output.trans h.output, Nat.le_trans h.size hb.size, fun i hi hr => (hb.block i hi).trans (h.block i hi hr)⟩
def nV (tag : Int) (fs : List (Int × ByteArray)) : Int := vOf (tkD tag fs).data.toList
def nB (tag : Int) (fs : List (Int × ByteArray)) : Bool := tkB tag fs && isNum (tkD tag fs).data.toList
set_option maxHeartbeats 2000000 in
theorem rnum_any (W : World) (lo g : Nat) (fs : List (Int × ByteArray)) (tag : Int) (h : Rd W lo g fs) :
    Calls Tryd.prog 43 #[.pointer (some ⟨g, 0, none⟩), .int .i64 tag] W fun e w' => e = .returned (.tuple #[.int .i64 (nV tag fs), .bool (nB tag fs)]) ∧ W.grownBy w' (some g) ∧ Rd w' lo g (tkR tag fs) := by
  have D1 := hidk (data_any W lo g fs tag h)
  have hs := h.small tag
  unfold nV nB
  obtain ⟨d, hd⟩ : ∃ d, d = tkD tag fs := ⟨_, rfl⟩
  obtain ⟨b, hb⟩ : ∃ b, b = tkB tag fs := ⟨_, rfl⟩
  obtain ⟨r, hr⟩ : ∃ r, r = tkR tag fs := ⟨_, rfl⟩
  rw [← hd] at hs ⊢
  rw [← hd, ← hb, ← hr] at D1
  rw [← hb, ← hr]
  obtain ⟨n, hn⟩ : ∃ n, n = vOf d.data.toList := ⟨_, rfl⟩
  obtain ⟨E, hE⟩ : ∃ n, n = eOf d.data.toList := ⟨_, rfl⟩
  have V1 : Hid (∀ W, Calls Tryd.prog 65 #[.string d] W fun e w' => e = .returned (.tuple #[.int .i64 n, .int .i64 E]) ∧ W = w') := fun W => by rw [hn, hE]; exact value_any d W hs
  rw [← hn]
  have hE2 : (E = 0 ∧ isNum d.data.toList = true) ∨ (E = 11 ∧ isNum d.data.toList = false) := by
    rw [hE]
    cases hq : isNum d.data.toList
    · exact .inr ⟨(v_no hq).2, rfl⟩
    · exact .inl ⟨(v_yes hq).2, rfl⟩
  clear hd hb hr hn hE hs h
  rcases hE2 with ⟨rfl, hq⟩ | ⟨rfl, hq⟩
  all_goals
    rw [hq]
    clear hq
    cases b
    all_goals
      go_enter Tryd.func43, Tryd.ntmps43
      go_wp2_with fail
      refine D1.out.mono ?_
      rintro e w1 ⟨rfl, hg1, hr1⟩
      have HG := hidk hg1
      have HR := hidk hr1
      clear hg1 hr1
      go_wp2_with fail
      refine (V1.out _).mono ?_
      rintro e w2 ⟨rfl, rfl⟩
      go_wp2
      go_ret2
      exact ⟨rfl, HG.out, HR.out⟩
/-- A digest's bytes copied out of a text. -/
theorem wpList_copy_text {ops : Array Oper} {rest : List Oper} {o : Oper} {a : Act} {w : World} {Q : Exit → Act → World → Prop} (hgd : o.guard = none) (s x : Operand) (hop : o.op = Op.call { callee := Callee.builtin Builtin.copy, args := #[s, x], argTypes := #[35, 9] })
    (g : Nat) (t : TypeId) (hs : a.eval s = .slice (some ⟨g, 0, none⟩) 32 32) (u : ByteArray) (hx : a.eval x = .string u) (hu : u.size = 32) (Z D : Array Value) (hZ : Z.size = 32) (HD : Hid (D = (cellsOf u.data.toList).toArray)) (hg : w.heap[g]? = some (.cells Z t (0, 0)))
    (h : ∀ w', Hid (Wrote g D t w w') → wpList Tryd.prog ops Q rest (a.put o.dst (.int .i64 32)) w') : wpList Tryd.prog ops Q (o :: rest) a w := by
  refine wpList_plain hgd fun K hK => ?_
  have hrun := Lib.run_copy_row_string (P := Tryd.prog) w 35 9 o.type 5 g 0 32 32 u Z t Tryd.underlying35 (by kernel_rfl) hg (by omega) (by omega)
  have e : (Z.toList.take 0 ++ Lib.byteCells u.data.toList ++ Z.toList.drop (0 + u.size)).toArray = D := by
    rw [HD.out, List.take_zero, List.nil_append, List.drop_of_length_le (by rw [Array.length_toList]; omega), List.append_nil]
    rfl
  rw [e, hu] at hrun
  unfold Oper.wp
  simp [execOp, hop, resolve, invoke, builtin, hs, hx, hrun, Result.andThen, goInt]
  exact hK _ _ (h _ (wrote_row hg))
def dB (tag : Int) (fs : List (Int × ByteArray)) : Bool := tkB tag fs && decide ((tkD tag fs).size = 32)
def dV (tag : Int) (fs : List (Int × ByteArray)) : List UInt8 := if dB tag fs = true then (tkD tag fs).data.toList else List.replicate 32 0
theorem dV_length (tag : Int) (fs : List (Int × ByteArray)) : (dV tag fs).length = 32 := by
  unfold dV
  split
  · rename_i h
    unfold dB at h
    simp only [Bool.and_eq_true, decide_eq_true_eq] at h
    exact h.2
  · rfl
set_option maxHeartbeats 4000000 in
theorem rdig_any (W : World) (lo g : Nat) (fs : List (Int × ByteArray)) (tag : Int) (h : Rd W lo g fs) (D : Array Value) (HD : Hid (D = (cellsOf (dV tag fs)).toArray)) :
    Calls Tryd.prog 45 #[.pointer (some ⟨g, 0, none⟩), .int .i64 tag] W fun e w' => e = .returned (.tuple #[.agg D, .bool (dB tag fs)]) ∧ W.grownBy w' (some g) ∧ Rd w' lo g (tkR tag fs) := by
  obtain ⟨Z, HZ, HA, HS, H1, H32⟩ := noughts27
  have HH := hidk h
  have D1 : Hid (∀ V, Rd V lo g fs → Calls Tryd.prog 64 #[.pointer (some ⟨g, 0, none⟩), .int .i64 tag] V fun e w' => e = .returned (.tuple #[.string (tkD tag fs), .bool (tkB tag fs)]) ∧ V.grownBy w' (some g) ∧ Rd w' lo g (tkR tag fs)) := fun V hV => data_any V lo g fs tag hV
  have hs := h.small tag
  have hlt := h.lt
  have HSD : Hid ((Tryd.prog.info? 24).map (·.size) = some D.size) := by show _ = _; rw [size23, HD.out]; simp [cellsOf_length, dV_length]
  have H1D : Hid (D.all (·.oneCell') = true) := by show _ = _; rw [HD.out]; exact cellsOf_all _
  have HZD : Hid (Z.size = D.size) := by show _ = _; rw [H32.out, HD.out]; simp [cellsOf_length, dV_length]
  have h32 : Z.size = 32 := H32.out
  have HSZ := HS
  have HDV : dB tag fs = true → Hid (D = (cellsOf (tkD tag fs).data.toList).toArray) := fun hq => by
    show _ = _
    rw [HD.out]; unfold dV; rw [if_pos hq]
  have HDZ : dB tag fs = false → Hid (D = Z) := fun hq => by
    show _ = _
    rw [HD.out, HZ.out]; unfold dV; rw [if_neg (by rw [hq]; simp)]
  have hnot : ∀ (x : Bool) (w : World), (Op.unary .not (.bool x)).run Tryd.prog w = .ok (.bool (!x)) w := fun _ _ => rfl
  unfold dB at HDV HDZ ⊢
  clear HD HZ
  obtain ⟨d, hd⟩ : ∃ d, d = tkD tag fs := ⟨_, rfl⟩
  obtain ⟨b, hb⟩ : ∃ b, b = tkB tag fs := ⟨_, rfl⟩
  obtain ⟨r, hr⟩ : ∃ r, r = tkR tag fs := ⟨_, rfl⟩
  rw [← hd] at hs
  simp only [← hd, ← hb, ← hr] at D1 HDV HDZ ⊢
  unfold maxLen at hs
  clear hd hb hr h
  cases b
  · obtain rfl := (HDZ rfl).out
    clear HDV HDZ
    go_enter Tryd.func45, Tryd.ntmps45
    go_wp2_with (first
      | (show wpList _ _ _ ({ dst := some 4, op := _, type := _, pos := _, after := _, guard := _ } :: _) _ _; refine wpList_new_var rfl 24 rfl D HA.out ?_; intro g4 w1 HM4; try simp only [Act.put, List.setIfInBounds_toArray, List.set_cons_zero, List.set_cons_succ])
      | (show wpList _ _ _ ({ dst := some 6, op := _, type := _, pos := _, after := _, guard := _ } :: _) _ _; refine wpList_new_var rfl 24 rfl D HA.out ?_; intro g6 w2 HM6; try simp only [Act.put, List.setIfInBounds_toArray, List.set_cons_zero, List.set_cons_succ])
      | fail)
    have HB2 : Hid (Below W.heap.size W w2) := HM4.out.below.trans (HM6.out.below.mono HM4.out.below.size)
    refine (D1.out w2 (HH.out.below HB2.out)).mono ?_
    rintro e w3 ⟨rfl, hg3, hr3⟩
    have HG3 := hidk (grown_trans (grown_below HB2.out) hg3)
    have HR3 := hidk hr3
    have h4 : W.heap.size ≤ g4 := Nat.le_of_eq HM4.out.new.symm
    have h6 : g4 < g6 := by have e1 := HM6.out.new; have := heap_lt HM4.out.row; omega
    have HR4 : Hid (w3.heap[g4]? = some (.cells D 24 (0, 0))) := by
      have q : w2.heap[g4]? = some (.cells D 24 (0, 0)) := (HM6.out.below.block _ (heap_lt HM4.out.row)).trans HM4.out.row
      exact (hg3.block _ (heap_lt q) (by intro e; cases e; omega)).trans q
    have HR6 : Hid (w3.heap[g6]? = some (.cells D 24 (0, 0))) := (hg3.block _ (heap_lt HM6.out.row) (by intro e; cases e; omega)).trans HM6.out.row
    clear HM4 HM6 HB2 hg3 hr3 D1 HH
    go_wp2_with (first
      | (show wpList _ _ _ ({ dst := some 22, op := _, type := _, pos := _, after := _, guard := _ } :: _) _ _; refine wpList_load_row rfl 24 (.tmp 6) rfl g6 rfl 24 D (0, 0) _ HR6.out Tryd.underlying24 rfl HSD.out ?_; try simp only [Act.put, List.setIfInBounds_toArray, List.set_cons_zero, List.set_cons_succ])
      | (refine wpList_set_var rfl 24 (.tmp 4) (.tmp 22) rfl g4 D rfl rfl 24 D HR4.out HSD.out rfl H1D.out ?_; intro w4 HW4; try simp only [Act.put, List.setIfInBounds_toArray, List.set_cons_zero, List.set_cons_succ])
      | fail)
    refine bodyPost_ret (v := .tuple #[.agg D, .bool false]) ?_ rfl ⟨rfl, ?_, HR3.out.wrote HW4.out (.inr (by omega))⟩
    · exact results_row_tmp (p := 4) (q := 5) (ty := 24) rfl _ _ g4 24 D (0, 0) _ rfl HW4.out.row Tryd.underlying24 rfl HSD.out
    · exact grown_wrote HG3.out HW4.out (by omega)
  · by_cases h2 : d.size = 32
    · have HDD := HDV (by simpa using h2)
      have hd : decide (d.size = 32) = true := by simpa using h2
      rw [hd]
      clear HDV HDZ hd
      go_enter Tryd.func45, Tryd.ntmps45
      go_wp2_with (first
        | (show wpList _ _ _ ({ dst := some 4, op := _, type := _, pos := _, after := _, guard := _ } :: _) _ _; refine wpList_new_var rfl 24 rfl Z HA.out ?_; intro g4 w1 HM4; try simp only [Act.put, List.setIfInBounds_toArray, List.set_cons_zero, List.set_cons_succ])
        | (show wpList _ _ _ ({ dst := some 6, op := _, type := _, pos := _, after := _, guard := _ } :: _) _ _; refine wpList_new_var rfl 24 rfl Z HA.out ?_; intro g6 w2 HM6; try simp only [Act.put, List.setIfInBounds_toArray, List.set_cons_zero, List.set_cons_succ])
        | fail)
      have HB2 : Hid (Below W.heap.size W w2) := HM4.out.below.trans (HM6.out.below.mono HM4.out.below.size)
      refine (D1.out w2 (HH.out.below HB2.out)).mono ?_
      rintro e w3 ⟨rfl, hg3, hr3⟩
      have HG3 := hidk (grown_trans (grown_below HB2.out) hg3)
      have HR3 := hidk hr3
      have h4 : W.heap.size ≤ g4 := Nat.le_of_eq HM4.out.new.symm
      have h6 : g4 < g6 := by have e1 := HM6.out.new; have := heap_lt HM4.out.row; omega
      have HR4 : Hid (w3.heap[g4]? = some (.cells Z 24 (0, 0))) := by
        have q : w2.heap[g4]? = some (.cells Z 24 (0, 0)) := (HM6.out.below.block _ (heap_lt HM4.out.row)).trans HM4.out.row
        exact (hg3.block _ (heap_lt q) (by intro e; cases e; omega)).trans q
      have HR6 : Hid (w3.heap[g6]? = some (.cells Z 24 (0, 0))) := (hg3.block _ (heap_lt HM6.out.row) (by intro e; cases e; omega)).trans HM6.out.row
      have hsl := slice_at w3 g6 0
      have hd2 : (d.size : Int) = 32 := by omega
      clear HM4 HM6 HB2 hg3 hr3 D1 HH hs
      go_wp2_with (first
        | (refine wpList_copy_text rfl (.tmp 23) (.tmp 24) rfl g6 24 rfl d rfl h2 Z D h32 HDD HR6.out ?_; intro w4 HW6; try simp only [Act.put, List.setIfInBounds_toArray, List.set_cons_zero, List.set_cons_succ])
        | (show wpList _ _ _ ({ dst := some 26, op := _, type := _, pos := _, after := _, guard := _ } :: _) _ _; refine wpList_load_row rfl 24 (.tmp 6) rfl g6 rfl 24 D (0, 0) _ HW6.out.row Tryd.underlying24 rfl HSD.out ?_; try simp only [Act.put, List.setIfInBounds_toArray, List.set_cons_zero, List.set_cons_succ])
        | (refine wpList_set_var rfl 24 (.tmp 4) (.tmp 26) rfl g4 D rfl rfl 24 Z ((HW6.out.other _ (by omega)).trans HR4.out) HSD.out HZD.out H1D.out ?_; intro w5 HW4; try simp only [Act.put, List.setIfInBounds_toArray, List.set_cons_zero, List.set_cons_succ])
        | fail)
      refine bodyPost_ret (v := .tuple #[.agg D, .bool true]) ?_ rfl ⟨rfl, ?_, (HR3.out.wrote HW6.out (.inr (by omega))).wrote HW4.out (.inr (by omega))⟩
      · exact results_row_tmp (p := 4) (q := 5) (ty := 24) rfl _ _ g4 24 D (0, 0) _ rfl HW4.out.row Tryd.underlying24 rfl HSD.out
      · exact grown_wrote (grown_wrote HG3.out HW6.out (by omega)) HW4.out (by omega)
    · have hd : decide (d.size = 32) = false := by simpa using h2
      rw [hd] at HDZ ⊢
      obtain rfl := (HDZ rfl).out
      clear HDV HDZ hd
      have hd2 : ¬ (d.size : Int) = 32 := by omega
      go_enter Tryd.func45, Tryd.ntmps45
      go_wp2_with (first
        | (show wpList _ _ _ ({ dst := some 4, op := _, type := _, pos := _, after := _, guard := _ } :: _) _ _; refine wpList_new_var rfl 24 rfl D HA.out ?_; intro g4 w1 HM4; try simp only [Act.put, List.setIfInBounds_toArray, List.set_cons_zero, List.set_cons_succ])
        | (show wpList _ _ _ ({ dst := some 6, op := _, type := _, pos := _, after := _, guard := _ } :: _) _ _; refine wpList_new_var rfl 24 rfl D HA.out ?_; intro g6 w2 HM6; try simp only [Act.put, List.setIfInBounds_toArray, List.set_cons_zero, List.set_cons_succ])
        | fail)
      have HB2 : Hid (Below W.heap.size W w2) := HM4.out.below.trans (HM6.out.below.mono HM4.out.below.size)
      refine (D1.out w2 (HH.out.below HB2.out)).mono ?_
      rintro e w3 ⟨rfl, hg3, hr3⟩
      have HG3 := hidk (grown_trans (grown_below HB2.out) hg3)
      have HR3 := hidk hr3
      have h4 : W.heap.size ≤ g4 := Nat.le_of_eq HM4.out.new.symm
      have h6 : g4 < g6 := by have e1 := HM6.out.new; have := heap_lt HM4.out.row; omega
      have HR4 : Hid (w3.heap[g4]? = some (.cells D 24 (0, 0))) := by
        have q : w2.heap[g4]? = some (.cells D 24 (0, 0)) := (HM6.out.below.block _ (heap_lt HM4.out.row)).trans HM4.out.row
        exact (hg3.block _ (heap_lt q) (by intro e; cases e; omega)).trans q
      have HR6 : Hid (w3.heap[g6]? = some (.cells D 24 (0, 0))) := (hg3.block _ (heap_lt HM6.out.row) (by intro e; cases e; omega)).trans HM6.out.row
      clear HM4 HM6 HB2 hg3 hr3 D1 HH h2
      go_wp2_with (first
        | (show wpList _ _ _ ({ dst := some 22, op := _, type := _, pos := _, after := _, guard := _ } :: _) _ _; refine wpList_load_row rfl 24 (.tmp 6) rfl g6 rfl 24 D (0, 0) _ HR6.out Tryd.underlying24 rfl HSD.out ?_; try simp only [Act.put, List.setIfInBounds_toArray, List.set_cons_zero, List.set_cons_succ])
        | (refine wpList_set_var rfl 24 (.tmp 4) (.tmp 22) rfl g4 D rfl rfl 24 D HR4.out HSD.out rfl H1D.out ?_; intro w4 HW4; try simp only [Act.put, List.setIfInBounds_toArray, List.set_cons_zero, List.set_cons_succ])
        | fail)
      refine bodyPost_ret (v := .tuple #[.agg D, .bool false]) ?_ rfl ⟨rfl, ?_, HR3.out.wrote HW4.out (.inr (by omega))⟩
      · exact results_row_tmp (p := 4) (q := 5) (ty := 24) rfl _ _ g4 24 D (0, 0) _ rfl HW4.out.row Tryd.underlying24 rfl HSD.out
      · exact grown_wrote HG3.out HW4.out (by omega)
end Go.Proofs.YtdnhnjimhbbabaaDoor

/- A place that is filled by a reader's number or digest; a row that is opened. -/
namespace Go.Proofs.YtdnhnjimhbbabaaDoor
open Go.RowKit Sums Nums
set_option linter.unusedVariables false
set_option linter.unusedSimpArgs false
set_option maxRecDepth 100000
/-- What is left as it was where one variable and a reader were written. -/
structure Went (gh g : Nat) (W W' : World) : Prop where
  below : ∀ B a, Below B a W → B ≤ gh → B ≤ g → Below B a W'
  other : ∀ k, k < W.heap.size → k ≠ gh → k ≠ g → W'.heap[k]? = W.heap[k]?
theorem went_of {gh g : Nat} {W W1 W' : World} {D : Array Value} {t : TypeId} (h : W.grownBy W1 (some g)) (hw : Wrote gh D t W1 W') (hg : g < W.heap.size) : Went gh g W W' :=
  ⟨fun B a hb h1 h2 => hw.below B a (hb.grown h (by omega) (by intro k hk; cases hk; exact h2)) h1,
   fun k hk h1 h2 => (hw.other k h1).trans (h.block k hk (by intro e; cases e; exact h2 rfl))⟩
/-- A number stored in a place of a variable. -/
theorem wpList_put64 {P : Program} {ops : Array Oper} {rest : List Oper} {o : Oper} {a : Act} {w : World} {Q : Exit → Act → World → Prop} (hgd : o.guard = none) (t : TypeId) (x y : Operand) (ho : o.op = .store t x y) (hs : ∀ w, (sizeOf t).run P w = .ok 1 w)
    (g i : Nat) (n : Int) (hx : a.eval x = .pointer (some ⟨g, i, none⟩)) (hy : a.eval y = .int .i64 n) (cs : Array Value) (t' : TypeId) (hg : w.heap[g]? = some (.cells cs t' (0, 0))) (hi : i < cs.size)
    (h : ∀ w', Hid (Wrote g (cs.setIfInBounds i (.int .i64 n)) t' w w') → wpList P ops Q rest (a.put o.dst undef) w') : wpList P ops Q (o :: rest) a w := by
  refine wpList_plain hgd fun K hK => ?_
  have hc : w.cell? ⟨g, i, none⟩ = some cs[i] := by rw [cell_of_row w g i cs t' (0, 0) hg, Array.getElem?_eq_getElem hi]
  have hf : w.frozen? ⟨g, i, none⟩ = false := frozen_of_row w g i cs t' hg
  have hrun : (Instr.storeAt t (.pointer (some ⟨g, i, none⟩)) (.int .i64 n)).run P w = .ok () (w.setCell ⟨g, i, none⟩ (.int .i64 n)) := by
    simp [go_sem, hc, hf, hs]
  unfold Oper.wp execOp
  simp only [ho, hx, hy, hrun, Sem.run_bind, Result.andThen_ok]
  exact hK _ _ (h _ (wrote_cell _ hg))
theorem sizeOf3 (w : World) : (sizeOf 3).run Tryd.prog w = .ok 1 w := by
  have h : (Tryd.prog.info? 3).map (·.size) = some 1 := by kernel_rfl
  cases hq : Tryd.prog.info? 3 with
  | none => rw [hq] at h; cases h
  | some i =>
    rw [hq] at h
    simp only [Option.map_some, Option.some.injEq] at h
    simp [sizeOf, typeInfo, hq, h]
set_option maxHeartbeats 2000000 in
theorem into_int (W : World) (lo g gh off : Nat) (fs : List (Int × ByteArray)) (tag : Int) (h : Rd W lo g fs) (C C' : Array Value) (t : TypeId) (hC : W.heap[gh]? = some (.cells C t (0, 0))) (ho : off < C.size) (hl : gh < lo) (HC' : Hid (C' = C.setIfInBounds off (.int .i64 (nV tag fs)))) :
    Calls Tryd.prog 42 #[.pointer (some ⟨gh, off, none⟩), .int .i64 tag, .func (.func 43) #[.pointer (some ⟨g, 0, none⟩)] #[]] W fun e w' =>
      e = .returned (.bool (nB tag fs)) ∧ w'.heap[gh]? = some (.cells C' t (0, 0)) ∧ Rd w' lo g (tkR tag fs) ∧ Went gh g W w' := by
  have N1 := hidk (rnum_any W lo g fs tag h)
  have hlt := h.lt
  have hgg : gh ≠ g := by obtain ⟨_, _, _, q, _⟩ := h; omega
  rw [HC'.out]
  have HC := hidk hC
  obtain ⟨n, hn⟩ : ∃ n, n = nV tag fs := ⟨_, rfl⟩
  obtain ⟨b, hb⟩ : ∃ n, n = nB tag fs := ⟨_, rfl⟩
  rw [← hn, ← hb] at N1
  rw [← hn, ← hb]
  clear HC' hn hb h hC
  go_enter Tryd.func42, Tryd.ntmps42
  go_wp2_with fail
  refine N1.out.mono ?_
  rintro e w1 ⟨rfl, hg1, hr1⟩
  have HG := hidk hg1
  have HR := hidk hr1
  have HC1 := hidk ((hg1.block _ (heap_lt HC.out) (by intro e; cases e; exact hgg rfl)).trans HC.out)
  clear hg1 hr1 HC
  go_wp2_with (first
    | (refine wpList_put64 rfl 3 (.tmp 17) (.tmp 16) rfl sizeOf3 gh off n rfl rfl C t HC1.out ho ?_; intro w2 HW; try simp only [Act.put, List.setIfInBounds_toArray, List.set_cons_zero, List.set_cons_succ])
    | fail)
  go_ret
  exact ⟨rfl, HW.out.row, HR.out.wrote HW.out (.inl hl), went_of HG.out HW.out hlt⟩
set_option maxHeartbeats 2000000 in
theorem into_dig (W : World) (lo g gh off : Nat) (fs : List (Int × ByteArray)) (tag : Int) (h : Rd W lo g fs) (C C' D : Array Value) (t : TypeId) (hC : W.heap[gh]? = some (.cells C t (0, 0))) (ho : off + 32 ≤ C.size) (hl : gh < lo) (HD : Hid (D = (cellsOf (dV tag fs)).toArray)) (HC' : Hid (C' = (C.toList.take off ++ D.toList ++ C.toList.drop (off + 32)).toArray)) :
    Calls Tryd.prog 44 #[.pointer (some ⟨gh, off, none⟩), .int .i64 tag, .func (.func 45) #[.pointer (some ⟨g, 0, none⟩)] #[]] W fun e w' =>
      e = .returned (.bool (dB tag fs)) ∧ w'.heap[gh]? = some (.cells C' t (0, 0)) ∧ Rd w' lo g (tkR tag fs) ∧ Went gh g W w' := by
  obtain ⟨Z, HZ, HA, HS, H1, H32⟩ := noughts27
  have N1 := hidk (rdig_any W lo g fs tag h D HD)
  have hlt := h.lt
  have HSD : Hid ((Tryd.prog.info? 24).map (·.size) = some D.size) := by show _ = _; rw [size23, HD.out]; simp [cellsOf_length, dV_length]
  have H1D : Hid (D.all (·.oneCell') = true) := by show _ = _; rw [HD.out]; exact cellsOf_all _
  have HZD : Hid (Z.size = D.size) := by show _ = _; rw [H32.out, HD.out]; simp [cellsOf_length, dV_length]
  have HD32 : Hid (D.size = 32) := by show _ = _; rw [HD.out]; simp [cellsOf_length, dV_length]
  have hgg : gh ≠ g := by obtain ⟨_, _, _, q, _⟩ := h; omega
  have HCC : Hid (C' = (C.toList.take off ++ D.toList ++ C.toList.drop (off + D.size)).toArray) := by show _ = _; rw [HD32.out, HC'.out]
  have HOO : Hid (off + D.size ≤ C.size) := by show _ ≤ _; rw [HD32.out]; exact ho
  have HC := hidk hC
  obtain ⟨b, hb⟩ : ∃ n, n = dB tag fs := ⟨_, rfl⟩
  rw [← hb] at N1
  rw [← hb]
  clear HC' hb hC HD HD32 HZ ho
  go_enter Tryd.func44, Tryd.ntmps44
  go_wp2_with fail
  refine N1.out.mono ?_
  rintro e w1 ⟨rfl, hg1, hr1⟩
  have HG := hidk hg1
  have HR := hidk hr1
  have HC1 := hidk ((hg1.block _ (heap_lt HC.out) (by intro e; cases e; exact hgg rfl)).trans HC.out)
  have hs1 := hg1.size
  clear hg1 hr1 h
  go_wp2_with (first
    | (show wpList _ _ _ ({ dst := some 7, op := _, type := _, pos := _, after := _, guard := _ } :: _) _ _; refine wpList_new_var rfl 24 rfl Z HA.out ?_; intro g7 w2 HM7; try simp only [Act.put, List.setIfInBounds_toArray, List.set_cons_zero, List.set_cons_succ])
    | (refine wpList_set_var rfl 24 (.tmp 7) (.tmp 13) rfl g7 D rfl rfl 24 Z HM7.out.row HSD.out HZD.out H1D.out ?_; intro w3 HW7; try simp only [Act.put, List.setIfInBounds_toArray, List.set_cons_zero, List.set_cons_succ])
    | (show wpList _ _ _ ({ dst := some 16, op := _, type := _, pos := _, after := _, guard := _ } :: _) _ _; refine wpList_load_row rfl 24 (.tmp 7) rfl g7 rfl 24 D (0, 0) _ HW7.out.row Tryd.underlying24 rfl HSD.out ?_; try simp only [Act.put, List.setIfInBounds_toArray, List.set_cons_zero, List.set_cons_succ])
    | (refine wpList_set_mid rfl 24 (.tmp 17) (.tmp 16) rfl gh off D rfl rfl t C ((HW7.out.other _ (by have e1 := HM7.out.new; have := heap_lt HC1.out; omega)).trans ((HM7.out.below.block _ (heap_lt HC1.out)).trans HC1.out)) HOO.out HSD.out H1D.out ?_; intro w4 HW; try simp only [Act.put, List.setIfInBounds_toArray, List.set_cons_zero, List.set_cons_succ])
    | fail)
  have h7 : w1.heap.size ≤ g7 := Nat.le_of_eq HM7.out.new.symm
  have HG2 := hidk (grown_wrote (grown_trans HG.out (grown_below HM7.out.below)) HW7.out (Nat.le_trans HG.out.size h7))
  have hb1 := HR.out.lt
  go_ret
  refine ⟨rfl, ?_, ((HR.out.below HM7.out.below).wrote HW7.out (.inr (by omega))).wrote HW.out (.inl hl), went_of HG2.out HW.out hlt⟩
  rw [HCC.out]
  exact HW.out.row
/-- A row that is opened: its fields lie in a new block. -/
def Lie (W : World) (lo : Nat) (a : Option Addr) (cap : Nat) (fs : List (Int × ByteArray)) : Prop :=
  fs.length ≤ cap ∧ cap ≤ 9223372036854775807 ∧ (∀ f ∈ fs, f.2.size ≤ maxLen) ∧
    (fs = [] ∨ ∃ b off, a = some ⟨b, off, none⟩ ∧ lo ≤ b ∧ b < W.heap.size ∧ ∀ (i : Nat) (h : i < fs.length), W.cell? ⟨b, off + i * 2, none⟩ = some (.int .i64 fs[i].1) ∧ W.cell? ⟨b, off + i * 2 + 1, none⟩ = some (.string fs[i].2))
theorem rd_new {W : World} {lo : Nat} {a : Option Addr} {cap : Nat} {fs : List (Int × ByteArray)} (h : Lie W lo a cap fs) (hl : lo ≤ W.heap.size) : Rd (W.alloc (.cells #[.slice a fs.length cap] 65)) lo W.heap.size fs := by
  obtain ⟨h1, h2, h3, h4⟩ := h
  refine ⟨a, cap, heap_alloc_new W _, hl, h1, h2, h3, ?_⟩
  rcases h4 with h4 | ⟨b, off, e, hlo, hlt, hc⟩
  · exact .inl h4
  · have hk := Below.heap_alloc W (.cells #[.slice a fs.length cap] 65) b hlt
    exact .inr ⟨b, off, e, hlo, hlt, fun i hi => ⟨(World.cell?_of_block (a := ⟨b, off + i * 2, none⟩) hk).trans (hc i hi).1, (World.cell?_of_block (a := ⟨b, off + i * 2 + 1, none⟩) hk).trans (hc i hi).2⟩⟩
theorem lie_own {w : World} {B : Nat} {v : Value} {fs : List (Int × ByteArray)} (h : w.ownsRow B 59 2 v fs.length (fcells fs)) (hm : ∀ f ∈ fs, f.2.size ≤ maxLen) : ∃ a cap, v = .slice a fs.length cap ∧ Lie w B a cap fs := by
  obtain ⟨a, cap, rfl, h1, h2, h3, h4, h5⟩ := freads_own h hm
  refine ⟨a, cap, rfl, h2, h3, hm, ?_⟩
  cases fs with
  | nil => exact .inl rfl
  | cons f r =>
    rcases h5 with ⟨rfl, e⟩ | ⟨ad, rfl, e⟩ | ⟨b, off, rfl, hlt, hc⟩
    · simp at h2; omega
    · simp at e
    · refine .inr ⟨b, off, rfl, ?_, hlt, hc⟩
      rcases h.2 with ⟨e, h0⟩ | ⟨g, cap', cur, e, hb, _⟩
      · simp at h0
      · cases e; exact hb
set_option maxHeartbeats 2000000 in
theorem open_any (a : Option Addr) (len cap : Nat) (bs : List UInt8) (w : World) (hR : Reads w a len cap bs) (hl : len ≤ 1000000) :
    Calls Tryd.prog 39 #[.slice a len cap] w fun e w' => ∃ x c, e = .returned (.slice x (readF bs).length c) ∧ Lie w' w.heap.size x c (readF bs) ∧ Below w.heap.size w w' := by
  have R1 : Hid (Calls Tryd.prog 63 #[.slice a len cap] w fun e W' => ∃ x c, e = .returned (.tuple #[.slice x (readF bs).length c, .int .i64 (readE bs)]) ∧ Lie W' w.heap.size x c (readF bs) ∧ Below w.heap.size w W') := by
    refine (read_any a len cap bs w hR hl).mono ?_
    rintro e W' ⟨v, rfl, hown, hb⟩
    obtain ⟨x, c, rfl, hlie⟩ := lie_own hown (readF_small bs)
    exact ⟨x, c, rfl, hlie, hb⟩
  obtain ⟨fs, hfs⟩ : ∃ fs, fs = readF bs := ⟨_, rfl⟩
  obtain ⟨E, hE⟩ : ∃ E : Int, E = readE bs := ⟨_, rfl⟩
  rw [← hfs, ← hE] at R1
  rw [← hfs]
  clear hfs hE hR
  go_enter Tryd.func39, Tryd.ntmps39
  go_wp2_with fail
  refine R1.out.mono ?_
  rintro e w1 ⟨x, c, rfl, hl1, hb1⟩
  have HL := hidk hl1
  have HB := hidk hb1
  clear hl1 hb1
  go_wp2
  go_ret
  exact ⟨x, c, rfl, HL.out, HB.out⟩
end Go.Proofs.YtdnhnjimhbbabaaDoor

/- Heads, signed heads and bytes that came in. -/
namespace Go.Proofs.YtdnhnjimhbbabaaDoor
open Go.RowKit Sums Nums
set_option linter.unusedVariables false
set_option maxRecDepth 100000
theorem reads_arg {w : World} {x : Addr} {len cap : Nat} {zs : List Int} (hl : len ≤ cap) (hm : cap ≤ maxLen) (hz : zs.length = cap)
    (hcell : ∀ i, i < zs.length → w.cell? (x.add i) = some (.int .u8 (zs.getD i 0))) (hwz : ∀ n ∈ zs, (Lit.int .u8 n).wf = true) :
    ∃ l, Reads w (some x) len cap l := by
  have hm' : cap ≤ 9223372036854775807 := by unfold maxLen at hm; omega
  refine ⟨(zs.take len).map fun n => UInt8.ofNat n.toNat, by simp; omega, hl, hm', ?_⟩
  by_cases h0 : len = 0
  · exact .inr (.inl ⟨x, rfl, h0⟩)
  · have hc := hcell 0 (by omega)
    obtain ⟨b, off, spot⟩ := x
    have hspot : spot = none := by simpa [Addr.add] using World.cell?_spot hc
    subst hspot
    refine .inr (.inr ⟨b, off, rfl, ?_, fun i hi => ?_⟩)
    · rw [add_plain] at hc
      exact World.block_lt_of_cell? _ _ hc
    · have hi' : i < zs.length := by simp at hi; omega
      have := hcell i hi'
      rw [add_plain] at this
      rw [this]
      have hb := bounds_u8 (hwz zs[i] (List.getElem_mem hi'))
      simp only [List.getD, List.getElem?_eq_getElem hi', Option.getD_some, List.getElem_map, List.getElem_take]
      congr 2
      rw [UInt8.toNat_ofNat']
      omega
theorem open_bytes {H : Type} {enc : TypeId × Value → H} {W : World} {base : Nat} {held : Bool} {a : Option Addr} {len cap : Nat} {d : DataW H} {p : List MemPlace}
    (h : DataW.Trod enc Tryd.prog W base (fun _ => true) held 35 (.slice a len cap) d p) : ∃ l, Reads W a len cap l := by
  obtain ⟨fuel, hf⟩ := h
  rcases Go.ChangeShapes.open_ints Tryd.underlying35 Tryd.underlying5 (by kernel_rfl) hf with ⟨hcs, _⟩ | ⟨x, l, c, zs, hcs, _, hl, hm, hz, _, hcell, hwz⟩
  · simp [Value.cells] at hcs
    obtain ⟨rfl, rfl, rfl⟩ := hcs
    exact ⟨[], reads_none _⟩
  · simp [Value.cells] at hcs
    obtain ⟨rfl, rfl, rfl⟩ := hcs
    exact reads_arg hl hm (by simpa using hz) hcell hwz
variable {H : Type} {enc : TypeId × Value → H} {W : World} {base : Nat} {sp : Nat → Bool} {held : Bool} {fuel : Nat} {x : DataW H × List MemPlace}
end Go.Proofs.YtdnhnjimhbbabaaDoor
