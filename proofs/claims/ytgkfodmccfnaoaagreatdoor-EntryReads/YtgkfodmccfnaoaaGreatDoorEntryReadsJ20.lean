/- Texts of our own that the row of EntryReads leans on, part 20. -/
import Derived.Test.YtgkfodmccfnaoaaGreatDoorEntryReadsJ15
import Derived.Test.YtgkfodmccfnaoaaGreatDoorEntryReadsJ18
import Derived.Test.YtgkfodmccfnaoaaGreatDoorEntryReadsJ19
import Derived.Lib.BufferWrite
import Derived.OpenShut

/- What the document's Verify and Parts answer. -/
namespace Go.Proofs.YtgkfodmccfnaoaaGreatDoor
open Go.RowKit Sums Nums
set_option linter.unusedVariables false
set_option linter.unusedSimpArgs false
set_option maxRecDepth 100000

end Go.Proofs.YtgkfodmccfnaoaaGreatDoor

/- What the document's Parts answers. -/
namespace Go.Proofs.YtgkfodmccfnaoaaGreatDoor
open Go.RowKit Sums Nums
set_option linter.unusedVariables false
set_option linter.unusedSimpArgs false
set_option maxRecDepth 100000
theorem info9 : (Tryz.prog.info? 9).map (fun i => (i.zero, i.size, i.bytes)) = some (some (.string ⟨#[]⟩), 1, 16) := by kernel_rfl
def tcells (l : List ByteArray) : List Value := l.map Value.string
/-- Texts of the call's own can be read. -/
theorem texts_own {w : World} {B n : Nat} {v : Value} {l : List ByteArray} (h : w.ownsRow B 9 1 v n (tcells l)) : ∃ a c, v = .slice a n c ∧ Texts w a n l := by
  have hl : l.length = n := by have := h.1; simpa [tcells] using this
  rcases h.2 with ⟨rfl, rfl⟩ | ⟨g, cap, cur, rfl, hb, hg, hc, hm, hs, ht⟩
  · exact ⟨none, 0, rfl, hl, .inl rfl⟩
  · refine ⟨some ⟨g, 0, none⟩, cap, rfl, hl, .inr ⟨g, 0, rfl, heap_lt hg, fun i hi => ?_⟩⟩
    rw [Nat.zero_add, cell_of_row w g i cur 9 (0, 0) hg]
    have e : (tcells l)[i]? = cur.toList[i]? := by rw [← ht, List.getElem?_take, if_pos (by omega)]
    unfold tcells at e
    rw [List.getElem?_map, List.getElem?_eq_getElem hi] at e
    simpa using e.symm
theorem tags_take (fs : List (Int × ByteArray)) (n k : Nat) (h : fs.map (·.1) = tagsN n) (hk : k < fs.length) : fs[k].1 = (k : Int) + 1 := by
  have hn : fs.length = n := by rw [← List.length_map (f := (·.1)), h, tagsN_length]
  have e : (fs.map (·.1))[k]? = (tagsN n)[k]? := by rw [h]
  rw [List.getElem?_map, List.getElem?_eq_getElem hk] at e
  unfold tagsN at e
  rw [List.getElem?_map, List.getElem?_range (by omega)] at e
  simpa using e
theorem tags_all (fs : List (Int × ByteArray)) (h : ∀ k (hk : k < fs.length), fs[k].1 = (k : Int) + 1) : fs.map (·.1) = tagsN fs.length := by
  apply List.ext_getElem?
  intro k
  rw [List.getElem?_map]
  by_cases hk : k < fs.length
  · rw [List.getElem?_eq_getElem hk]
    unfold tagsN
    rw [List.getElem?_map, List.getElem?_range hk]
    simpa using h k hk
  · rw [List.getElem?_eq_none (by omega), List.getElem?_eq_none (by rw [tagsN_length]; omega)]
    rfl
/-- What Parts hands back. -/
def PartsR (bs : List UInt8) (n : Nat) (e : Ending) (w' : World) : Prop := match partsO bs n with
  | some l => ∃ x c, e = .returned (.tuple #[.slice x n c, .bool true]) ∧ Texts w' x n l
  | none => e = .returned (.tuple #[.slice none 0 0, .bool false])
theorem partsR_none {bs : List UInt8} {n : Nat} {w' : World} (h : partsO bs n = none) : PartsR bs n (.returned (.tuple #[.slice none 0 0, .bool false])) w' := by unfold PartsR; rw [h]
theorem partsR_some {bs : List UInt8} {n : Nat} {w' : World} {l : List ByteArray} (h : partsO bs n = some l) (x : Option Addr) (c : Nat) (hx : Texts w' x n l) : PartsR bs n (.returned (.tuple #[.slice x n c, .bool true])) w' := by unfold PartsR; rw [h]; exact ⟨x, c, rfl, hx⟩
set_option maxHeartbeats 8000000 in
theorem refParts_any (a : Option Addr) (len cap : Nat) (bs : List UInt8) (n : Nat) (w : World) (hR : Reads w a len cap bs) (hl : len ≤ 1000000) (hn : n ≤ 100) :
    Calls Tryz.prog 19 #[.slice a len cap, .int .i64 n] w fun e w' => PartsR bs n e w' ∧ Below w.heap.size w w' := by
  obtain ⟨fs, Hfs⟩ : ∃ fs, Hid (fs = readF bs) := ⟨readF bs, hidk rfl⟩
  have RD : Hid (Calls Tryz.prog 25 #[.slice a len cap] w fun e W' => ∃ x c, e = .returned (.tuple #[.slice x fs.length c, .int .i64 (readE bs)]) ∧ FReads W'.heap.size W' x fs.length c fs ∧ Below w.heap.size w W') := by
    refine (refRead_any a len cap bs w hR hl).mono ?_
    rintro e W' ⟨v, rfl, ho, hb⟩
    rw [← Hfs.out] at ho
    obtain ⟨x, c, rfl, hx⟩ := freads_own ho (by rw [Hfs.out]; exact readF_small bs)
    exact ⟨x, c, rfl, hx, hb⟩
  have hfl : fs.length ≤ 9223372036854775807 := by
    by_cases h0 : readE bs = 0
    · have := (lay_read h0).2.2
      rw [Hfs.out]; omega
    · rw [Hfs.out]; unfold readF; rw [if_neg h0]; simp
  clear hR
  by_cases hE : readE bs = 0
  · rw [hE] at RD
    by_cases hL : fs.length = n
    · obtain ⟨m, hm⟩ : ∃ m, fs.length = m := ⟨_, rfl⟩
      obtain rfl : m = n := by omega
      have HSOME : Hid (fs.map (·.1) = tagsN m → partsO bs m = some (fs.map (·.2))) := fun h => by unfold partsO; rw [← Hfs.out, if_pos ⟨hE, h⟩]
      have HNONE : Hid (fs.map (·.1) ≠ tagsN m → partsO bs m = none) := fun h => by unfold partsO; rw [← Hfs.out, if_neg (fun x => h x.2)]
      rw [hm] at RD
      have HM := hidk hm
      clear hE hL hm Hfs
      obtain ⟨i9, hi9, hz0, hz1, hz2⟩ := info_parts info9
      have HI := hidk (And.intro hi9 (And.intro hz0 (And.intro hz1 hz2)))
      clear hi9 hz0 hz1 hz2
      go_enter Tryz.func19, Tryz.ntmps19
      go_wp2_with fail
      refine RD.out.mono ?_
      rintro e w1 ⟨x, c, rfl, hF, hb1⟩
      have HF := hidk hF
      have HB1 := hidk hb1
      have hmc : m ≤ c := hF.2.1
      have hcc := hF.2.2.1
      clear hF hb1 RD
      go_wp2
      go_loopw [8, 9] (fun v i wr => ∃ k : Nat, k ≤ m ∧ i = .int .i64 k ∧ Hid (wr.ownsRow w1.heap.size 9 1 v k (tcells ((fs.map (·.2)).take k)) ∧ Below w1.heap.size w1 wr ∧ ∀ j (hj : j < fs.length), j < k → fs[j].1 = (j : Int) + 1)) (fun _ i _ => m - (intOf i).toNat)
      case atStart => exact ⟨0, by omega, rfl, World.ownsRow_nil _ _ _ _, Below.refl _ _, fun j hj h => absurd h (by omega)⟩
      case round =>
        obtain ⟨k, hk, rfl, HO⟩ := hrel
        by_cases hlt : k < m
        · have hkf : k < fs.length := by have := HM.out; omega
          have dk : decide ((k : Int) < (m : Int)) = true := by rw [decide_eq_true_eq]; omega
          have dk' : decide (k < m) = true := by rw [decide_eq_true_eq]; omega
          obtain ⟨tg, Htg⟩ : ∃ t, Hid (t = fs[k].1) := ⟨fs[k].1, hidk rfl⟩
          obtain ⟨da, Hda⟩ : ∃ t, Hid (t = fs[k].2) := ⟨fs[k].2, hidk rfl⟩
          obtain ⟨b, off, rfl, hc1, hc2⟩ : ∃ b off, x = some ⟨b, off, none⟩ ∧ wr.cell? ⟨b, off + k * 2, none⟩ = some (.int .i64 tg) ∧ wr.cell? ⟨b, off + k * 2 + 1, none⟩ = some (.string da) := by
            obtain ⟨_, _, _, _, h5⟩ := HF.out
            rcases h5 with ⟨_, h0⟩ | ⟨_, _, h0⟩ | ⟨b, off, e, hb, hcs⟩
            · omega
            · omega
            · exact ⟨b, off, e, by rw [Htg.out]; exact cell_keep HO.out.2.1 (hcs k hkf).1, by rw [Hda.out]; exact cell_keep HO.out.2.1 (hcs k hkf).2⟩
          have wk := wrap_int ((k : Int) + 1) (by omega) (by omega)
          by_cases ht : tg = (k : Int) + 1
          · have hnt : (tg != (k : Int) + 1) = false := by rw [bne_eq_false_iff_eq]; exact ht
            have HTT := hidk ht
            clear ht
            go_wp2_with (first
              | (at_builtin; refine wpList_append_own _ rfl (.tmp 36) (.tmp 42) 53 rfl w1.heap.size 9 i9 (.string ⟨#[]⟩) 1 16 Tryz.underlying53 HI.out.1 HI.out.2.1 HI.out.2.2.1 HI.out.2.2.2 rfl (by decide) _ _ _ rfl (HO.out.1.alloc _) ⟨wr.heap.size, 0, none⟩ 1 1 [.string da] rfl rfl ?c1 ?c2 ?c3 ?c4 ?c5 ?_)
              | fail)
            case c1 =>
              intro j u hj
              match j, hj with
              | 0, hj => simp at hj; subst hj; simp [Addr.add]
            case c2 => intro u hu; simp at hu; subst hu; rfl
            case c3 => unfold maxLen; omega
            case c4 => omega
            case c5 => simp; exact Nat.le_trans HO.out.2.1.size (by omega)
            intro v3 w3 hown3 hgrow3 _
            have HO3 : Hid (w3.ownsRow w1.heap.size 9 1 v3 (k + 1) (tcells ((fs.map (·.2)).take (k + 1))) ∧ Below w1.heap.size w1 w3 ∧ ∀ j (hj : j < fs.length), j < k + 1 → fs[j].1 = (j : Int) + 1) := by
              refine ⟨?_, (HO.out.2.1.alloc HO.out.2.1.size _).grown hgrow3 (by simp; exact Nat.le_trans HO.out.2.1.size (by omega)) (fun q e => (HO.out.1.lt q e).1), ?_⟩
              · have e1 : tcells ((fs.map (·.2)).take (k + 1)) = tcells ((fs.map (·.2)).take k) ++ [.string da] := by
                  rw [List.take_add_one, List.getElem?_map, List.getElem?_eq_getElem hkf, Hda.out]
                  simp [tcells]
                rw [e1]
                exact hown3
              · intro j hj hjk
                by_cases hjk' : j < k
                · exact HO.out.2.2 j hj hjk'
                · obtain rfl : j = k := by omega
                  rw [← Htg.out]; exact HTT.out
            clear hgrow3 hown3 HO hc1 hc2 hnt
            go_wp2
            go_roundw
            case rel => exact ⟨k + 1, by omega, by go_num, HO3⟩
            case measure => simp [intOf]; omega
          · have hnt : (tg != (k : Int) + 1) = true := by rw [bne_iff_ne]; exact ht
            have HNO : Hid (partsO bs m = none) := HNONE.out (fun h => by
              have := tags_take fs m k h hkf
              rw [← Htg.out] at this
              exact ht this)
            have HBF := hidk (HB1.out.trans (HO.out.2.1.mono HB1.out.size))
            clear ht
            go_wp2
            go_ret2
            exact ⟨partsR_none HNO.out, HBF.out⟩
        · obtain rfl : k = m := by omega
          have HSM : Hid (partsO bs k = some (fs.map (·.2))) := HSOME.out (by
            have := tags_all fs (fun j hj => HO.out.2.2 j hj (by have := HM.out; omega))
            rwa [HM.out] at this)
          have ho := HO.out.1
          rw [List.take_of_length_le (by rw [List.length_map]; have := HM.out; omega)] at ho
          obtain ⟨y, cy, rfl, hy⟩ := texts_own ho
          have HY := hidk hy
          have HBF := hidk (HB1.out.trans (HO.out.2.1.mono HB1.out.size))
          clear ho hy HO
          go_wp2
          go_ret2
          exact ⟨partsR_some HSM.out y cy HY.out, HBF.out⟩
    · have HNO : Hid (partsO bs n = none) := by
        show _ = _
        unfold partsO
        rw [if_neg]
        rintro ⟨_, h⟩
        apply hL
        rw [Hfs.out, ← List.length_map (f := (·.1)), h, tagsN_length]
      have hne : ((fs.length : Int) != (n : Int)) = true := by rw [bne_iff_ne]; omega
      obtain ⟨m, hm⟩ : ∃ m, fs.length = m := ⟨_, rfl⟩
      rw [hm] at RD hne hfl
      clear hL hE Hfs hm
      go_enter Tryz.func19, Tryz.ntmps19
      go_wp2_with fail
      refine RD.out.mono ?_
      rintro e w1 ⟨x, c, rfl, hF, hb1⟩
      have HB1 := hidk hb1
      clear hF hb1 RD
      go_wp2
      go_ret2
      exact ⟨partsR_none HNO.out, HB1.out⟩
  · have HNO : Hid (partsO bs n = none) := by
      show _ = _
      unfold partsO
      rw [if_neg (fun h => hE h.1)]
    obtain ⟨k, hk⟩ : ∃ k, readE bs = k := ⟨_, rfl⟩
    rw [hk] at RD hE
    have hne : ((k : Int) != 0) = true := by rw [bne_iff_ne]; omega
    have hne2 : ¬ k = 0 := hE
    clear hk hE Hfs
    go_enter Tryz.func19, Tryz.ntmps19
    go_wp2_with fail
    refine RD.out.mono ?_
    rintro e w1 ⟨x, c, rfl, hF, hb1⟩
    have HB1 := hidk hb1
    clear hF hb1 RD
    go_wp2
    go_ret2
    exact ⟨partsR_none HNO.out, HB1.out⟩
end Go.Proofs.YtgkfodmccfnaoaaGreatDoor

/- What the document's Get answers. -/
namespace Go.Proofs.YtgkfodmccfnaoaaGreatDoor
open Go.RowKit Sums Nums
set_option linter.unusedVariables false
set_option linter.unusedSimpArgs false
set_option maxRecDepth 100000
theorem builtH (h : HdT) (hd : h.d.length = 32) (D R : Array Value) (HD : Hid (D = (cellsOf h.d).toArray)) (HR : Hid (R = (hcells h).toArray)) : Tryz.prog.built 33 [(0, .int .i64 h.r), (1, .int .i64 h.e), (2, .int .i64 h.s), (3, .agg D), (4, .int .i64 h.t)] = some R := by
  have hi := infoH
  cases hq : Tryz.prog.info? 33 with
  | none => rw [hq] at hi; cases hi
  | some i =>
    rw [hq] at hi
    simp only [Option.map_some, Option.some.injEq, Prod.mk.injEq] at hi
    have hD := size23
    have h3 : (Tryz.prog.info? 3).map (·.size) = some 1 := by kernel_rfl
    cases hqD : Tryz.prog.info? 25 with
    | none => rw [hqD] at hD; cases hD
    | some iD =>
      cases hq3 : Tryz.prog.info? 3 with
      | none => rw [hq3] at h3; cases h3
      | some i3 =>
        rw [hqD] at hD
        rw [hq3] at h3
        simp only [Option.map_some, Option.some.injEq] at hD h3
        unfold Program.built
        simp only [hq, Tryz.underlying33, hi.1, List.mapM_cons, List.mapM_nil, hqD, hq3, hD, h3, Option.map_some, Option.bind_eq_bind, Option.bind_some, Option.pure_def]
        show Instr.fill _ (hcells zeroH).toArray _ = some R
        have hd32 : D.size = 32 := by rw [HD.out]; simp [cellsOf_length, hd]
        refine (fill_val _ 0 0 1 (.int .i64 h.r) #[.int .i64 h.r] _ [] [.int .i64 0] ([.int .i64 0, .int .i64 0] ++ cellsOf (List.replicate 32 0) ++ [.int .i64 0]) _ rfl rfl rfl (by simp [hcells, zeroH]) rfl rfl).trans ?_
        refine (fill_val _ 1 1 1 (.int .i64 h.e) #[.int .i64 h.e] _ [.int .i64 h.r] [.int .i64 0] ([.int .i64 0] ++ cellsOf (List.replicate 32 0) ++ [.int .i64 0]) _ rfl rfl rfl (by simp) rfl rfl).trans ?_
        refine (fill_val _ 2 2 1 (.int .i64 h.s) #[.int .i64 h.s] _ [.int .i64 h.r, .int .i64 h.e] [.int .i64 0] (cellsOf (List.replicate 32 0) ++ [.int .i64 0]) _ rfl rfl rfl (by simp) rfl rfl).trans ?_
        refine (fill_val _ 3 3 32 (.agg D) D _ [.int .i64 h.r, .int .i64 h.e, .int .i64 h.s] (cellsOf (List.replicate 32 0)) [.int .i64 0] _ rfl rfl hd32 (by simp) rfl (by simp [cellsOf_length])).trans ?_
        refine (fill_val _ 4 35 1 (.int .i64 h.t) #[.int .i64 h.t] _ ([.int .i64 h.r, .int .i64 h.e, .int .i64 h.s] ++ D.toList) [.int .i64 0] [] _ rfl rfl rfl (by simp) (by simp [hd32]) rfl).trans ?_
        simp only [Instr.fill, List.append_nil, Option.some.injEq]
        rw [HR.out, HD.out]
        rfl
theorem text_cell {W : World} {b off n : Nat} {l : List ByteArray} (h : Texts W (some ⟨b, off, none⟩) n l) (i : Nat) (hi : i < l.length) : W.cell? ⟨b, off + i, none⟩ = some (.string l[i]) := by
  rcases h.2 with h0 | ⟨b', off', e, _, hc⟩
  · have := h.1; omega
  · cases e; exact hc i hi
theorem texts_wrote {W W' : World} {b off n g : Nat} {l : List ByteArray} {D : Array Value} {t : TypeId} (h : Texts W (some ⟨b, off, none⟩) n l) (hw : Wrote g D t W W') (hg : b < g) : Texts W' (some ⟨b, off, none⟩) n l := by
  refine ⟨h.1, ?_⟩
  rcases h.2 with h0 | ⟨b', off', e, hlt, hc⟩
  · exact .inl h0
  · cases e
    have hb := hw.below 0 W (Below.refl _ _) (Nat.zero_le _)
    exact .inr ⟨b, off, rfl, Nat.lt_of_lt_of_le hlt hb.size, fun i hi => (World.cell?_of_block (a := ⟨b, off + i, none⟩) (hw.other b (by omega))).trans (hc i hi)⟩
def getHO (bs : List UInt8) : HdT := (getO bs).getD zeroH
def getHE (bs : List UInt8) : Int := if (getO bs).isSome then 0 else 70
theorem getHO_digs (bs : List UInt8) : (getHO bs).d.length = 32 := by
  unfold getHO
  cases h : getO bs with
  | none => rfl
  | some x => exact (getO_some h).2.1
set_option maxHeartbeats 16000000 in
theorem refGet7_any (a : Option Addr) (len cap : Nat) (bs : List UInt8) (w : World) (hR : Reads w a len cap bs) (hl : len ≤ 1000000) (R : Array Value) (HR : Hid (R = (hcells (getHO bs)).toArray)) :
    Calls Tryz.prog 70 #[.slice a len cap] w fun e w' => e = .returned (.tuple #[.agg R, .int .i64 (getHE bs)]) ∧ Below w.heap.size w w' := by
  have hnot : ∀ (x : Bool) (w : World), (Op.unary .not (.bool x)).run Tryz.prog w = .ok (.bool (!x)) w := fun _ _ => rfl
  obtain ⟨Z, HZ, HA, HBZ, H36⟩ := noughtsH
  obtain ⟨ZD, HZD, HAD, HSZD, H1ZD, H32D⟩ := noughts27
  have hdR := getHO_digs bs
  have HSR : Hid ((Tryz.prog.info? 33).map (·.size) = some R.size) := by show _ = _; rw [sizeH, HR.out]; simp [hcells_length _ hdR]
  have H1R : Hid (R.all (·.oneCell') = true) := by show _ = _; rw [HR.out]; exact one_cells _
  have HZR : Hid (Z.size = R.size) := by show _ = _; rw [H36.out, HR.out]; simp [hcells_length _ hdR]
  have PA : Hid (∀ W, Below w.heap.size w W → Calls Tryz.prog 19 #[.slice a len cap, .int .i64 5] W fun e w' => PartsR bs 5 e w' ∧ Below W.heap.size W w') := fun W hb => refParts_any a len cap bs 5 W (hR.below hb) hl (by omega)
  clear hR
  cases hp : partsO bs 5 with
  | none =>
    have hg : getO bs = none := by unfold getO; rw [hp]
    have hE : getHE bs = 70 := by unfold getHE; rw [hg]; rfl
    obtain rfl : R = Z := by rw [HR.out, HZ.out]; unfold getHO; rw [hg]; rfl
    have PN : Hid (∀ W, Below w.heap.size w W → Calls Tryz.prog 19 #[.slice a len cap, .int .i64 5] W fun e w' => e = .returned (.tuple #[.slice none 0 0, .bool false]) ∧ Below W.heap.size W w') := fun W hb => (PA.out W hb).mono (by rintro e w' ⟨h1, h2⟩; unfold PartsR at h1; rw [hp] at h1; exact ⟨h1, h2⟩)
    rw [hE]
    clear hE hg hp PA HR HZ HZR hdR
    go_enter Tryz.func70, Tryz.ntmps70
    go_wp2_with (first
      | (show wpList _ _ _ ({ dst := some 2, op := _, type := _, pos := _, after := _, guard := _ } :: _) _ _; refine wpList_new_var rfl 33 rfl R HA.out ?_; intro g2 w1 HM2; try simp only [Act.put, List.setIfInBounds_toArray, List.set_cons_zero, List.set_cons_succ])
      | fail)
    refine (PN.out _ HM2.out.below).mono ?_
    rintro e w2 ⟨rfl, hb2⟩
    have HB2 := hidk (HM2.out.below.trans (hb2.mono HM2.out.below.size))
    have HR2 := hidk ((hb2.block _ (heap_lt HM2.out.row)).trans HM2.out.row)
    have h2 : w.heap.size ≤ g2 := Nat.le_of_eq HM2.out.new.symm
    clear hb2 HM2 PN
    go_wp2_with (first
      | (show wpList _ _ _ ({ dst := some 15, op := _, type := _, pos := _, after := _, guard := _ } :: _) _ _; refine wpList_build_none rfl 33 rfl R HBZ.out ?_; try simp only [Act.put, List.setIfInBounds_toArray, List.set_cons_zero, List.set_cons_succ])
      | (refine wpList_set_var rfl 33 (.tmp 2) (.tmp 15) rfl g2 R rfl rfl 33 R HR2.out HSR.out rfl H1R.out ?_; intro wz HW2; try simp only [Act.put, List.setIfInBounds_toArray, List.set_cons_zero, List.set_cons_succ])
      | fail)
    refine bodyPost_ret (v := .tuple #[.agg R, .int .i64 70]) ?_ rfl ⟨rfl, HW2.out.below w.heap.size w HB2.out h2⟩
    exact results_row_tmp (p := 2) (q := 3) (ty := 33) rfl _ _ g2 33 R (0, 0) _ rfl HW2.out.row Tryz.underlying33 rfl HSR.out
  | some l =>
    have hl5 : l.length = 5 := (row_parts hp).1
    obtain ⟨x1, x2, x3, x4, x5, rfl⟩ : ∃ x1 x2 x3 x4 x5, l = [x1, x2, x3, x4, x5] := by
      match l, hl5 with
      | [x1, x2, x3, x4, x5], _ => exact ⟨x1, x2, x3, x4, x5, rfl⟩
    have hsm : ∀ y ∈ [x1, x2, x3, x4, x5], y.size ≤ maxLen := fun y hy => by
      have : [x1, x2, x3, x4, x5] = (readF bs).map (·.2) := by
        unfold partsO at hp
        split at hp
        · exact (Option.some.inj hp).symm
        · cases hp
      rw [this] at hy
      obtain ⟨f, hf, rfl⟩ := List.mem_map.1 hy
      exact readF_small bs f hf
    have PN : Hid (∀ W, Below w.heap.size w W → Calls Tryz.prog 19 #[.slice a len cap, .int .i64 5] W fun e w' => (∃ x c, e = .returned (.tuple #[.slice x 5 c, .bool true]) ∧ Texts w' x 5 [x1, x2, x3, x4, x5]) ∧ Below W.heap.size W w') := fun W hb => (PA.out W hb).mono (by rintro e w' ⟨h1, h2⟩; unfold PartsR at h1; rw [hp] at h1; exact ⟨h1, h2⟩)
    obtain ⟨D, HD, HSD, H1D, H32DD⟩ := dig_row' (digO x4) (digO_length x4)
    have HZDD : Hid (ZD.size = D.size) := by show _ = _; rw [H32D.out, H32DD.out]
    obtain ⟨bd, hbd⟩ : ∃ b, decide (x4.size = 32) = b := ⟨_, rfl⟩
    have DG : Hid (∀ W, Calls Tryz.prog 20 #[.string x4] W fun e w' => e = .returned (.tuple #[.agg D, .bool bd]) ∧ Below W.heap.size W w') := fun W => by rw [← hbd]; exact refDig_any x4 W (hsm x4 (by simp)) D HD
    have VV : ∀ x, x.size ≤ maxLen → ∀ v, v = valO x.data.toList → Hid (∀ W, Calls Tryz.prog 21 #[.string x] W fun e w' => e = .returned (.int .i64 v) ∧ Below W.heap.size W w') := fun x hx v hv W => (refVal_any x W hx).mono (by rintro e w' ⟨rfl, rfl⟩; exact ⟨by rw [hv], Below.refl _ _⟩)
    obtain ⟨v1, hv1⟩ : ∃ v, v = valO x1.data.toList := ⟨_, rfl⟩
    obtain ⟨v2, hv2⟩ : ∃ v, v = valO x2.data.toList := ⟨_, rfl⟩
    obtain ⟨v3, hv3⟩ : ∃ v, v = valO x3.data.toList := ⟨_, rfl⟩
    obtain ⟨v5, hv5⟩ : ∃ v, v = valO x5.data.toList := ⟨_, rfl⟩
    have V1 := VV x1 (hsm x1 (by simp)) v1 hv1
    have V2 := VV x2 (hsm x2 (by simp)) v2 hv2
    have V3 := VV x3 (hsm x3 (by simp)) v3 hv3
    have V5 := VV x5 (hsm x5 (by simp)) v5 hv5
    obtain ⟨hh, Hhh⟩ : ∃ h : HdT, Hid (h = ⟨v1, v2, v3, digO x4, v5⟩) := ⟨_, hidk rfl⟩
    have hhd : hh.d.length = 32 := by rw [Hhh.out]; exact digO_length x4
    obtain ⟨Q, HQ, HSQ, H1Q, H36Q⟩ := head_row5 hh hhd
    have HZQ : Hid (Z.size = Q.size) := by show _ = _; rw [H36.out, H36Q.out]
    have BH : Hid (∀ W, (Instr.build 33 #[(0, .int .i64 v1), (1, .int .i64 v2), (2, .int .i64 v3), (3, .agg D), (4, .int .i64 v5)]).run Tryz.prog W = .ok (.agg Q) W) := fun W => by
      have := builtH hh hhd D Q (by rw [Hhh.out]; exact HD) HQ
      rw [Hhh.out] at this
      exact run_build W 33 _ Q this
    obtain ⟨br, hbr⟩ : ∃ b, rightH hh = b := ⟨_, rfl⟩
    have RI : Hid (∀ W, Calls Tryz.prog 71 #[.agg Q] W fun e w' => e = .returned (.bool br) ∧ Below W.heap.size W w') := fun W => by rw [← hbr]; exact refRight_any hh hhd W Q HQ
    have hO : (bd = true ∧ br = true → getO bs = some hh) ∧ (¬ (bd = true ∧ br = true) → getO bs = none) := by
      have e4 : x4.size = 32 → headOf x1 x2 x3 x4 x5 = hh := fun h4 => by
        rw [Hhh.out, hv1, hv2, hv3, hv5]
        unfold headOf digO
        rw [if_pos h4]
      have hg : getO bs = if x4.size = 32 ∧ rightH (headOf x1 x2 x3 x4 x5) = true then some (headOf x1 x2 x3 x4 x5) else none := by unfold getO; rw [hp]
      refine ⟨fun hb => ?_, fun hb => ?_⟩
      · have h4 : x4.size = 32 := by rw [hb.1] at hbd; simpa using hbd
        rw [hg, e4 h4, if_pos ⟨h4, by rw [hbr]; exact hb.2⟩]
      · rw [hg, if_neg]
        rintro ⟨h4, hr⟩
        apply hb
        rw [e4 h4] at hr
        exact ⟨by rw [← hbd]; simpa using h4, by rw [← hbr]; exact hr⟩
    have HOK : Hid (bd = true ∧ br = true → R = Q ∧ getHE bs = 0) := fun hb => by
      have := hO.1 hb
      refine ⟨?_, by unfold getHE; rw [this]; rfl⟩
      rw [HR.out, HQ.out]; unfold getHO; rw [this]; rfl
    have HNO : Hid (¬ (bd = true ∧ br = true) → R = Z ∧ getHE bs = 70) := fun hb => by
      have := hO.2 hb
      refine ⟨?_, by unfold getHE; rw [this]; rfl⟩
      rw [HR.out, HZ.out]; unfold getHO; rw [this]; rfl
    obtain ⟨E, hE⟩ : ∃ E, E = getHE bs := ⟨_, rfl⟩
    rw [← hE] at HOK HNO ⊢
    have HSZ : Hid ((Tryz.prog.info? 33).map (·.size) = some Z.size) := by show _ = _; rw [sizeH, H36.out]
    have H1Z : Hid (Z.all (·.oneCell') = true) := by show _ = _; rw [HZ.out]; exact one_cells _
    clear hE hO hbr hbd hp hl5 hsm PA VV HR HZ HD HQ Hhh hv1 hv2 hv3 hv5 hhd hdR
    go_enter Tryz.func70, Tryz.ntmps70
    go_wp2_with (first
      | (show wpList _ _ _ ({ dst := some 2, op := _, type := _, pos := _, after := _, guard := _ } :: _) _ _; refine wpList_new_var rfl 33 rfl Z HA.out ?_; intro g2 w1 HM2; try simp only [Act.put, List.setIfInBounds_toArray, List.set_cons_zero, List.set_cons_succ])
      | fail)
    refine (PN.out _ HM2.out.below).mono ?_
    rintro e w2 ⟨⟨y, c, rfl, hy⟩, hb2⟩
    obtain ⟨b, off, rfl⟩ : ∃ b off, y = some ⟨b, off, none⟩ := by
      rcases hy.2 with h0 | ⟨b, off, e, _⟩
      · cases h0
      · exact ⟨b, off, e⟩
    have HY := hidk hy
    have HB2 := hidk (HM2.out.below.trans (hb2.mono HM2.out.below.size))
    have HR2 := hidk ((hb2.block _ (heap_lt HM2.out.row)).trans HM2.out.row)
    have h2 : w.heap.size ≤ g2 := Nat.le_of_eq HM2.out.new.symm
    have hc3 := text_cell hy 3 (by simp)
    simp only [List.getElem_cons_zero, List.getElem_cons_succ] at hc3
    clear hb2 HM2 PN hy
    go_wp2_with fail
    refine (DG.out _).mono ?_
    rintro e w3 ⟨rfl, hb3⟩
    have HB3 := hidk (HB2.out.trans (hb3.mono HB2.out.size))
    have HR23 := hidk ((hb3.block _ (heap_lt HR2.out)).trans HR2.out)
    have HY3 := hidk (HY.out.keep hb3)
    clear hb3 HB2 HR2 HY DG hc3
    go_wp2_with (first
      | (show wpList _ _ _ ({ dst := some 6, op := _, type := _, pos := _, after := _, guard := _ } :: _) _ _; refine wpList_new_var rfl 25 rfl ZD HAD.out ?_; intro g6 w4 HM6; try simp only [Act.put, List.setIfInBounds_toArray, List.set_cons_zero, List.set_cons_succ])
      | (refine wpList_set_var rfl 25 (.tmp 6) (.tmp 21) rfl g6 D rfl rfl 25 ZD HM6.out.row HSD.out HZDD.out H1D.out ?_; intro w5 HW6; try simp only [Act.put, List.setIfInBounds_toArray, List.set_cons_zero, List.set_cons_succ])
      | fail)
    have h6 : g2 < g6 := by rw [HM6.out.new]; exact heap_lt HR23.out
    have HX5 := hidk (HW6.out.below w3.heap.size w3 HM6.out.below (Nat.le_of_eq HM6.out.new.symm))
    have HBc := hidk (HB3.out.trans (HX5.out.mono HB3.out.size)).drew
    have HR25 := hidk ((HX5.out.block _ (heap_lt HR23.out)).trans HR23.out)
    have HY5 := hidk (HY3.out.keep HX5.out)
    have HR65 := hidk HW6.out.row
    have HTB : Hid (b < g6) := by
      show b < g6
      rcases HY3.out.2 with h0 | ⟨b', off', e, hlt, _⟩
      · cases h0
      · cases e; rw [HM6.out.new]; exact hlt
    clear HM6 HW6 HX5 HB3 HR23 HY3
    refine wp_region_held_drew (S := (fun W => Texts W (some ⟨b, off, none⟩) 5 [x1, x2, x3, x4, x5] ∧ W.heap[g6]? = some (.cells D 25 (0, 0)) ∧ W.heap[g2]? = some (.cells Z 33 (0, 0)))) (by kernel_rfl) ⟨HY5.out.keep (Below.refl _ _).drew, HR65.out, HR25.out⟩ (fun hHeld => ?_)
    refine wpAnyH_take (i := 0) (oi := { dst := some 23, op := Op.move (Operand.tmp 4), type := 53, pos := "ref.go:92", after := #[], guard := none }) (v := .slice (some ⟨b, off, none⟩) 5 c) rfl (by kernel_rfl) (by kernel_rfl) (by kernel_rfl) (fun _ _ _ h => h) (Or.inl ⟨by rfl, by intro W hSw; go_simp⟩) hHeld ?_
    try simp only [Act.put, List.setIfInBounds_toArray, List.set_cons_zero, List.set_cons_succ]
    refine wpAnyH_take (i := 1) (oi := { dst := some 24, op := Op.indexAddr 53 (Operand.tmp 23) (Operand.const (Value.int IntKind.i64 0)), type := 0, pos := "ref.go:92", after := #[{ on := 0, ground := Ground.data }], guard := none }) (v := .pointer (some ⟨b, off, none⟩)) rfl (by kernel_rfl) (by kernel_rfl) (by kernel_rfl) (fun _ _ _ h => h) (Or.inl ⟨by rfl, by intro W hSw; go_simp⟩) hHeld ?_
    try simp only [Act.put, List.setIfInBounds_toArray, List.set_cons_zero, List.set_cons_succ]
    refine wpAnyH_take (i := 2) (oi := { dst := some 25, op := Op.load 9 (Operand.tmp 24), type := 9, pos := "ref.go:92", after := #[{ on := 1, ground := Ground.data }], guard := none }) (v := .string x1) rfl (by kernel_rfl) (by kernel_rfl) (by kernel_rfl) (fun _ _ _ h => h) (Or.inl ⟨by rfl, by intro W hSw; have h1 := text_cell hSw.1 0 (by simp); simp only [List.getElem_cons_zero, List.getElem_cons_succ, Nat.add_zero] at h1; go_simp⟩) hHeld ?_
    try simp only [Act.put, List.setIfInBounds_toArray, List.set_cons_zero, List.set_cons_succ]
    refine wpAnyH_take (i := 4) (oi := { dst := some 27, op := Op.move (Operand.tmp 4), type := 53, pos := "ref.go:92", after := #[], guard := none }) (v := .slice (some ⟨b, off, none⟩) 5 c) rfl (by kernel_rfl) (by kernel_rfl) (by kernel_rfl) (fun _ _ _ h => h) (Or.inl ⟨by rfl, by intro W hSw; go_simp⟩) hHeld ?_
    try simp only [Act.put, List.setIfInBounds_toArray, List.set_cons_zero, List.set_cons_succ]
    refine wpAnyH_take (i := 5) (oi := { dst := some 28, op := Op.indexAddr 53 (Operand.tmp 27) (Operand.const (Value.int IntKind.i64 1)), type := 0, pos := "ref.go:92", after := #[{ on := 4, ground := Ground.data }], guard := none }) (v := .pointer (some ⟨b, off + 1, none⟩)) rfl (by kernel_rfl) (by kernel_rfl) (by kernel_rfl) (fun _ _ _ h => h) (Or.inl ⟨by rfl, by intro W hSw; go_simp⟩) hHeld ?_
    try simp only [Act.put, List.setIfInBounds_toArray, List.set_cons_zero, List.set_cons_succ]
    refine wpAnyH_take (i := 6) (oi := { dst := some 29, op := Op.load 9 (Operand.tmp 28), type := 9, pos := "ref.go:92", after := #[{ on := 5, ground := Ground.data }], guard := none }) (v := .string x2) rfl (by kernel_rfl) (by kernel_rfl) (by kernel_rfl) (fun _ _ _ h => h) (Or.inl ⟨by rfl, by intro W hSw; have h1 := text_cell hSw.1 1 (by simp); simp only [List.getElem_cons_zero, List.getElem_cons_succ, Nat.add_zero] at h1; go_simp⟩) hHeld ?_
    try simp only [Act.put, List.setIfInBounds_toArray, List.set_cons_zero, List.set_cons_succ]
    refine wpAnyH_take (i := 8) (oi := { dst := some 31, op := Op.move (Operand.tmp 4), type := 53, pos := "ref.go:92", after := #[], guard := none }) (v := .slice (some ⟨b, off, none⟩) 5 c) rfl (by kernel_rfl) (by kernel_rfl) (by kernel_rfl) (fun _ _ _ h => h) (Or.inl ⟨by rfl, by intro W hSw; go_simp⟩) hHeld ?_
    try simp only [Act.put, List.setIfInBounds_toArray, List.set_cons_zero, List.set_cons_succ]
    refine wpAnyH_take (i := 9) (oi := { dst := some 32, op := Op.indexAddr 53 (Operand.tmp 31) (Operand.const (Value.int IntKind.i64 2)), type := 0, pos := "ref.go:92", after := #[{ on := 8, ground := Ground.data }], guard := none }) (v := .pointer (some ⟨b, off + 2, none⟩)) rfl (by kernel_rfl) (by kernel_rfl) (by kernel_rfl) (fun _ _ _ h => h) (Or.inl ⟨by rfl, by intro W hSw; go_simp⟩) hHeld ?_
    try simp only [Act.put, List.setIfInBounds_toArray, List.set_cons_zero, List.set_cons_succ]
    refine wpAnyH_take (i := 10) (oi := { dst := some 33, op := Op.load 9 (Operand.tmp 32), type := 9, pos := "ref.go:92", after := #[{ on := 9, ground := Ground.data }], guard := none }) (v := .string x3) rfl (by kernel_rfl) (by kernel_rfl) (by kernel_rfl) (fun _ _ _ h => h) (Or.inl ⟨by rfl, by intro W hSw; have h1 := text_cell hSw.1 2 (by simp); simp only [List.getElem_cons_zero, List.getElem_cons_succ, Nat.add_zero] at h1; go_simp⟩) hHeld ?_
    try simp only [Act.put, List.setIfInBounds_toArray, List.set_cons_zero, List.set_cons_succ]
    refine wpAnyH_take (i := 12) (oi := { dst := some 35, op := Op.load 25 (Operand.tmp 6), type := 25, pos := "ref.go:92", after := #[], guard := none }) (v := .agg D) rfl (by kernel_rfl) (by kernel_rfl) (by kernel_rfl) (fun _ _ _ h => h) (yieldsIf_row (by rfl) 25 (.tmp 6) rfl g6 rfl 25 D (0, 0) _ (fun _ h => h.2.1) Tryz.underlying25 rfl HSD.out) hHeld ?_
    try simp only [Act.put, List.setIfInBounds_toArray, List.set_cons_zero, List.set_cons_succ]
    refine wpAnyH_take (i := 13) (oi := { dst := some 36, op := Op.move (Operand.tmp 4), type := 53, pos := "ref.go:92", after := #[], guard := none }) (v := .slice (some ⟨b, off, none⟩) 5 c) rfl (by kernel_rfl) (by kernel_rfl) (by kernel_rfl) (fun _ _ _ h => h) (Or.inl ⟨by rfl, by intro W hSw; go_simp⟩) hHeld ?_
    try simp only [Act.put, List.setIfInBounds_toArray, List.set_cons_zero, List.set_cons_succ]
    refine wpAnyH_take (i := 14) (oi := { dst := some 37, op := Op.indexAddr 53 (Operand.tmp 36) (Operand.const (Value.int IntKind.i64 4)), type := 0, pos := "ref.go:92", after := #[{ on := 13, ground := Ground.data }], guard := none }) (v := .pointer (some ⟨b, off + 4, none⟩)) rfl (by kernel_rfl) (by kernel_rfl) (by kernel_rfl) (fun _ _ _ h => h) (Or.inl ⟨by rfl, by intro W hSw; go_simp⟩) hHeld ?_
    try simp only [Act.put, List.setIfInBounds_toArray, List.set_cons_zero, List.set_cons_succ]
    refine wpAnyH_take (i := 15) (oi := { dst := some 38, op := Op.load 9 (Operand.tmp 37), type := 9, pos := "ref.go:92", after := #[{ on := 14, ground := Ground.data }], guard := none }) (v := .string x5) rfl (by kernel_rfl) (by kernel_rfl) (by kernel_rfl) (fun _ _ _ h => h) (Or.inl ⟨by rfl, by intro W hSw; have h1 := text_cell hSw.1 4 (by simp); simp only [List.getElem_cons_zero, List.getElem_cons_succ, Nat.add_zero] at h1; go_simp⟩) hHeld ?_
    try simp only [Act.put, List.setIfInBounds_toArray, List.set_cons_zero, List.set_cons_succ]
    refine wpAnyH_ready (rs := [3, 18]) (by kernel_rfl) (by simp) ?_
    refine (AllReadyH.cons (o := { dst := some 26, op := Op.call { callee := Callee.value (Operand.func 21), args := #[Operand.tmp 25], argTypes := #[9] }, type := 3, pos := "ref.go:92", after := #[{ on := 2, ground := Ground.data }], guard := none }) rfl (fun K hK => ?_) (AllReadyH.cons (o := { dst := some 7, op := Op.alloc 33, type := 0, pos := "ref.go:92", after := #[], guard := none }) rfl (fun K hK => ?_) AllReadyH.nil))
    · go_simp
      refine (V1.out _).mono ?_
      rintro e w3 ⟨rfl, hb3⟩
      replace HBc := hidk (HBc.out.trans (hb3.mono HBc.out.size))
      try replace HR7 := hidk ((hb3.block _ (heap_lt HR7.out)).trans HR7.out)
      go_wp2_with fail
      refine hK.out _ _ ⟨hHeld.1.keep hb3, (hb3.block _ (heap_lt hHeld.2.1)).trans hHeld.2.1, (hb3.block _ (heap_lt hHeld.2.2)).trans hHeld.2.2⟩ (fun hHeld => ?_)
      clear hK K
      try simp only [Act.put, List.setIfInBounds_toArray, List.set_cons_zero, List.set_cons_succ]
      refine wpAnyH_ready (rs := [7, 18]) (by kernel_rfl) (by simp) ?_
      refine (AllReadyH.cons (o := { dst := some 30, op := Op.call { callee := Callee.value (Operand.func 21), args := #[Operand.tmp 29], argTypes := #[9] }, type := 3, pos := "ref.go:92", after := #[{ on := 6, ground := Ground.data }, { on := 3, ground := Ground.chain }], guard := none }) rfl (fun K hK => ?_) (AllReadyH.cons (o := { dst := some 7, op := Op.alloc 33, type := 0, pos := "ref.go:92", after := #[], guard := none }) rfl (fun K hK => ?_) AllReadyH.nil))
      · go_simp
        refine (V2.out _).mono ?_
        rintro e w7 ⟨rfl, hb7⟩
        replace HBc := hidk (HBc.out.trans (hb7.mono HBc.out.size))
        try replace HR7 := hidk ((hb7.block _ (heap_lt HR7.out)).trans HR7.out)
        go_wp2_with fail
        refine hK.out _ _ ⟨hHeld.1.keep hb7, (hb7.block _ (heap_lt hHeld.2.1)).trans hHeld.2.1, (hb7.block _ (heap_lt hHeld.2.2)).trans hHeld.2.2⟩ (fun hHeld => ?_)
        clear hK K
        try simp only [Act.put, List.setIfInBounds_toArray, List.set_cons_zero, List.set_cons_succ]
        refine wpAnyH_ready (rs := [11, 18]) (by kernel_rfl) (by simp) ?_
        refine (AllReadyH.cons (o := { dst := some 34, op := Op.call { callee := Callee.value (Operand.func 21), args := #[Operand.tmp 33], argTypes := #[9] }, type := 3, pos := "ref.go:92", after := #[{ on := 10, ground := Ground.data }, { on := 7, ground := Ground.chain }], guard := none }) rfl (fun K hK => ?_) (AllReadyH.cons (o := { dst := some 7, op := Op.alloc 33, type := 0, pos := "ref.go:92", after := #[], guard := none }) rfl (fun K hK => ?_) AllReadyH.nil))
        · go_simp
          refine (V3.out _).mono ?_
          rintro e w11 ⟨rfl, hb11⟩
          replace HBc := hidk (HBc.out.trans (hb11.mono HBc.out.size))
          try replace HR7 := hidk ((hb11.block _ (heap_lt HR7.out)).trans HR7.out)
          go_wp2_with fail
          refine hK.out _ _ ⟨hHeld.1.keep hb11, (hb11.block _ (heap_lt hHeld.2.1)).trans hHeld.2.1, (hb11.block _ (heap_lt hHeld.2.2)).trans hHeld.2.2⟩ (fun hHeld => ?_)
          clear hK K
          try simp only [Act.put, List.setIfInBounds_toArray, List.set_cons_zero, List.set_cons_succ]
          refine wpAnyH_ready (rs := [16, 18]) (by kernel_rfl) (by simp) ?_
          refine (AllReadyH.cons (o := { dst := some 39, op := Op.call { callee := Callee.value (Operand.func 21), args := #[Operand.tmp 38], argTypes := #[9] }, type := 3, pos := "ref.go:92", after := #[{ on := 15, ground := Ground.data }, { on := 11, ground := Ground.chain }], guard := none }) rfl (fun K hK => ?_) (AllReadyH.cons (o := { dst := some 7, op := Op.alloc 33, type := 0, pos := "ref.go:92", after := #[], guard := none }) rfl (fun K hK => ?_) AllReadyH.nil))
          · go_simp
            refine (V5.out _).mono ?_
            rintro e w16 ⟨rfl, hb16⟩
            replace HBc := hidk (HBc.out.trans (hb16.mono HBc.out.size))
            try replace HR7 := hidk ((hb16.block _ (heap_lt HR7.out)).trans HR7.out)
            go_wp2_with fail
            refine hK.out _ _ ⟨hHeld.1.keep hb16, (hb16.block _ (heap_lt hHeld.2.1)).trans hHeld.2.1, (hb16.block _ (heap_lt hHeld.2.2)).trans hHeld.2.2⟩ (fun hHeld => ?_)
            clear hK K
            try simp only [Act.put, List.setIfInBounds_toArray, List.set_cons_zero, List.set_cons_succ]
            refine wpAnyH_take (i := 17) (oi := { dst := some 40, op := Op.build 33 #[(0, Operand.tmp 26), (1, Operand.tmp 30), (2, Operand.tmp 34), (3, Operand.tmp 35), (4, Operand.tmp 39)], type := 33, pos := "ref.go:92", after := #[{ on := 3, ground := Ground.data }, { on := 7, ground := Ground.data }, { on := 11, ground := Ground.data }, { on := 12, ground := Ground.data }, { on := 16, ground := Ground.data }], guard := none }) (v := .agg Q) rfl (by kernel_rfl) (by kernel_rfl) (by kernel_rfl) (fun _ _ _ h => h) (yieldsIf_build (by rfl) 33 _ rfl #[(0, .int .i64 v1), (1, .int .i64 v2), (2, .int .i64 v3), (3, .agg D), (4, .int .i64 v5)] rfl (.agg Q) BH.out) hHeld ?_
            try simp only [Act.put, List.setIfInBounds_toArray, List.set_cons_zero, List.set_cons_succ]
            refine wpAnyH_ready (rs := [18]) (by kernel_rfl) (by simp) ?_
            refine (AllReadyH.cons (o := { dst := some 7, op := Op.alloc 33, type := 0, pos := "ref.go:92", after := #[], guard := none }) rfl (fun K hK => ?_) AllReadyH.nil)
            refine step_new_var (by rfl) 33 rfl Z HA.out ?_
            intro g7 wg HM7
            have HR7 := hidk HM7.out.row
            have HG7 : Hid (g6 < g7) := (by show g6 < g7; rw [HM7.out.new]; exact heap_lt hHeld.2.1)
            replace HBc := hidk (HBc.out.trans (HM7.out.below.mono HBc.out.size))
            refine hK.out _ _ ⟨hHeld.1.keep HM7.out.below, (HM7.out.below.block _ (heap_lt hHeld.2.1)).trans hHeld.2.1, (HM7.out.below.block _ (heap_lt hHeld.2.2)).trans hHeld.2.2⟩ (fun hHeld => ?_)
            clear hK K
            try simp only [Act.put, List.setIfInBounds_toArray, List.set_cons_zero, List.set_cons_succ]
            refine wpAnyH_ready (rs := [19]) (by kernel_rfl) (by simp) ?_
            refine (AllReadyH.cons (o := { dst := none, op := Op.store 33 (Operand.tmp 7) (Operand.tmp 40), type := 0, pos := "ref.go:92", after := #[{ on := 18, ground := Ground.data }, { on := 17, ground := Ground.data }, { on := 16, ground := Ground.chain }, { on := 0, ground := Ground.phase }, { on := 1, ground := Ground.phase }, { on := 2, ground := Ground.phase }, { on := 3, ground := Ground.phase }, { on := 4, ground := Ground.phase }, { on := 5, ground := Ground.phase }, { on := 6, ground := Ground.phase }, { on := 7, ground := Ground.phase }, { on := 8, ground := Ground.phase }, { on := 9, ground := Ground.phase }, { on := 10, ground := Ground.phase }, { on := 11, ground := Ground.phase }, { on := 12, ground := Ground.phase }, { on := 13, ground := Ground.phase }, { on := 14, ground := Ground.phase }, { on := 15, ground := Ground.phase }, { on := 16, ground := Ground.phase }, { on := 17, ground := Ground.phase }, { on := 18, ground := Ground.phase }], guard := none }) rfl (fun K hK => ?_) AllReadyH.nil)
            refine step_set_var (by rfl) 33 (.tmp 7) (.tmp 40) rfl g7 Q rfl rfl 33 Z HR7.out HSQ.out HZQ.out H1Q.out ?_
            intro wz HW7
            refine hK.out _ _ ⟨texts_wrote hHeld.1 HW7.out (by have := HG7.out; have := HTB.out; omega), (HW7.out.other _ (by have := HG7.out; omega)).trans hHeld.2.1, (HW7.out.other _ (by have := HG7.out; omega)).trans hHeld.2.2⟩ (fun hHeld => ?_)
            clear hK K
            try simp only [Act.put, List.setIfInBounds_toArray, List.set_cons_zero, List.set_cons_succ]
            refine wpAnyH_done (by kernel_rfl) ?_ _
            have h7 : g6 < g7 := HG7.out
            have HR7z := hidk HW7.out.row
            have HR2z := hidk hHeld.2.2
            have HBz := hidk (HW7.out.below w.heap.size w HBc.out (by omega))
            clear HW7 HBc hHeld HR7
            cases bd
            · obtain ⟨rfl, rfl⟩ := HNO.out (by simp)
              go_wp2_with (first
                | (show wpList _ _ _ ({ dst := some 48, op := _, type := _, pos := _, after := _, guard := _ } :: _) _ _; refine wpList_build_none rfl 33 rfl R HBZ.out ?_; try simp only [Act.put, List.setIfInBounds_toArray, List.set_cons_zero, List.set_cons_succ])
                | (refine wpList_set_var rfl 33 (.tmp 2) (.tmp 48) rfl g2 R rfl rfl 33 R HR2z.out HSZ.out rfl H1Z.out ?_; intro wz HW2; try simp only [Act.put, List.setIfInBounds_toArray, List.set_cons_zero, List.set_cons_succ])
                | fail)
              refine bodyPost_ret (v := .tuple #[.agg R, .int .i64 70]) ?_ rfl ⟨rfl, HW2.out.below w.heap.size w HBz.out h2⟩
              exact results_row_tmp (p := 2) (q := 3) (ty := 33) rfl _ _ g2 33 R (0, 0) _ rfl HW2.out.row Tryz.underlying33 rfl HSZ.out
            · go_wp2_with (first
                | (show wpList _ _ _ ({ dst := some 44, op := _, type := _, pos := _, after := _, guard := _ } :: _) _ _; refine wpList_load_row_w (by rfl) 33 (.tmp 7) rfl g7 rfl 33 Q (0, 0) _ HR7z.out Tryz.underlying33 rfl HSQ.out ?_; try simp only [Act.put, List.setIfInBounds_toArray, List.set_cons_zero, List.set_cons_succ])
                | fail)
              refine (RI.out _).mono ?_
              rintro e wr ⟨rfl, hbr⟩
              have HBr := hidk (HBz.out.trans (hbr.mono HBz.out.size))
              have HR7r := hidk ((hbr.block _ (heap_lt HR7z.out)).trans HR7z.out)
              have HR2r := hidk ((hbr.block _ (heap_lt HR2z.out)).trans HR2z.out)
              clear hbr HBz HR7z HR2z RI
              cases br
              · obtain ⟨rfl, rfl⟩ := HNO.out (by simp)
                go_wp2_with (first
                  | (show wpList _ _ _ ({ dst := some 48, op := _, type := _, pos := _, after := _, guard := _ } :: _) _ _; refine wpList_build_none rfl 33 rfl R HBZ.out ?_; try simp only [Act.put, List.setIfInBounds_toArray, List.set_cons_zero, List.set_cons_succ])
                  | (refine wpList_set_var rfl 33 (.tmp 2) (.tmp 48) rfl g2 R rfl rfl 33 R HR2r.out HSZ.out rfl H1Z.out ?_; intro wz HW2; try simp only [Act.put, List.setIfInBounds_toArray, List.set_cons_zero, List.set_cons_succ])
                  | fail)
                refine bodyPost_ret (v := .tuple #[.agg R, .int .i64 70]) ?_ rfl ⟨rfl, HW2.out.below w.heap.size w HBr.out h2⟩
                exact results_row_tmp (p := 2) (q := 3) (ty := 33) rfl _ _ g2 33 R (0, 0) _ rfl HW2.out.row Tryz.underlying33 rfl HSZ.out
              · obtain ⟨rfl, rfl⟩ := HOK.out (by simp)
                go_wp2_with (first
                  | (show wpList _ _ _ ({ dst := some 49, op := _, type := _, pos := _, after := _, guard := _ } :: _) _ _; refine wpList_load_row rfl 33 (.tmp 7) rfl g7 rfl 33 R (0, 0) _ HR7r.out Tryz.underlying33 rfl HSQ.out ?_; try simp only [Act.put, List.setIfInBounds_toArray, List.set_cons_zero, List.set_cons_succ])
                  | (refine wpList_set_var rfl 33 (.tmp 2) (.tmp 49) rfl g2 R rfl rfl 33 Z HR2r.out HSR.out HZR.out H1R.out ?_; intro wz HW2; try simp only [Act.put, List.setIfInBounds_toArray, List.set_cons_zero, List.set_cons_succ])
                  | fail)
                refine bodyPost_ret (v := .tuple #[.agg R, .int .i64 0]) ?_ rfl ⟨rfl, HW2.out.below w.heap.size w HBr.out h2⟩
                exact results_row_tmp (p := 2) (q := 3) (ty := 33) rfl _ _ g2 33 R (0, 0) _ rfl HW2.out.row Tryz.underlying33 rfl HSR.out
          · refine step_new_var (by rfl) 33 rfl Z HA.out ?_
            intro g7 wg HM7
            have HR7 := hidk HM7.out.row
            have HG7 : Hid (g6 < g7) := (by show g6 < g7; rw [HM7.out.new]; exact heap_lt hHeld.2.1)
            replace HBc := hidk (HBc.out.trans (HM7.out.below.mono HBc.out.size))
            refine hK.out _ _ ⟨hHeld.1.keep HM7.out.below, (HM7.out.below.block _ (heap_lt hHeld.2.1)).trans hHeld.2.1, (HM7.out.below.block _ (heap_lt hHeld.2.2)).trans hHeld.2.2⟩ (fun hHeld => ?_)
            clear hK K
            try simp only [Act.put, List.setIfInBounds_toArray, List.set_cons_zero, List.set_cons_succ]
            refine wpAnyH_ready (rs := [16]) (by kernel_rfl) (by simp) ?_
            refine (AllReadyH.cons (o := { dst := some 39, op := Op.call { callee := Callee.value (Operand.func 21), args := #[Operand.tmp 38], argTypes := #[9] }, type := 3, pos := "ref.go:92", after := #[{ on := 15, ground := Ground.data }, { on := 11, ground := Ground.chain }], guard := none }) rfl (fun K hK => ?_) AllReadyH.nil)
            go_simp
            refine (V5.out _).mono ?_
            rintro e w16 ⟨rfl, hb16⟩
            replace HBc := hidk (HBc.out.trans (hb16.mono HBc.out.size))
            try replace HR7 := hidk ((hb16.block _ (heap_lt HR7.out)).trans HR7.out)
            go_wp2_with fail
            refine hK.out _ _ ⟨hHeld.1.keep hb16, (hb16.block _ (heap_lt hHeld.2.1)).trans hHeld.2.1, (hb16.block _ (heap_lt hHeld.2.2)).trans hHeld.2.2⟩ (fun hHeld => ?_)
            clear hK K
            try simp only [Act.put, List.setIfInBounds_toArray, List.set_cons_zero, List.set_cons_succ]
            refine wpAnyH_take (i := 17) (oi := { dst := some 40, op := Op.build 33 #[(0, Operand.tmp 26), (1, Operand.tmp 30), (2, Operand.tmp 34), (3, Operand.tmp 35), (4, Operand.tmp 39)], type := 33, pos := "ref.go:92", after := #[{ on := 3, ground := Ground.data }, { on := 7, ground := Ground.data }, { on := 11, ground := Ground.data }, { on := 12, ground := Ground.data }, { on := 16, ground := Ground.data }], guard := none }) (v := .agg Q) rfl (by kernel_rfl) (by kernel_rfl) (by kernel_rfl) (fun _ _ _ h => h) (yieldsIf_build (by rfl) 33 _ rfl #[(0, .int .i64 v1), (1, .int .i64 v2), (2, .int .i64 v3), (3, .agg D), (4, .int .i64 v5)] rfl (.agg Q) BH.out) hHeld ?_
            try simp only [Act.put, List.setIfInBounds_toArray, List.set_cons_zero, List.set_cons_succ]
            refine wpAnyH_ready (rs := [19]) (by kernel_rfl) (by simp) ?_
            refine (AllReadyH.cons (o := { dst := none, op := Op.store 33 (Operand.tmp 7) (Operand.tmp 40), type := 0, pos := "ref.go:92", after := #[{ on := 18, ground := Ground.data }, { on := 17, ground := Ground.data }, { on := 16, ground := Ground.chain }, { on := 0, ground := Ground.phase }, { on := 1, ground := Ground.phase }, { on := 2, ground := Ground.phase }, { on := 3, ground := Ground.phase }, { on := 4, ground := Ground.phase }, { on := 5, ground := Ground.phase }, { on := 6, ground := Ground.phase }, { on := 7, ground := Ground.phase }, { on := 8, ground := Ground.phase }, { on := 9, ground := Ground.phase }, { on := 10, ground := Ground.phase }, { on := 11, ground := Ground.phase }, { on := 12, ground := Ground.phase }, { on := 13, ground := Ground.phase }, { on := 14, ground := Ground.phase }, { on := 15, ground := Ground.phase }, { on := 16, ground := Ground.phase }, { on := 17, ground := Ground.phase }, { on := 18, ground := Ground.phase }], guard := none }) rfl (fun K hK => ?_) AllReadyH.nil)
            refine step_set_var (by rfl) 33 (.tmp 7) (.tmp 40) rfl g7 Q rfl rfl 33 Z HR7.out HSQ.out HZQ.out H1Q.out ?_
            intro wz HW7
            refine hK.out _ _ ⟨texts_wrote hHeld.1 HW7.out (by have := HG7.out; have := HTB.out; omega), (HW7.out.other _ (by have := HG7.out; omega)).trans hHeld.2.1, (HW7.out.other _ (by have := HG7.out; omega)).trans hHeld.2.2⟩ (fun hHeld => ?_)
            clear hK K
            try simp only [Act.put, List.setIfInBounds_toArray, List.set_cons_zero, List.set_cons_succ]
            refine wpAnyH_done (by kernel_rfl) ?_ _
            have h7 : g6 < g7 := HG7.out
            have HR7z := hidk HW7.out.row
            have HR2z := hidk hHeld.2.2
            have HBz := hidk (HW7.out.below w.heap.size w HBc.out (by omega))
            clear HW7 HBc hHeld HR7
            cases bd
            · obtain ⟨rfl, rfl⟩ := HNO.out (by simp)
              go_wp2_with (first
                | (show wpList _ _ _ ({ dst := some 48, op := _, type := _, pos := _, after := _, guard := _ } :: _) _ _; refine wpList_build_none rfl 33 rfl R HBZ.out ?_; try simp only [Act.put, List.setIfInBounds_toArray, List.set_cons_zero, List.set_cons_succ])
                | (refine wpList_set_var rfl 33 (.tmp 2) (.tmp 48) rfl g2 R rfl rfl 33 R HR2z.out HSZ.out rfl H1Z.out ?_; intro wz HW2; try simp only [Act.put, List.setIfInBounds_toArray, List.set_cons_zero, List.set_cons_succ])
                | fail)
              refine bodyPost_ret (v := .tuple #[.agg R, .int .i64 70]) ?_ rfl ⟨rfl, HW2.out.below w.heap.size w HBz.out h2⟩
              exact results_row_tmp (p := 2) (q := 3) (ty := 33) rfl _ _ g2 33 R (0, 0) _ rfl HW2.out.row Tryz.underlying33 rfl HSZ.out
            · go_wp2_with (first
                | (show wpList _ _ _ ({ dst := some 44, op := _, type := _, pos := _, after := _, guard := _ } :: _) _ _; refine wpList_load_row_w (by rfl) 33 (.tmp 7) rfl g7 rfl 33 Q (0, 0) _ HR7z.out Tryz.underlying33 rfl HSQ.out ?_; try simp only [Act.put, List.setIfInBounds_toArray, List.set_cons_zero, List.set_cons_succ])
                | fail)
              refine (RI.out _).mono ?_
              rintro e wr ⟨rfl, hbr⟩
              have HBr := hidk (HBz.out.trans (hbr.mono HBz.out.size))
              have HR7r := hidk ((hbr.block _ (heap_lt HR7z.out)).trans HR7z.out)
              have HR2r := hidk ((hbr.block _ (heap_lt HR2z.out)).trans HR2z.out)
              clear hbr HBz HR7z HR2z RI
              cases br
              · obtain ⟨rfl, rfl⟩ := HNO.out (by simp)
                go_wp2_with (first
                  | (show wpList _ _ _ ({ dst := some 48, op := _, type := _, pos := _, after := _, guard := _ } :: _) _ _; refine wpList_build_none rfl 33 rfl R HBZ.out ?_; try simp only [Act.put, List.setIfInBounds_toArray, List.set_cons_zero, List.set_cons_succ])
                  | (refine wpList_set_var rfl 33 (.tmp 2) (.tmp 48) rfl g2 R rfl rfl 33 R HR2r.out HSZ.out rfl H1Z.out ?_; intro wz HW2; try simp only [Act.put, List.setIfInBounds_toArray, List.set_cons_zero, List.set_cons_succ])
                  | fail)
                refine bodyPost_ret (v := .tuple #[.agg R, .int .i64 70]) ?_ rfl ⟨rfl, HW2.out.below w.heap.size w HBr.out h2⟩
                exact results_row_tmp (p := 2) (q := 3) (ty := 33) rfl _ _ g2 33 R (0, 0) _ rfl HW2.out.row Tryz.underlying33 rfl HSZ.out
              · obtain ⟨rfl, rfl⟩ := HOK.out (by simp)
                go_wp2_with (first
                  | (show wpList _ _ _ ({ dst := some 49, op := _, type := _, pos := _, after := _, guard := _ } :: _) _ _; refine wpList_load_row rfl 33 (.tmp 7) rfl g7 rfl 33 R (0, 0) _ HR7r.out Tryz.underlying33 rfl HSQ.out ?_; try simp only [Act.put, List.setIfInBounds_toArray, List.set_cons_zero, List.set_cons_succ])
                  | (refine wpList_set_var rfl 33 (.tmp 2) (.tmp 49) rfl g2 R rfl rfl 33 Z HR2r.out HSR.out HZR.out H1R.out ?_; intro wz HW2; try simp only [Act.put, List.setIfInBounds_toArray, List.set_cons_zero, List.set_cons_succ])
                  | fail)
                refine bodyPost_ret (v := .tuple #[.agg R, .int .i64 0]) ?_ rfl ⟨rfl, HW2.out.below w.heap.size w HBr.out h2⟩
                exact results_row_tmp (p := 2) (q := 3) (ty := 33) rfl _ _ g2 33 R (0, 0) _ rfl HW2.out.row Tryz.underlying33 rfl HSR.out
        · refine step_new_var (by rfl) 33 rfl Z HA.out ?_
          intro g7 wg HM7
          have HR7 := hidk HM7.out.row
          have HG7 : Hid (g6 < g7) := (by show g6 < g7; rw [HM7.out.new]; exact heap_lt hHeld.2.1)
          replace HBc := hidk (HBc.out.trans (HM7.out.below.mono HBc.out.size))
          refine hK.out _ _ ⟨hHeld.1.keep HM7.out.below, (HM7.out.below.block _ (heap_lt hHeld.2.1)).trans hHeld.2.1, (HM7.out.below.block _ (heap_lt hHeld.2.2)).trans hHeld.2.2⟩ (fun hHeld => ?_)
          clear hK K
          try simp only [Act.put, List.setIfInBounds_toArray, List.set_cons_zero, List.set_cons_succ]
          refine wpAnyH_ready (rs := [11]) (by kernel_rfl) (by simp) ?_
          refine (AllReadyH.cons (o := { dst := some 34, op := Op.call { callee := Callee.value (Operand.func 21), args := #[Operand.tmp 33], argTypes := #[9] }, type := 3, pos := "ref.go:92", after := #[{ on := 10, ground := Ground.data }, { on := 7, ground := Ground.chain }], guard := none }) rfl (fun K hK => ?_) AllReadyH.nil)
          go_simp
          refine (V3.out _).mono ?_
          rintro e w11 ⟨rfl, hb11⟩
          replace HBc := hidk (HBc.out.trans (hb11.mono HBc.out.size))
          try replace HR7 := hidk ((hb11.block _ (heap_lt HR7.out)).trans HR7.out)
          go_wp2_with fail
          refine hK.out _ _ ⟨hHeld.1.keep hb11, (hb11.block _ (heap_lt hHeld.2.1)).trans hHeld.2.1, (hb11.block _ (heap_lt hHeld.2.2)).trans hHeld.2.2⟩ (fun hHeld => ?_)
          clear hK K
          try simp only [Act.put, List.setIfInBounds_toArray, List.set_cons_zero, List.set_cons_succ]
          refine wpAnyH_ready (rs := [16]) (by kernel_rfl) (by simp) ?_
          refine (AllReadyH.cons (o := { dst := some 39, op := Op.call { callee := Callee.value (Operand.func 21), args := #[Operand.tmp 38], argTypes := #[9] }, type := 3, pos := "ref.go:92", after := #[{ on := 15, ground := Ground.data }, { on := 11, ground := Ground.chain }], guard := none }) rfl (fun K hK => ?_) AllReadyH.nil)
          go_simp
          refine (V5.out _).mono ?_
          rintro e w16 ⟨rfl, hb16⟩
          replace HBc := hidk (HBc.out.trans (hb16.mono HBc.out.size))
          try replace HR7 := hidk ((hb16.block _ (heap_lt HR7.out)).trans HR7.out)
          go_wp2_with fail
          refine hK.out _ _ ⟨hHeld.1.keep hb16, (hb16.block _ (heap_lt hHeld.2.1)).trans hHeld.2.1, (hb16.block _ (heap_lt hHeld.2.2)).trans hHeld.2.2⟩ (fun hHeld => ?_)
          clear hK K
          try simp only [Act.put, List.setIfInBounds_toArray, List.set_cons_zero, List.set_cons_succ]
          refine wpAnyH_take (i := 17) (oi := { dst := some 40, op := Op.build 33 #[(0, Operand.tmp 26), (1, Operand.tmp 30), (2, Operand.tmp 34), (3, Operand.tmp 35), (4, Operand.tmp 39)], type := 33, pos := "ref.go:92", after := #[{ on := 3, ground := Ground.data }, { on := 7, ground := Ground.data }, { on := 11, ground := Ground.data }, { on := 12, ground := Ground.data }, { on := 16, ground := Ground.data }], guard := none }) (v := .agg Q) rfl (by kernel_rfl) (by kernel_rfl) (by kernel_rfl) (fun _ _ _ h => h) (yieldsIf_build (by rfl) 33 _ rfl #[(0, .int .i64 v1), (1, .int .i64 v2), (2, .int .i64 v3), (3, .agg D), (4, .int .i64 v5)] rfl (.agg Q) BH.out) hHeld ?_
          try simp only [Act.put, List.setIfInBounds_toArray, List.set_cons_zero, List.set_cons_succ]
          refine wpAnyH_ready (rs := [19]) (by kernel_rfl) (by simp) ?_
          refine (AllReadyH.cons (o := { dst := none, op := Op.store 33 (Operand.tmp 7) (Operand.tmp 40), type := 0, pos := "ref.go:92", after := #[{ on := 18, ground := Ground.data }, { on := 17, ground := Ground.data }, { on := 16, ground := Ground.chain }, { on := 0, ground := Ground.phase }, { on := 1, ground := Ground.phase }, { on := 2, ground := Ground.phase }, { on := 3, ground := Ground.phase }, { on := 4, ground := Ground.phase }, { on := 5, ground := Ground.phase }, { on := 6, ground := Ground.phase }, { on := 7, ground := Ground.phase }, { on := 8, ground := Ground.phase }, { on := 9, ground := Ground.phase }, { on := 10, ground := Ground.phase }, { on := 11, ground := Ground.phase }, { on := 12, ground := Ground.phase }, { on := 13, ground := Ground.phase }, { on := 14, ground := Ground.phase }, { on := 15, ground := Ground.phase }, { on := 16, ground := Ground.phase }, { on := 17, ground := Ground.phase }, { on := 18, ground := Ground.phase }], guard := none }) rfl (fun K hK => ?_) AllReadyH.nil)
          refine step_set_var (by rfl) 33 (.tmp 7) (.tmp 40) rfl g7 Q rfl rfl 33 Z HR7.out HSQ.out HZQ.out H1Q.out ?_
          intro wz HW7
          refine hK.out _ _ ⟨texts_wrote hHeld.1 HW7.out (by have := HG7.out; have := HTB.out; omega), (HW7.out.other _ (by have := HG7.out; omega)).trans hHeld.2.1, (HW7.out.other _ (by have := HG7.out; omega)).trans hHeld.2.2⟩ (fun hHeld => ?_)
          clear hK K
          try simp only [Act.put, List.setIfInBounds_toArray, List.set_cons_zero, List.set_cons_succ]
          refine wpAnyH_done (by kernel_rfl) ?_ _
          have h7 : g6 < g7 := HG7.out
          have HR7z := hidk HW7.out.row
          have HR2z := hidk hHeld.2.2
          have HBz := hidk (HW7.out.below w.heap.size w HBc.out (by omega))
          clear HW7 HBc hHeld HR7
          cases bd
          · obtain ⟨rfl, rfl⟩ := HNO.out (by simp)
            go_wp2_with (first
              | (show wpList _ _ _ ({ dst := some 48, op := _, type := _, pos := _, after := _, guard := _ } :: _) _ _; refine wpList_build_none rfl 33 rfl R HBZ.out ?_; try simp only [Act.put, List.setIfInBounds_toArray, List.set_cons_zero, List.set_cons_succ])
              | (refine wpList_set_var rfl 33 (.tmp 2) (.tmp 48) rfl g2 R rfl rfl 33 R HR2z.out HSZ.out rfl H1Z.out ?_; intro wz HW2; try simp only [Act.put, List.setIfInBounds_toArray, List.set_cons_zero, List.set_cons_succ])
              | fail)
            refine bodyPost_ret (v := .tuple #[.agg R, .int .i64 70]) ?_ rfl ⟨rfl, HW2.out.below w.heap.size w HBz.out h2⟩
            exact results_row_tmp (p := 2) (q := 3) (ty := 33) rfl _ _ g2 33 R (0, 0) _ rfl HW2.out.row Tryz.underlying33 rfl HSZ.out
          · go_wp2_with (first
              | (show wpList _ _ _ ({ dst := some 44, op := _, type := _, pos := _, after := _, guard := _ } :: _) _ _; refine wpList_load_row_w (by rfl) 33 (.tmp 7) rfl g7 rfl 33 Q (0, 0) _ HR7z.out Tryz.underlying33 rfl HSQ.out ?_; try simp only [Act.put, List.setIfInBounds_toArray, List.set_cons_zero, List.set_cons_succ])
              | fail)
            refine (RI.out _).mono ?_
            rintro e wr ⟨rfl, hbr⟩
            have HBr := hidk (HBz.out.trans (hbr.mono HBz.out.size))
            have HR7r := hidk ((hbr.block _ (heap_lt HR7z.out)).trans HR7z.out)
            have HR2r := hidk ((hbr.block _ (heap_lt HR2z.out)).trans HR2z.out)
            clear hbr HBz HR7z HR2z RI
            cases br
            · obtain ⟨rfl, rfl⟩ := HNO.out (by simp)
              go_wp2_with (first
                | (show wpList _ _ _ ({ dst := some 48, op := _, type := _, pos := _, after := _, guard := _ } :: _) _ _; refine wpList_build_none rfl 33 rfl R HBZ.out ?_; try simp only [Act.put, List.setIfInBounds_toArray, List.set_cons_zero, List.set_cons_succ])
                | (refine wpList_set_var rfl 33 (.tmp 2) (.tmp 48) rfl g2 R rfl rfl 33 R HR2r.out HSZ.out rfl H1Z.out ?_; intro wz HW2; try simp only [Act.put, List.setIfInBounds_toArray, List.set_cons_zero, List.set_cons_succ])
                | fail)
              refine bodyPost_ret (v := .tuple #[.agg R, .int .i64 70]) ?_ rfl ⟨rfl, HW2.out.below w.heap.size w HBr.out h2⟩
              exact results_row_tmp (p := 2) (q := 3) (ty := 33) rfl _ _ g2 33 R (0, 0) _ rfl HW2.out.row Tryz.underlying33 rfl HSZ.out
            · obtain ⟨rfl, rfl⟩ := HOK.out (by simp)
              go_wp2_with (first
                | (show wpList _ _ _ ({ dst := some 49, op := _, type := _, pos := _, after := _, guard := _ } :: _) _ _; refine wpList_load_row rfl 33 (.tmp 7) rfl g7 rfl 33 R (0, 0) _ HR7r.out Tryz.underlying33 rfl HSQ.out ?_; try simp only [Act.put, List.setIfInBounds_toArray, List.set_cons_zero, List.set_cons_succ])
                | (refine wpList_set_var rfl 33 (.tmp 2) (.tmp 49) rfl g2 R rfl rfl 33 Z HR2r.out HSR.out HZR.out H1R.out ?_; intro wz HW2; try simp only [Act.put, List.setIfInBounds_toArray, List.set_cons_zero, List.set_cons_succ])
                | fail)
              refine bodyPost_ret (v := .tuple #[.agg R, .int .i64 0]) ?_ rfl ⟨rfl, HW2.out.below w.heap.size w HBr.out h2⟩
              exact results_row_tmp (p := 2) (q := 3) (ty := 33) rfl _ _ g2 33 R (0, 0) _ rfl HW2.out.row Tryz.underlying33 rfl HSR.out
      · refine step_new_var (by rfl) 33 rfl Z HA.out ?_
        intro g7 wg HM7
        have HR7 := hidk HM7.out.row
        have HG7 : Hid (g6 < g7) := (by show g6 < g7; rw [HM7.out.new]; exact heap_lt hHeld.2.1)
        replace HBc := hidk (HBc.out.trans (HM7.out.below.mono HBc.out.size))
        refine hK.out _ _ ⟨hHeld.1.keep HM7.out.below, (HM7.out.below.block _ (heap_lt hHeld.2.1)).trans hHeld.2.1, (HM7.out.below.block _ (heap_lt hHeld.2.2)).trans hHeld.2.2⟩ (fun hHeld => ?_)
        clear hK K
        try simp only [Act.put, List.setIfInBounds_toArray, List.set_cons_zero, List.set_cons_succ]
        refine wpAnyH_ready (rs := [7]) (by kernel_rfl) (by simp) ?_
        refine (AllReadyH.cons (o := { dst := some 30, op := Op.call { callee := Callee.value (Operand.func 21), args := #[Operand.tmp 29], argTypes := #[9] }, type := 3, pos := "ref.go:92", after := #[{ on := 6, ground := Ground.data }, { on := 3, ground := Ground.chain }], guard := none }) rfl (fun K hK => ?_) AllReadyH.nil)
        go_simp
        refine (V2.out _).mono ?_
        rintro e w7 ⟨rfl, hb7⟩
        replace HBc := hidk (HBc.out.trans (hb7.mono HBc.out.size))
        try replace HR7 := hidk ((hb7.block _ (heap_lt HR7.out)).trans HR7.out)
        go_wp2_with fail
        refine hK.out _ _ ⟨hHeld.1.keep hb7, (hb7.block _ (heap_lt hHeld.2.1)).trans hHeld.2.1, (hb7.block _ (heap_lt hHeld.2.2)).trans hHeld.2.2⟩ (fun hHeld => ?_)
        clear hK K
        try simp only [Act.put, List.setIfInBounds_toArray, List.set_cons_zero, List.set_cons_succ]
        refine wpAnyH_ready (rs := [11]) (by kernel_rfl) (by simp) ?_
        refine (AllReadyH.cons (o := { dst := some 34, op := Op.call { callee := Callee.value (Operand.func 21), args := #[Operand.tmp 33], argTypes := #[9] }, type := 3, pos := "ref.go:92", after := #[{ on := 10, ground := Ground.data }, { on := 7, ground := Ground.chain }], guard := none }) rfl (fun K hK => ?_) AllReadyH.nil)
        go_simp
        refine (V3.out _).mono ?_
        rintro e w11 ⟨rfl, hb11⟩
        replace HBc := hidk (HBc.out.trans (hb11.mono HBc.out.size))
        try replace HR7 := hidk ((hb11.block _ (heap_lt HR7.out)).trans HR7.out)
        go_wp2_with fail
        refine hK.out _ _ ⟨hHeld.1.keep hb11, (hb11.block _ (heap_lt hHeld.2.1)).trans hHeld.2.1, (hb11.block _ (heap_lt hHeld.2.2)).trans hHeld.2.2⟩ (fun hHeld => ?_)
        clear hK K
        try simp only [Act.put, List.setIfInBounds_toArray, List.set_cons_zero, List.set_cons_succ]
        refine wpAnyH_ready (rs := [16]) (by kernel_rfl) (by simp) ?_
        refine (AllReadyH.cons (o := { dst := some 39, op := Op.call { callee := Callee.value (Operand.func 21), args := #[Operand.tmp 38], argTypes := #[9] }, type := 3, pos := "ref.go:92", after := #[{ on := 15, ground := Ground.data }, { on := 11, ground := Ground.chain }], guard := none }) rfl (fun K hK => ?_) AllReadyH.nil)
        go_simp
        refine (V5.out _).mono ?_
        rintro e w16 ⟨rfl, hb16⟩
        replace HBc := hidk (HBc.out.trans (hb16.mono HBc.out.size))
        try replace HR7 := hidk ((hb16.block _ (heap_lt HR7.out)).trans HR7.out)
        go_wp2_with fail
        refine hK.out _ _ ⟨hHeld.1.keep hb16, (hb16.block _ (heap_lt hHeld.2.1)).trans hHeld.2.1, (hb16.block _ (heap_lt hHeld.2.2)).trans hHeld.2.2⟩ (fun hHeld => ?_)
        clear hK K
        try simp only [Act.put, List.setIfInBounds_toArray, List.set_cons_zero, List.set_cons_succ]
        refine wpAnyH_take (i := 17) (oi := { dst := some 40, op := Op.build 33 #[(0, Operand.tmp 26), (1, Operand.tmp 30), (2, Operand.tmp 34), (3, Operand.tmp 35), (4, Operand.tmp 39)], type := 33, pos := "ref.go:92", after := #[{ on := 3, ground := Ground.data }, { on := 7, ground := Ground.data }, { on := 11, ground := Ground.data }, { on := 12, ground := Ground.data }, { on := 16, ground := Ground.data }], guard := none }) (v := .agg Q) rfl (by kernel_rfl) (by kernel_rfl) (by kernel_rfl) (fun _ _ _ h => h) (yieldsIf_build (by rfl) 33 _ rfl #[(0, .int .i64 v1), (1, .int .i64 v2), (2, .int .i64 v3), (3, .agg D), (4, .int .i64 v5)] rfl (.agg Q) BH.out) hHeld ?_
        try simp only [Act.put, List.setIfInBounds_toArray, List.set_cons_zero, List.set_cons_succ]
        refine wpAnyH_ready (rs := [19]) (by kernel_rfl) (by simp) ?_
        refine (AllReadyH.cons (o := { dst := none, op := Op.store 33 (Operand.tmp 7) (Operand.tmp 40), type := 0, pos := "ref.go:92", after := #[{ on := 18, ground := Ground.data }, { on := 17, ground := Ground.data }, { on := 16, ground := Ground.chain }, { on := 0, ground := Ground.phase }, { on := 1, ground := Ground.phase }, { on := 2, ground := Ground.phase }, { on := 3, ground := Ground.phase }, { on := 4, ground := Ground.phase }, { on := 5, ground := Ground.phase }, { on := 6, ground := Ground.phase }, { on := 7, ground := Ground.phase }, { on := 8, ground := Ground.phase }, { on := 9, ground := Ground.phase }, { on := 10, ground := Ground.phase }, { on := 11, ground := Ground.phase }, { on := 12, ground := Ground.phase }, { on := 13, ground := Ground.phase }, { on := 14, ground := Ground.phase }, { on := 15, ground := Ground.phase }, { on := 16, ground := Ground.phase }, { on := 17, ground := Ground.phase }, { on := 18, ground := Ground.phase }], guard := none }) rfl (fun K hK => ?_) AllReadyH.nil)
        refine step_set_var (by rfl) 33 (.tmp 7) (.tmp 40) rfl g7 Q rfl rfl 33 Z HR7.out HSQ.out HZQ.out H1Q.out ?_
        intro wz HW7
        refine hK.out _ _ ⟨texts_wrote hHeld.1 HW7.out (by have := HG7.out; have := HTB.out; omega), (HW7.out.other _ (by have := HG7.out; omega)).trans hHeld.2.1, (HW7.out.other _ (by have := HG7.out; omega)).trans hHeld.2.2⟩ (fun hHeld => ?_)
        clear hK K
        try simp only [Act.put, List.setIfInBounds_toArray, List.set_cons_zero, List.set_cons_succ]
        refine wpAnyH_done (by kernel_rfl) ?_ _
        have h7 : g6 < g7 := HG7.out
        have HR7z := hidk HW7.out.row
        have HR2z := hidk hHeld.2.2
        have HBz := hidk (HW7.out.below w.heap.size w HBc.out (by omega))
        clear HW7 HBc hHeld HR7
        cases bd
        · obtain ⟨rfl, rfl⟩ := HNO.out (by simp)
          go_wp2_with (first
            | (show wpList _ _ _ ({ dst := some 48, op := _, type := _, pos := _, after := _, guard := _ } :: _) _ _; refine wpList_build_none rfl 33 rfl R HBZ.out ?_; try simp only [Act.put, List.setIfInBounds_toArray, List.set_cons_zero, List.set_cons_succ])
            | (refine wpList_set_var rfl 33 (.tmp 2) (.tmp 48) rfl g2 R rfl rfl 33 R HR2z.out HSZ.out rfl H1Z.out ?_; intro wz HW2; try simp only [Act.put, List.setIfInBounds_toArray, List.set_cons_zero, List.set_cons_succ])
            | fail)
          refine bodyPost_ret (v := .tuple #[.agg R, .int .i64 70]) ?_ rfl ⟨rfl, HW2.out.below w.heap.size w HBz.out h2⟩
          exact results_row_tmp (p := 2) (q := 3) (ty := 33) rfl _ _ g2 33 R (0, 0) _ rfl HW2.out.row Tryz.underlying33 rfl HSZ.out
        · go_wp2_with (first
            | (show wpList _ _ _ ({ dst := some 44, op := _, type := _, pos := _, after := _, guard := _ } :: _) _ _; refine wpList_load_row_w (by rfl) 33 (.tmp 7) rfl g7 rfl 33 Q (0, 0) _ HR7z.out Tryz.underlying33 rfl HSQ.out ?_; try simp only [Act.put, List.setIfInBounds_toArray, List.set_cons_zero, List.set_cons_succ])
            | fail)
          refine (RI.out _).mono ?_
          rintro e wr ⟨rfl, hbr⟩
          have HBr := hidk (HBz.out.trans (hbr.mono HBz.out.size))
          have HR7r := hidk ((hbr.block _ (heap_lt HR7z.out)).trans HR7z.out)
          have HR2r := hidk ((hbr.block _ (heap_lt HR2z.out)).trans HR2z.out)
          clear hbr HBz HR7z HR2z RI
          cases br
          · obtain ⟨rfl, rfl⟩ := HNO.out (by simp)
            go_wp2_with (first
              | (show wpList _ _ _ ({ dst := some 48, op := _, type := _, pos := _, after := _, guard := _ } :: _) _ _; refine wpList_build_none rfl 33 rfl R HBZ.out ?_; try simp only [Act.put, List.setIfInBounds_toArray, List.set_cons_zero, List.set_cons_succ])
              | (refine wpList_set_var rfl 33 (.tmp 2) (.tmp 48) rfl g2 R rfl rfl 33 R HR2r.out HSZ.out rfl H1Z.out ?_; intro wz HW2; try simp only [Act.put, List.setIfInBounds_toArray, List.set_cons_zero, List.set_cons_succ])
              | fail)
            refine bodyPost_ret (v := .tuple #[.agg R, .int .i64 70]) ?_ rfl ⟨rfl, HW2.out.below w.heap.size w HBr.out h2⟩
            exact results_row_tmp (p := 2) (q := 3) (ty := 33) rfl _ _ g2 33 R (0, 0) _ rfl HW2.out.row Tryz.underlying33 rfl HSZ.out
          · obtain ⟨rfl, rfl⟩ := HOK.out (by simp)
            go_wp2_with (first
              | (show wpList _ _ _ ({ dst := some 49, op := _, type := _, pos := _, after := _, guard := _ } :: _) _ _; refine wpList_load_row rfl 33 (.tmp 7) rfl g7 rfl 33 R (0, 0) _ HR7r.out Tryz.underlying33 rfl HSQ.out ?_; try simp only [Act.put, List.setIfInBounds_toArray, List.set_cons_zero, List.set_cons_succ])
              | (refine wpList_set_var rfl 33 (.tmp 2) (.tmp 49) rfl g2 R rfl rfl 33 Z HR2r.out HSR.out HZR.out H1R.out ?_; intro wz HW2; try simp only [Act.put, List.setIfInBounds_toArray, List.set_cons_zero, List.set_cons_succ])
              | fail)
            refine bodyPost_ret (v := .tuple #[.agg R, .int .i64 0]) ?_ rfl ⟨rfl, HW2.out.below w.heap.size w HBr.out h2⟩
            exact results_row_tmp (p := 2) (q := 3) (ty := 33) rfl _ _ g2 33 R (0, 0) _ rfl HW2.out.row Tryz.underlying33 rfl HSR.out
    · refine step_new_var (by rfl) 33 rfl Z HA.out ?_
      intro g7 wg HM7
      have HR7 := hidk HM7.out.row
      have HG7 : Hid (g6 < g7) := (by show g6 < g7; rw [HM7.out.new]; exact heap_lt hHeld.2.1)
      replace HBc := hidk (HBc.out.trans (HM7.out.below.mono HBc.out.size))
      refine hK.out _ _ ⟨hHeld.1.keep HM7.out.below, (HM7.out.below.block _ (heap_lt hHeld.2.1)).trans hHeld.2.1, (HM7.out.below.block _ (heap_lt hHeld.2.2)).trans hHeld.2.2⟩ (fun hHeld => ?_)
      clear hK K
      try simp only [Act.put, List.setIfInBounds_toArray, List.set_cons_zero, List.set_cons_succ]
      refine wpAnyH_ready (rs := [3]) (by kernel_rfl) (by simp) ?_
      refine (AllReadyH.cons (o := { dst := some 26, op := Op.call { callee := Callee.value (Operand.func 21), args := #[Operand.tmp 25], argTypes := #[9] }, type := 3, pos := "ref.go:92", after := #[{ on := 2, ground := Ground.data }], guard := none }) rfl (fun K hK => ?_) AllReadyH.nil)
      go_simp
      refine (V1.out _).mono ?_
      rintro e w3 ⟨rfl, hb3⟩
      replace HBc := hidk (HBc.out.trans (hb3.mono HBc.out.size))
      try replace HR7 := hidk ((hb3.block _ (heap_lt HR7.out)).trans HR7.out)
      go_wp2_with fail
      refine hK.out _ _ ⟨hHeld.1.keep hb3, (hb3.block _ (heap_lt hHeld.2.1)).trans hHeld.2.1, (hb3.block _ (heap_lt hHeld.2.2)).trans hHeld.2.2⟩ (fun hHeld => ?_)
      clear hK K
      try simp only [Act.put, List.setIfInBounds_toArray, List.set_cons_zero, List.set_cons_succ]
      refine wpAnyH_ready (rs := [7]) (by kernel_rfl) (by simp) ?_
      refine (AllReadyH.cons (o := { dst := some 30, op := Op.call { callee := Callee.value (Operand.func 21), args := #[Operand.tmp 29], argTypes := #[9] }, type := 3, pos := "ref.go:92", after := #[{ on := 6, ground := Ground.data }, { on := 3, ground := Ground.chain }], guard := none }) rfl (fun K hK => ?_) AllReadyH.nil)
      go_simp
      refine (V2.out _).mono ?_
      rintro e w7 ⟨rfl, hb7⟩
      replace HBc := hidk (HBc.out.trans (hb7.mono HBc.out.size))
      try replace HR7 := hidk ((hb7.block _ (heap_lt HR7.out)).trans HR7.out)
      go_wp2_with fail
      refine hK.out _ _ ⟨hHeld.1.keep hb7, (hb7.block _ (heap_lt hHeld.2.1)).trans hHeld.2.1, (hb7.block _ (heap_lt hHeld.2.2)).trans hHeld.2.2⟩ (fun hHeld => ?_)
      clear hK K
      try simp only [Act.put, List.setIfInBounds_toArray, List.set_cons_zero, List.set_cons_succ]
      refine wpAnyH_ready (rs := [11]) (by kernel_rfl) (by simp) ?_
      refine (AllReadyH.cons (o := { dst := some 34, op := Op.call { callee := Callee.value (Operand.func 21), args := #[Operand.tmp 33], argTypes := #[9] }, type := 3, pos := "ref.go:92", after := #[{ on := 10, ground := Ground.data }, { on := 7, ground := Ground.chain }], guard := none }) rfl (fun K hK => ?_) AllReadyH.nil)
      go_simp
      refine (V3.out _).mono ?_
      rintro e w11 ⟨rfl, hb11⟩
      replace HBc := hidk (HBc.out.trans (hb11.mono HBc.out.size))
      try replace HR7 := hidk ((hb11.block _ (heap_lt HR7.out)).trans HR7.out)
      go_wp2_with fail
      refine hK.out _ _ ⟨hHeld.1.keep hb11, (hb11.block _ (heap_lt hHeld.2.1)).trans hHeld.2.1, (hb11.block _ (heap_lt hHeld.2.2)).trans hHeld.2.2⟩ (fun hHeld => ?_)
      clear hK K
      try simp only [Act.put, List.setIfInBounds_toArray, List.set_cons_zero, List.set_cons_succ]
      refine wpAnyH_ready (rs := [16]) (by kernel_rfl) (by simp) ?_
      refine (AllReadyH.cons (o := { dst := some 39, op := Op.call { callee := Callee.value (Operand.func 21), args := #[Operand.tmp 38], argTypes := #[9] }, type := 3, pos := "ref.go:92", after := #[{ on := 15, ground := Ground.data }, { on := 11, ground := Ground.chain }], guard := none }) rfl (fun K hK => ?_) AllReadyH.nil)
      go_simp
      refine (V5.out _).mono ?_
      rintro e w16 ⟨rfl, hb16⟩
      replace HBc := hidk (HBc.out.trans (hb16.mono HBc.out.size))
      try replace HR7 := hidk ((hb16.block _ (heap_lt HR7.out)).trans HR7.out)
      go_wp2_with fail
      refine hK.out _ _ ⟨hHeld.1.keep hb16, (hb16.block _ (heap_lt hHeld.2.1)).trans hHeld.2.1, (hb16.block _ (heap_lt hHeld.2.2)).trans hHeld.2.2⟩ (fun hHeld => ?_)
      clear hK K
      try simp only [Act.put, List.setIfInBounds_toArray, List.set_cons_zero, List.set_cons_succ]
      refine wpAnyH_take (i := 17) (oi := { dst := some 40, op := Op.build 33 #[(0, Operand.tmp 26), (1, Operand.tmp 30), (2, Operand.tmp 34), (3, Operand.tmp 35), (4, Operand.tmp 39)], type := 33, pos := "ref.go:92", after := #[{ on := 3, ground := Ground.data }, { on := 7, ground := Ground.data }, { on := 11, ground := Ground.data }, { on := 12, ground := Ground.data }, { on := 16, ground := Ground.data }], guard := none }) (v := .agg Q) rfl (by kernel_rfl) (by kernel_rfl) (by kernel_rfl) (fun _ _ _ h => h) (yieldsIf_build (by rfl) 33 _ rfl #[(0, .int .i64 v1), (1, .int .i64 v2), (2, .int .i64 v3), (3, .agg D), (4, .int .i64 v5)] rfl (.agg Q) BH.out) hHeld ?_
      try simp only [Act.put, List.setIfInBounds_toArray, List.set_cons_zero, List.set_cons_succ]
      refine wpAnyH_ready (rs := [19]) (by kernel_rfl) (by simp) ?_
      refine (AllReadyH.cons (o := { dst := none, op := Op.store 33 (Operand.tmp 7) (Operand.tmp 40), type := 0, pos := "ref.go:92", after := #[{ on := 18, ground := Ground.data }, { on := 17, ground := Ground.data }, { on := 16, ground := Ground.chain }, { on := 0, ground := Ground.phase }, { on := 1, ground := Ground.phase }, { on := 2, ground := Ground.phase }, { on := 3, ground := Ground.phase }, { on := 4, ground := Ground.phase }, { on := 5, ground := Ground.phase }, { on := 6, ground := Ground.phase }, { on := 7, ground := Ground.phase }, { on := 8, ground := Ground.phase }, { on := 9, ground := Ground.phase }, { on := 10, ground := Ground.phase }, { on := 11, ground := Ground.phase }, { on := 12, ground := Ground.phase }, { on := 13, ground := Ground.phase }, { on := 14, ground := Ground.phase }, { on := 15, ground := Ground.phase }, { on := 16, ground := Ground.phase }, { on := 17, ground := Ground.phase }, { on := 18, ground := Ground.phase }], guard := none }) rfl (fun K hK => ?_) AllReadyH.nil)
      refine step_set_var (by rfl) 33 (.tmp 7) (.tmp 40) rfl g7 Q rfl rfl 33 Z HR7.out HSQ.out HZQ.out H1Q.out ?_
      intro wz HW7
      refine hK.out _ _ ⟨texts_wrote hHeld.1 HW7.out (by have := HG7.out; have := HTB.out; omega), (HW7.out.other _ (by have := HG7.out; omega)).trans hHeld.2.1, (HW7.out.other _ (by have := HG7.out; omega)).trans hHeld.2.2⟩ (fun hHeld => ?_)
      clear hK K
      try simp only [Act.put, List.setIfInBounds_toArray, List.set_cons_zero, List.set_cons_succ]
      refine wpAnyH_done (by kernel_rfl) ?_ _
      have h7 : g6 < g7 := HG7.out
      have HR7z := hidk HW7.out.row
      have HR2z := hidk hHeld.2.2
      have HBz := hidk (HW7.out.below w.heap.size w HBc.out (by omega))
      clear HW7 HBc hHeld HR7
      cases bd
      · obtain ⟨rfl, rfl⟩ := HNO.out (by simp)
        go_wp2_with (first
          | (show wpList _ _ _ ({ dst := some 48, op := _, type := _, pos := _, after := _, guard := _ } :: _) _ _; refine wpList_build_none rfl 33 rfl R HBZ.out ?_; try simp only [Act.put, List.setIfInBounds_toArray, List.set_cons_zero, List.set_cons_succ])
          | (refine wpList_set_var rfl 33 (.tmp 2) (.tmp 48) rfl g2 R rfl rfl 33 R HR2z.out HSZ.out rfl H1Z.out ?_; intro wz HW2; try simp only [Act.put, List.setIfInBounds_toArray, List.set_cons_zero, List.set_cons_succ])
          | fail)
        refine bodyPost_ret (v := .tuple #[.agg R, .int .i64 70]) ?_ rfl ⟨rfl, HW2.out.below w.heap.size w HBz.out h2⟩
        exact results_row_tmp (p := 2) (q := 3) (ty := 33) rfl _ _ g2 33 R (0, 0) _ rfl HW2.out.row Tryz.underlying33 rfl HSZ.out
      · go_wp2_with (first
          | (show wpList _ _ _ ({ dst := some 44, op := _, type := _, pos := _, after := _, guard := _ } :: _) _ _; refine wpList_load_row_w (by rfl) 33 (.tmp 7) rfl g7 rfl 33 Q (0, 0) _ HR7z.out Tryz.underlying33 rfl HSQ.out ?_; try simp only [Act.put, List.setIfInBounds_toArray, List.set_cons_zero, List.set_cons_succ])
          | fail)
        refine (RI.out _).mono ?_
        rintro e wr ⟨rfl, hbr⟩
        have HBr := hidk (HBz.out.trans (hbr.mono HBz.out.size))
        have HR7r := hidk ((hbr.block _ (heap_lt HR7z.out)).trans HR7z.out)
        have HR2r := hidk ((hbr.block _ (heap_lt HR2z.out)).trans HR2z.out)
        clear hbr HBz HR7z HR2z RI
        cases br
        · obtain ⟨rfl, rfl⟩ := HNO.out (by simp)
          go_wp2_with (first
            | (show wpList _ _ _ ({ dst := some 48, op := _, type := _, pos := _, after := _, guard := _ } :: _) _ _; refine wpList_build_none rfl 33 rfl R HBZ.out ?_; try simp only [Act.put, List.setIfInBounds_toArray, List.set_cons_zero, List.set_cons_succ])
            | (refine wpList_set_var rfl 33 (.tmp 2) (.tmp 48) rfl g2 R rfl rfl 33 R HR2r.out HSZ.out rfl H1Z.out ?_; intro wz HW2; try simp only [Act.put, List.setIfInBounds_toArray, List.set_cons_zero, List.set_cons_succ])
            | fail)
          refine bodyPost_ret (v := .tuple #[.agg R, .int .i64 70]) ?_ rfl ⟨rfl, HW2.out.below w.heap.size w HBr.out h2⟩
          exact results_row_tmp (p := 2) (q := 3) (ty := 33) rfl _ _ g2 33 R (0, 0) _ rfl HW2.out.row Tryz.underlying33 rfl HSZ.out
        · obtain ⟨rfl, rfl⟩ := HOK.out (by simp)
          go_wp2_with (first
            | (show wpList _ _ _ ({ dst := some 49, op := _, type := _, pos := _, after := _, guard := _ } :: _) _ _; refine wpList_load_row rfl 33 (.tmp 7) rfl g7 rfl 33 R (0, 0) _ HR7r.out Tryz.underlying33 rfl HSQ.out ?_; try simp only [Act.put, List.setIfInBounds_toArray, List.set_cons_zero, List.set_cons_succ])
            | (refine wpList_set_var rfl 33 (.tmp 2) (.tmp 49) rfl g2 R rfl rfl 33 Z HR2r.out HSR.out HZR.out H1R.out ?_; intro wz HW2; try simp only [Act.put, List.setIfInBounds_toArray, List.set_cons_zero, List.set_cons_succ])
            | fail)
          refine bodyPost_ret (v := .tuple #[.agg R, .int .i64 0]) ?_ rfl ⟨rfl, HW2.out.below w.heap.size w HBr.out h2⟩
          exact results_row_tmp (p := 2) (q := 3) (ty := 33) rfl _ _ g2 33 R (0, 0) _ rfl HW2.out.row Tryz.underlying33 rfl HSR.out
end Go.Proofs.YtgkfodmccfnaoaaGreatDoor

/- What the document's GetSigned answers. -/
namespace Go.Proofs.YtgkfodmccfnaoaaGreatDoor
open Go.RowKit Sums Nums
set_option linter.unusedVariables false
set_option linter.unusedSimpArgs false
set_option maxRecDepth 100000
/-- '[]byte(s)': a new row that reads s. -/
theorem wpList_conv_text {P : Program} {ops : Array Oper} {rest : List Oper} {o : Oper} {a : Act} {w : World} {Q : Exit → Act → World → Prop} (hg : o.guard = none) (src dst e : TypeId) (x : Operand) (ho : o.op = .convert src dst x)
    (s : ByteArray) (hx : a.eval x = .string s) (hs : P.underlying src = some .string) (hd : P.underlying dst = some (.slice e)) (he : P.underlying e = some (.int .u8)) (hl : s.size ≤ maxLen)
    (h : ∀ b c w', Hid (Reads w' (some b) s.size c s.data.toList ∧ Below w.heap.size w w') → wpList P ops Q rest (a.put o.dst (.slice (some b) s.size c)) w') : wpList P ops Q (o :: rest) a w := by
  refine wpList_plain hg fun K hK => ?_
  have hr := run_bytes_of_string (P := P) w src dst e s hs hd he
  obtain ⟨c, hc⟩ : ∃ c, grownCap w s.size 0 e = c := ⟨_, rfl⟩
  have h1 : s.size ≤ c := by rw [← hc]; exact grownCap_ge w s.size 0 e
  have h2 : c ≤ maxLen := by rw [← hc]; exact grownCap_le_maxLen w s.size 0 e hl
  rw [hc] at hr
  obtain ⟨C, hC⟩ : ∃ C, bytesRow s c = C := ⟨_, rfl⟩
  rw [hC] at hr
  have hB : Below w.heap.size w (w.drew.alloc (.cells C e (C.size, C.size + 1))) := (Below.refl _ _).drew.alloc (Nat.le_refl _) _
  have hR : Reads (w.drew.alloc (.cells C e (C.size, C.size + 1))) (some ⟨w.heap.size, 0, none⟩) s.size c s.data.toList := by
    refine ⟨Array.length_toList, h1, by unfold maxLen at h2; omega, .inr (.inr ⟨w.heap.size, 0, rfl, ?_, fun i hi => ?_⟩)⟩
    · show w.heap.size < (w.heap.push _).size
      simp
    · have hn : (w.drew.alloc (.cells C e (C.size, C.size + 1))).heap[w.heap.size]? = some (.cells C e (C.size, C.size + 1)) := by
        show (w.heap.push _)[w.heap.size]? = _
        simp
      have hi' : i < s.data.size := by simpa using hi
      simp only [World.cell?, hn, Nat.zero_add]
      rw [← hC]
      unfold bytesRow
      rw [Array.getElem?_append_left (by simpa using hi')]
      simp
      exact ⟨s.data[i], Array.getElem?_eq_getElem hi', rfl⟩
  have hk := hK _ _ (h _ _ _ ⟨hR, hB⟩)
  unfold Oper.wp execOp
  simp only [ho]
  simp [hx, hr]
  exact hk
def getSO (bs : List UInt8) : SgT := (getS bs).getD zeroS
def getSE (bs : List UInt8) : Int := if (getS bs).isSome then 0 else 70
theorem getSO_digs (bs : List UInt8) : (getSO bs).h.d.length = 32 ∧ (getSO bs).g.length = 32 := by
  unfold getSO
  cases h : getS bs with
  | none => exact ⟨rfl, rfl⟩
  | some x => exact ⟨(getS_some h).2.1, (getS_some h).2.2.1⟩
theorem getHE_two (bs : List UInt8) : getHE bs = 0 ∨ getHE bs = 70 := by unfold getHE; split <;> simp
theorem parts_size {bs : List UInt8} {n : Nat} {l : List ByteArray} (h : partsO bs n = some l) : ∀ y ∈ l, y.size ≤ bs.length := by
  intro y hy
  obtain ⟨-, -, h3⟩ := row_parts h
  have h4 := rowB_length (fieldsN l)
  rw [h3] at h4
  have h5 : (fieldsN l).map (fun f => f.2.size) = l.map (·.size) := by
    have := congrArg (List.map ByteArray.size) (fieldsN_snd l)
    rw [List.map_map] at this
    exact this
  rw [h5] at h4
  have h6 : ∀ (l : List ByteArray), y ∈ l → y.size ≤ (l.map (·.size)).sum := by
    intro l
    induction l with
    | nil => intro h; cases h
    | cons a r ih =>
      intro h
      simp only [List.map_cons, List.sum_cons]
      rcases List.mem_cons.1 h with rfl | h
      · omega
      · have := ih h; omega
  have := h6 l hy
  omega
theorem getS_three {bs : List UInt8} {x1 x2 x3 : ByteArray} (hp : partsO bs 3 = some [x1, x2, x3]) (s : SgT) (hs : s = ⟨getHO x1.data.toList, valO x2.data.toList, digO x3⟩) (E : Int) (bd bm : Bool) (hE : E = getHE x1.data.toList) (hb : decide (x3.size = 32) = bd) (hm : mayS s = bm) :
    ((E = 0 ∧ bd = true ∧ bm = true) → getS bs = some s) ∧ (¬ (E = 0 ∧ bd = true ∧ bm = true) → getS bs = none) := by
  have hg : getS bs = match getO x1.data.toList with
    | some h => if x3.size = 32 ∧ mayS ⟨h, valO x2.data.toList, x3.data.toList⟩ = true then some ⟨h, valO x2.data.toList, x3.data.toList⟩ else none
    | none => none := by unfold getS; rw [hp]; rfl
  cases ho : getO x1.data.toList with
  | none =>
    rw [ho] at hg
    have e : E = 70 := by rw [hE]; unfold getHE; rw [ho]; rfl
    exact ⟨fun h => by rw [e] at h; omega, fun _ => hg⟩
  | some h =>
    rw [ho] at hg
    have e : E = 0 := by rw [hE]; unfold getHE; rw [ho]; rfl
    have eh : getHO x1.data.toList = h := by unfold getHO; rw [ho]; rfl
    by_cases h3 : x3.size = 32
    · have es : s = ⟨h, valO x2.data.toList, x3.data.toList⟩ := by rw [hs, eh]; unfold digO; rw [if_pos h3]
      have hbd : bd = true := by rw [← hb]; simpa using h3
      refine ⟨fun hh => ?_, fun hh => ?_⟩
      · rw [hg]; show (if _ then _ else _) = _; rw [← es, if_pos ⟨h3, by rw [hm]; exact hh.2.2⟩]
      · rw [hg]; show (if _ then _ else _) = _; rw [← es, if_neg]
        rintro ⟨_, hm'⟩
        exact hh ⟨e, hbd, by rw [← hm]; exact hm'⟩
    · have hbd : bd = false := by rw [← hb]; simpa using h3
      refine ⟨fun hh => by rw [hbd] at hh; exact absurd hh.2.1 (by simp), fun _ => ?_⟩
      rw [hg]; show (if _ then _ else _) = _; rw [if_neg]
      exact fun hh => h3 hh.1
set_option maxHeartbeats 16000000 in
theorem refGetS_any (a : Option Addr) (len cap : Nat) (bs : List UInt8) (w : World) (hR : Reads w a len cap bs) (hl : len ≤ 1000000) (R : Array Value) (HR : Hid (R = (scells (getSO bs)).toArray)) :
    Calls Tryz.prog 49 #[.slice a len cap] w fun e w' => e = .returned (.tuple #[.agg R, .int .i64 (getSE bs)]) ∧ Below w.heap.size w w' := by
  have hnot : ∀ (x : Bool) (w : World), (Op.unary .not (.bool x)).run Tryz.prog w = .ok (.bool (!x)) w := fun _ _ => rfl
  obtain ⟨Z, HZ, HA, HBZ, H69⟩ := noughtsS
  obtain ⟨ZH, HZH, HAH, HBZH, H36⟩ := noughtsH
  obtain ⟨ZD, HZD, HAD, HSZD, H1ZD, H32D⟩ := noughts27
  have hdR := getSO_digs bs
  have HSR : Hid ((Tryz.prog.info? 35).map (·.size) = some R.size) := by show _ = _; rw [sizeS, HR.out]; simp [scells_length _ hdR.1 hdR.2]
  have H1R : Hid (R.all (·.oneCell') = true) := by show _ = _; rw [HR.out]; exact one_cellsS _
  have HZR : Hid (Z.size = R.size) := by show _ = _; rw [H69.out, HR.out]; simp [scells_length _ hdR.1 hdR.2]
  have PA : Hid (∀ W, Below w.heap.size w W → Calls Tryz.prog 19 #[.slice a len cap, .int .i64 3] W fun e w' => PartsR bs 3 e w' ∧ Below W.heap.size W w') := fun W hb => refParts_any a len cap bs 3 W (hR.below hb) hl (by omega)
  have hlen : bs.length = len := hR.1
  clear hR
  cases hp : partsO bs 3 with
  | none =>
    have hg : getS bs = none := by unfold getS; rw [hp]
    have hE : getSE bs = 70 := by unfold getSE; rw [hg]; rfl
    obtain rfl : R = Z := by rw [HR.out, HZ.out]; unfold getSO; rw [hg]; rfl
    have PN : Hid (∀ W, Below w.heap.size w W → Calls Tryz.prog 19 #[.slice a len cap, .int .i64 3] W fun e w' => e = .returned (.tuple #[.slice none 0 0, .bool false]) ∧ Below W.heap.size W w') := fun W hb => (PA.out W hb).mono (by rintro e w' ⟨h1, h2⟩; unfold PartsR at h1; rw [hp] at h1; exact ⟨h1, h2⟩)
    rw [hE]
    clear hE hg hp PA HR HZ HZR hdR HZH HAH HBZH H36 HZD HAD HSZD H1ZD H32D
    go_enter Tryz.func49, Tryz.ntmps49
    go_wp2_with (first
      | (show wpList _ _ _ ({ dst := some 2, op := _, type := _, pos := _, after := _, guard := _ } :: _) _ _; refine wpList_new_var rfl 35 rfl R HA.out ?_; intro g2 w1 HM2; try simp only [Act.put, List.setIfInBounds_toArray, List.set_cons_zero, List.set_cons_succ])
      | fail)
    refine (PN.out _ HM2.out.below).mono ?_
    rintro e w2 ⟨rfl, hb2⟩
    have HB2 := hidk (HM2.out.below.trans (hb2.mono HM2.out.below.size))
    have HR2 := hidk ((hb2.block _ (heap_lt HM2.out.row)).trans HM2.out.row)
    have h2 : w.heap.size ≤ g2 := Nat.le_of_eq HM2.out.new.symm
    clear hb2 HM2 PN
    go_wp2_with (first
      | (show wpList _ _ _ ({ dst := some 17, op := _, type := _, pos := _, after := _, guard := _ } :: _) _ _; refine wpList_build_none rfl 35 rfl R HBZ.out ?_; try simp only [Act.put, List.setIfInBounds_toArray, List.set_cons_zero, List.set_cons_succ])
      | (refine wpList_set_var rfl 35 (.tmp 2) (.tmp 17) rfl g2 R rfl rfl 35 R HR2.out HSR.out rfl H1R.out ?_; intro wz HW2; try simp only [Act.put, List.setIfInBounds_toArray, List.set_cons_zero, List.set_cons_succ])
      | fail)
    refine bodyPost_ret (v := .tuple #[.agg R, .int .i64 70]) ?_ rfl ⟨rfl, HW2.out.below w.heap.size w HB2.out h2⟩
    exact results_row_tmp (p := 2) (q := 3) (ty := 35) rfl _ _ g2 35 R (0, 0) _ rfl HW2.out.row Tryz.underlying35 rfl HSR.out
  | some l =>
    have hl3 : l.length = 3 := (row_parts hp).1
    obtain ⟨x1, x2, x3, rfl⟩ : ∃ x1 x2 x3, l = [x1, x2, x3] := by
      match l, hl3 with
      | [x1, x2, x3], _ => exact ⟨x1, x2, x3, rfl⟩
    have hsz := parts_size hp
    have hm1 : (1000000 : Nat) ≤ maxLen := by unfold maxLen; omega
    have hsm : ∀ y ∈ [x1, x2, x3], y.size ≤ maxLen := fun y hy => by have := hsz y hy; omega
    have hx1 : x1.size ≤ 1000000 := by have := hsz x1 (by simp); omega
    have hx1m : x1.size ≤ maxLen := hsm x1 (by simp)
    have PN : Hid (∀ W, Below w.heap.size w W → Calls Tryz.prog 19 #[.slice a len cap, .int .i64 3] W fun e w' => (∃ x c, e = .returned (.tuple #[.slice x 3 c, .bool true]) ∧ Texts w' x 3 [x1, x2, x3]) ∧ Below W.heap.size W w') := fun W hb => (PA.out W hb).mono (by rintro e w' ⟨h1, h2⟩; unfold PartsR at h1; rw [hp] at h1; exact ⟨h1, h2⟩)
    obtain ⟨D, HD, HSD, H1D, H32DD⟩ := dig_row' (digO x3) (digO_length x3)
    have HZDD : Hid (ZD.size = D.size) := by show _ = _; rw [H32D.out, H32DD.out]
    obtain ⟨bd, hbd⟩ : ∃ b, decide (x3.size = 32) = b := ⟨_, rfl⟩
    have DG : Hid (∀ W, Calls Tryz.prog 20 #[.string x3] W fun e w' => e = .returned (.tuple #[.agg D, .bool bd]) ∧ Below W.heap.size W w') := fun W => by rw [← hbd]; exact refDig_any x3 W (hsm x3 (by simp)) D HD
    obtain ⟨v2, hv2⟩ : ∃ v, v = valO x2.data.toList := ⟨_, rfl⟩
    have V2 : Hid (∀ W, Calls Tryz.prog 21 #[.string x2] W fun e w' => e = .returned (.int .i64 v2) ∧ Below W.heap.size W w') := fun W => (refVal_any x2 W (hsm x2 (by simp))).mono (by rintro e w' ⟨rfl, rfl⟩; exact ⟨by rw [hv2], Below.refl _ _⟩)
    have hhd := getHO_digs x1.data.toList
    obtain ⟨C, HC, HSC, H1C, H36C⟩ := head_row5 (getHO x1.data.toList) hhd
    have HZC : Hid (ZH.size = C.size) := by show _ = _; rw [H36.out, H36C.out]
    obtain ⟨E1, hE1⟩ : ∃ E, E = getHE x1.data.toList := ⟨_, rfl⟩
    have GH : Hid (∀ W b c, Reads W (some b) x1.size c x1.data.toList → Calls Tryz.prog 70 #[.slice (some b) x1.size c] W fun e w' => e = .returned (.tuple #[.agg C, .int .i64 E1]) ∧ Below W.heap.size W w') := fun W b c h => by rw [hE1]; exact refGet7_any (some b) x1.size c x1.data.toList W h hx1 C HC
    obtain ⟨ss, Hss⟩ : ∃ s : SgT, Hid (s = ⟨getHO x1.data.toList, v2, digO x3⟩) := ⟨_, hidk rfl⟩
    have hsd : ss.h.d.length = 32 := by rw [Hss.out]; exact hhd
    have hsg : ss.g.length = 32 := by rw [Hss.out]; exact digO_length x3
    obtain ⟨Q, HQ, HSQ, H1Q, H69Q⟩ := sign_row ss hsd hsg
    have HZQ : Hid (Z.size = Q.size) := by show _ = _; rw [H69.out, H69Q.out]
    have BS : Hid (∀ W, (Instr.build 35 #[(0, .agg C), (1, .int .i64 v2), (2, .agg D)]).run Tryz.prog W = .ok (.agg Q) W) := fun W => built_sign W ss hsd hsg C D Q (by rw [Hss.out]; exact HC) (by rw [Hss.out]; exact HD) HQ v2 (by rw [Hss.out])
    obtain ⟨bm, hbm⟩ : ∃ b, mayS ss = b := ⟨_, rfl⟩
    have MA : Hid (∀ W, Calls Tryz.prog 50 #[.agg Q] W fun e w' => e = .returned (.bool bm) ∧ Below W.heap.size W w') := fun W => by rw [← hbm]; exact refMay_any ss hsd W Q HQ
    have hO := getS_three hp ss (by rw [Hss.out, hv2]) E1 bd bm hE1 hbd hbm
    have HOK : Hid ((E1 = 0 ∧ bd = true ∧ bm = true) → R = Q ∧ getSE bs = 0) := fun hb => by
      have := hO.1 hb
      refine ⟨?_, by unfold getSE; rw [this]; rfl⟩
      rw [HR.out, HQ.out]; unfold getSO; rw [this]; rfl
    have HNO : Hid (¬ (E1 = 0 ∧ bd = true ∧ bm = true) → R = Z ∧ getSE bs = 70) := fun hb => by
      have := hO.2 hb
      refine ⟨?_, by unfold getSE; rw [this]; rfl⟩
      rw [HR.out, HZ.out]; unfold getSO; rw [this]; rfl
    have h12 : E1 = 0 ∨ E1 = 70 := by rw [hE1]; exact getHE_two _
    obtain ⟨E, hE⟩ : ∃ E, E = getSE bs := ⟨_, rfl⟩
    rw [← hE] at HOK HNO ⊢
    have HSZ : Hid ((Tryz.prog.info? 35).map (·.size) = some Z.size) := by show _ = _; rw [sizeS, H69.out]
    have H1Z : Hid (Z.all (·.oneCell') = true) := by show _ = _; rw [HZ.out]; exact one_cellsS _
    clear hE hO hbm hbd hp hl3 hsm hsz hm1 PA HR HZ HD HQ HC Hss hv2 hE1 hhd hdR hsd hsg hlen hl hx1 HZH HZD
    go_enter Tryz.func49, Tryz.ntmps49
    go_wp2_with (first
      | (show wpList _ _ _ ({ dst := some 2, op := _, type := _, pos := _, after := _, guard := _ } :: _) _ _; refine wpList_new_var rfl 35 rfl Z HA.out ?_; intro g2 w1 HM2; try simp only [Act.put, List.setIfInBounds_toArray, List.set_cons_zero, List.set_cons_succ])
      | fail)
    refine (PN.out _ HM2.out.below).mono ?_
    rintro e w2 ⟨⟨y, c, rfl, hy⟩, hb2⟩
    obtain ⟨b, off, rfl⟩ : ∃ b off, y = some ⟨b, off, none⟩ := by
      rcases hy.2 with h0 | ⟨b, off, e, _⟩
      · cases h0
      · exact ⟨b, off, e⟩
    have HY := hidk hy
    have HB2 := hidk (HM2.out.below.trans (hb2.mono HM2.out.below.size))
    have HR2 := hidk ((hb2.block _ (heap_lt HM2.out.row)).trans HM2.out.row)
    have h2 : w.heap.size ≤ g2 := Nat.le_of_eq HM2.out.new.symm
    have hc1 := text_cell hy 0 (by simp)
    simp only [List.getElem_cons_zero, List.getElem_cons_succ, Nat.add_zero] at hc1
    clear hb2 HM2 PN hy
    go_wp2_with (first
      | (show wpList _ _ _ ({ dst := some 22, op := _, type := _, pos := _, after := _, guard := _ } :: _) _ _; refine wpList_conv_text rfl 9 22 5 (.tmp 21) rfl x1 rfl Tryz.underlying9 Tryz.underlying22 Tryz.underlying5 hx1m ?_; intro b1 c1 w3 HX3; try simp only [Act.put, List.setIfInBounds_toArray, List.set_cons_zero, List.set_cons_succ])
      | fail)
    refine (GH.out _ _ _ HX3.out.1).mono ?_
    rintro e w4 ⟨rfl, hb4⟩
    have HX4 := hidk (HX3.out.2.trans (hb4.mono HX3.out.2.size))
    have HB4 := hidk (HB2.out.trans (HX4.out.mono HB2.out.size))
    have HR24 := hidk ((HX4.out.block _ (heap_lt HR2.out)).trans HR2.out)
    have HY4 := hidk (HY.out.keep HX4.out)
    clear hb4 HX3 HX4 HB2 HR2 HY GH hc1
    go_wp2_with (first
      | (show wpList _ _ _ ({ dst := some 6, op := _, type := _, pos := _, after := _, guard := _ } :: _) _ _; refine wpList_new_var rfl 33 rfl ZH HAH.out ?_; intro g6 w5 HM6; try simp only [Act.put, List.setIfInBounds_toArray, List.set_cons_zero, List.set_cons_succ])
      | (refine wpList_set_var rfl 33 (.tmp 6) (.tmp 24) rfl g6 C rfl rfl 33 ZH HM6.out.row HSC.out HZC.out H1C.out ?_; intro w6 HW6; have hx6 := hidk (HW6.out.below w4.heap.size w4 HM6.out.below (Nat.le_of_eq HM6.out.new.symm)); have hc3 := text_cell (HY4.out.keep hx6.out) 2 (by simp); simp only [List.getElem_cons_zero, List.getElem_cons_succ] at hc3; try simp only [Act.put, List.setIfInBounds_toArray, List.set_cons_zero, List.set_cons_succ])
      | fail)
    have h6 : g2 < g6 := by rw [HM6.out.new]; exact heap_lt HR24.out
    have HB6 := hidk (HB4.out.trans (hx6.out.mono HB4.out.size))
    have HR26 := hidk ((hx6.out.block _ (heap_lt HR24.out)).trans HR24.out)
    have HY6 := hidk (HY4.out.keep hx6.out)
    have HR66 := hidk HW6.out.row
    clear HM6 HW6 hx6 HB4 HR24 HY4
    refine (DG.out _).mono ?_
    rintro e w7 ⟨rfl, hb7⟩
    have HB7 := hidk (HB6.out.trans (hb7.mono HB6.out.size))
    have HR27 := hidk ((hb7.block _ (heap_lt HR26.out)).trans HR26.out)
    have HR67 := hidk ((hb7.block _ (heap_lt HR66.out)).trans HR66.out)
    have HY7 := hidk (HY6.out.keep hb7)
    clear hb7 HB6 HR26 HR66 HY6 DG hc3
    go_wp2_with (first
      | (show wpList _ _ _ ({ dst := some 8, op := _, type := _, pos := _, after := _, guard := _ } :: _) _ _; refine wpList_new_var rfl 25 rfl ZD HAD.out ?_; intro g8 w8 HM8; try simp only [Act.put, List.setIfInBounds_toArray, List.set_cons_zero, List.set_cons_succ])
      | (refine wpList_set_var rfl 25 (.tmp 8) (.tmp 31) rfl g8 D rfl rfl 25 ZD HM8.out.row HSD.out HZDD.out H1D.out ?_; intro w9 HW8; try simp only [Act.put, List.setIfInBounds_toArray, List.set_cons_zero, List.set_cons_succ])
      | fail)
    have h8 : g6 < g8 := by rw [HM8.out.new]; exact heap_lt HR67.out
    have HX9 := hidk (HW8.out.below w7.heap.size w7 HM8.out.below (Nat.le_of_eq HM8.out.new.symm))
    have HBc := hidk (HB7.out.trans (HX9.out.mono HB7.out.size)).drew
    have HR29 := hidk ((HX9.out.block _ (heap_lt HR27.out)).trans HR27.out)
    have HR69 := hidk ((HX9.out.block _ (heap_lt HR67.out)).trans HR67.out)
    have HY9 := hidk (HY7.out.keep HX9.out)
    have HR89 := hidk HW8.out.row
    have HTB : Hid (b < g8) := by
      show b < g8
      rcases HY7.out.2 with h0 | ⟨b', off', e, hlt, _⟩
      · cases h0
      · cases e; rw [HM8.out.new]; exact hlt
    clear HM8 HW8 HX9 HB7 HR27 HR67 HY7
    refine wp_region_held_drew (S := (fun W => Texts W (some ⟨b, off, none⟩) 3 [x1, x2, x3] ∧ W.heap[g6]? = some (.cells C 33 (0, 0)) ∧ W.heap[g8]? = some (.cells D 25 (0, 0)) ∧ W.heap[g2]? = some (.cells Z 35 (0, 0)))) (by kernel_rfl) ⟨HY9.out.keep (Below.refl _ _).drew, HR69.out, HR89.out, HR29.out⟩ (fun hHeld => ?_)
    refine wpAnyH_take (i := 0) (oi := { dst := some 33, op := Op.load 33 (Operand.tmp 6), type := 33, pos := "ref.go:147", after := #[], guard := none }) (v := .agg C) rfl (by kernel_rfl) (by kernel_rfl) (by kernel_rfl) (fun _ _ _ h => h) (yieldsIf_row (by rfl) 33 (.tmp 6) rfl g6 rfl 33 C (0, 0) _ (fun _ h => h.2.1) Tryz.underlying33 rfl HSC.out) hHeld ?_
    try simp only [Act.put, List.setIfInBounds_toArray, List.set_cons_zero, List.set_cons_succ]
    refine wpAnyH_take (i := 1) (oi := { dst := some 34, op := Op.move (Operand.tmp 4), type := 53, pos := "ref.go:147", after := #[], guard := none }) (v := .slice (some ⟨b, off, none⟩) 3 c) rfl (by kernel_rfl) (by kernel_rfl) (by kernel_rfl) (fun _ _ _ h => h) (Or.inl ⟨by rfl, by intro W hSw; go_simp⟩) hHeld ?_
    try simp only [Act.put, List.setIfInBounds_toArray, List.set_cons_zero, List.set_cons_succ]
    refine wpAnyH_take (i := 2) (oi := { dst := some 35, op := Op.indexAddr 53 (Operand.tmp 34) (Operand.const (Value.int IntKind.i64 1)), type := 0, pos := "ref.go:147", after := #[{ on := 1, ground := Ground.data }], guard := none }) (v := .pointer (some ⟨b, off + 1, none⟩)) rfl (by kernel_rfl) (by kernel_rfl) (by kernel_rfl) (fun _ _ _ h => h) (Or.inl ⟨by rfl, by intro W hSw; go_simp⟩) hHeld ?_
    try simp only [Act.put, List.setIfInBounds_toArray, List.set_cons_zero, List.set_cons_succ]
    refine wpAnyH_take (i := 3) (oi := { dst := some 36, op := Op.load 9 (Operand.tmp 35), type := 9, pos := "ref.go:147", after := #[{ on := 2, ground := Ground.data }], guard := none }) (v := .string x2) rfl (by kernel_rfl) (by kernel_rfl) (by kernel_rfl) (fun _ _ _ h => h) (Or.inl ⟨by rfl, by intro W hSw; have h1 := text_cell hSw.1 1 (by simp); simp only [List.getElem_cons_zero, List.getElem_cons_succ, Nat.add_zero] at h1; go_simp⟩) hHeld ?_
    try simp only [Act.put, List.setIfInBounds_toArray, List.set_cons_zero, List.set_cons_succ]
    refine wpAnyH_take (i := 5) (oi := { dst := some 38, op := Op.load 25 (Operand.tmp 8), type := 25, pos := "ref.go:147", after := #[], guard := none }) (v := .agg D) rfl (by kernel_rfl) (by kernel_rfl) (by kernel_rfl) (fun _ _ _ h => h) (yieldsIf_row (by rfl) 25 (.tmp 8) rfl g8 rfl 25 D (0, 0) _ (fun _ h => h.2.2.1) Tryz.underlying25 rfl HSD.out) hHeld ?_
    try simp only [Act.put, List.setIfInBounds_toArray, List.set_cons_zero, List.set_cons_succ]
    refine wpAnyH_ready (rs := [4, 7]) (by kernel_rfl) (by simp) ?_
    refine (AllReadyH.cons (o := { dst := some 37, op := Op.call { callee := Callee.value (Operand.func 21), args := #[Operand.tmp 36], argTypes := #[9] }, type := 3, pos := "ref.go:147", after := #[{ on := 3, ground := Ground.data }], guard := none }) rfl (fun K hK => ?_) (AllReadyH.cons (o := { dst := some 9, op := Op.alloc 35, type := 0, pos := "ref.go:147", after := #[], guard := none }) rfl (fun K hK => ?_) AllReadyH.nil))
    · go_simp
      refine (V2.out _).mono ?_
      rintro e w10 ⟨rfl, hb10⟩
      replace HBc := hidk (HBc.out.trans (hb10.mono HBc.out.size))
      try replace HR9 := hidk ((hb10.block _ (heap_lt HR9.out)).trans HR9.out)
      go_wp2_with fail
      refine hK.out _ _ ⟨hHeld.1.keep hb10, (hb10.block _ (heap_lt hHeld.2.1)).trans hHeld.2.1, (hb10.block _ (heap_lt hHeld.2.2.1)).trans hHeld.2.2.1, (hb10.block _ (heap_lt hHeld.2.2.2)).trans hHeld.2.2.2⟩ (fun hHeld => ?_)
      clear hK K
      try simp only [Act.put, List.setIfInBounds_toArray, List.set_cons_zero, List.set_cons_succ]
      refine wpAnyH_take (i := 6) (oi := { dst := some 39, op := Op.build 35 #[(0, Operand.tmp 33), (1, Operand.tmp 37), (2, Operand.tmp 38)], type := 35, pos := "ref.go:147", after := #[{ on := 0, ground := Ground.data }, { on := 4, ground := Ground.data }, { on := 5, ground := Ground.data }], guard := none }) (v := .agg Q) rfl (by kernel_rfl) (by kernel_rfl) (by kernel_rfl) (fun _ _ _ h => h) (yieldsIf_build (by rfl) 35 _ rfl #[(0, .agg C), (1, .int .i64 v2), (2, .agg D)] rfl (.agg Q) BS.out) hHeld ?_
      try simp only [Act.put, List.setIfInBounds_toArray, List.set_cons_zero, List.set_cons_succ]
      refine wpAnyH_ready (rs := [7]) (by kernel_rfl) (by simp) ?_
      refine (AllReadyH.cons (o := { dst := some 9, op := Op.alloc 35, type := 0, pos := "ref.go:147", after := #[], guard := none }) rfl (fun K hK => ?_) AllReadyH.nil)
      refine step_new_var (by rfl) 35 rfl Z HA.out ?_
      intro g9 wg HM9
      have HR9 := hidk HM9.out.row
      have HG9 : Hid (g8 < g9) := (by show g8 < g9; rw [HM9.out.new]; exact heap_lt hHeld.2.2.1)
      replace HBc := hidk (HBc.out.trans (HM9.out.below.mono HBc.out.size))
      refine hK.out _ _ ⟨hHeld.1.keep HM9.out.below, (HM9.out.below.block _ (heap_lt hHeld.2.1)).trans hHeld.2.1, (HM9.out.below.block _ (heap_lt hHeld.2.2.1)).trans hHeld.2.2.1, (HM9.out.below.block _ (heap_lt hHeld.2.2.2)).trans hHeld.2.2.2⟩ (fun hHeld => ?_)
      clear hK K
      try simp only [Act.put, List.setIfInBounds_toArray, List.set_cons_zero, List.set_cons_succ]
      refine wpAnyH_ready (rs := [8]) (by kernel_rfl) (by simp) ?_
      refine (AllReadyH.cons (o := { dst := none, op := Op.store 35 (Operand.tmp 9) (Operand.tmp 39), type := 0, pos := "ref.go:147", after := #[{ on := 7, ground := Ground.data }, { on := 6, ground := Ground.data }, { on := 4, ground := Ground.chain }, { on := 0, ground := Ground.phase }, { on := 1, ground := Ground.phase }, { on := 2, ground := Ground.phase }, { on := 3, ground := Ground.phase }, { on := 4, ground := Ground.phase }, { on := 5, ground := Ground.phase }, { on := 6, ground := Ground.phase }, { on := 7, ground := Ground.phase }], guard := none }) rfl (fun K hK => ?_) AllReadyH.nil)
      refine step_set_var (by rfl) 35 (.tmp 9) (.tmp 39) rfl g9 Q rfl rfl 35 Z HR9.out HSQ.out HZQ.out H1Q.out ?_
      intro wz HW9
      refine hK.out _ _ ⟨texts_wrote hHeld.1 HW9.out (by have := HG9.out; have := HTB.out; omega), (HW9.out.other _ (by have := HG9.out; omega)).trans hHeld.2.1, (HW9.out.other _ (by have := HG9.out; omega)).trans hHeld.2.2.1, (HW9.out.other _ (by have := HG9.out; omega)).trans hHeld.2.2.2⟩ (fun hHeld => ?_)
      clear hK K
      try simp only [Act.put, List.setIfInBounds_toArray, List.set_cons_zero, List.set_cons_succ]
      refine wpAnyH_done (by kernel_rfl) ?_ _
      have h9 : g8 < g9 := HG9.out
      have HR9z := hidk HW9.out.row
      have HR2z := hidk hHeld.2.2.2
      have HBz := hidk (HW9.out.below w.heap.size w HBc.out (by omega))
      clear HW9 HBc hHeld HR9
      rcases h12 with rfl | rfl
      rotate_left
      · obtain ⟨rfl, rfl⟩ := HNO.out (by simp)
        go_wp2_with (first
          | (show wpList _ _ _ ({ dst := some 51, op := _, type := _, pos := _, after := _, guard := _ } :: _) _ _; refine wpList_build_none rfl 35 rfl R HBZ.out ?_; try simp only [Act.put, List.setIfInBounds_toArray, List.set_cons_zero, List.set_cons_succ])
          | (refine wpList_set_var rfl 35 (.tmp 2) (.tmp 51) rfl g2 R rfl rfl 35 R HR2z.out HSZ.out rfl H1Z.out ?_; intro wz HW2; try simp only [Act.put, List.setIfInBounds_toArray, List.set_cons_zero, List.set_cons_succ])
          | fail)
        refine bodyPost_ret (v := .tuple #[.agg R, .int .i64 70]) ?_ rfl ⟨rfl, HW2.out.below w.heap.size w HBz.out h2⟩
        exact results_row_tmp (p := 2) (q := 3) (ty := 35) rfl _ _ g2 35 R (0, 0) _ rfl HW2.out.row Tryz.underlying35 rfl HSZ.out
      · cases bd
        · obtain ⟨rfl, rfl⟩ := HNO.out (by simp)
          go_wp2_with (first
            | (show wpList _ _ _ ({ dst := some 51, op := _, type := _, pos := _, after := _, guard := _ } :: _) _ _; refine wpList_build_none rfl 35 rfl R HBZ.out ?_; try simp only [Act.put, List.setIfInBounds_toArray, List.set_cons_zero, List.set_cons_succ])
            | (refine wpList_set_var rfl 35 (.tmp 2) (.tmp 51) rfl g2 R rfl rfl 35 R HR2z.out HSZ.out rfl H1Z.out ?_; intro wz HW2; try simp only [Act.put, List.setIfInBounds_toArray, List.set_cons_zero, List.set_cons_succ])
            | fail)
          refine bodyPost_ret (v := .tuple #[.agg R, .int .i64 70]) ?_ rfl ⟨rfl, HW2.out.below w.heap.size w HBz.out h2⟩
          exact results_row_tmp (p := 2) (q := 3) (ty := 35) rfl _ _ g2 35 R (0, 0) _ rfl HW2.out.row Tryz.underlying35 rfl HSZ.out
        · go_wp2_with (first
            | (show wpList _ _ _ ({ dst := some 47, op := _, type := _, pos := _, after := _, guard := _ } :: _) _ _; refine wpList_load_row_w (by rfl) 35 (.tmp 9) rfl g9 rfl 35 Q (0, 0) _ HR9z.out Tryz.underlying35 rfl HSQ.out ?_; try simp only [Act.put, List.setIfInBounds_toArray, List.set_cons_zero, List.set_cons_succ])
            | fail)
          refine (MA.out _).mono ?_
          rintro e wr ⟨rfl, hbr⟩
          have HBr := hidk (HBz.out.trans (hbr.mono HBz.out.size))
          have HR9r := hidk ((hbr.block _ (heap_lt HR9z.out)).trans HR9z.out)
          have HR2r := hidk ((hbr.block _ (heap_lt HR2z.out)).trans HR2z.out)
          clear hbr HBz HR9z HR2z MA
          cases bm
          · obtain ⟨rfl, rfl⟩ := HNO.out (by simp)
            go_wp2_with (first
              | (show wpList _ _ _ ({ dst := some 51, op := _, type := _, pos := _, after := _, guard := _ } :: _) _ _; refine wpList_build_none rfl 35 rfl R HBZ.out ?_; try simp only [Act.put, List.setIfInBounds_toArray, List.set_cons_zero, List.set_cons_succ])
              | (refine wpList_set_var rfl 35 (.tmp 2) (.tmp 51) rfl g2 R rfl rfl 35 R HR2r.out HSZ.out rfl H1Z.out ?_; intro wz HW2; try simp only [Act.put, List.setIfInBounds_toArray, List.set_cons_zero, List.set_cons_succ])
              | fail)
            refine bodyPost_ret (v := .tuple #[.agg R, .int .i64 70]) ?_ rfl ⟨rfl, HW2.out.below w.heap.size w HBr.out h2⟩
            exact results_row_tmp (p := 2) (q := 3) (ty := 35) rfl _ _ g2 35 R (0, 0) _ rfl HW2.out.row Tryz.underlying35 rfl HSZ.out
          · obtain ⟨rfl, rfl⟩ := HOK.out (by simp)
            go_wp2_with (first
              | (show wpList _ _ _ ({ dst := some 52, op := _, type := _, pos := _, after := _, guard := _ } :: _) _ _; refine wpList_load_row rfl 35 (.tmp 9) rfl g9 rfl 35 R (0, 0) _ HR9r.out Tryz.underlying35 rfl HSQ.out ?_; try simp only [Act.put, List.setIfInBounds_toArray, List.set_cons_zero, List.set_cons_succ])
              | (refine wpList_set_var rfl 35 (.tmp 2) (.tmp 52) rfl g2 R rfl rfl 35 Z HR2r.out HSR.out HZR.out H1R.out ?_; intro wz HW2; try simp only [Act.put, List.setIfInBounds_toArray, List.set_cons_zero, List.set_cons_succ])
              | fail)
            refine bodyPost_ret (v := .tuple #[.agg R, .int .i64 0]) ?_ rfl ⟨rfl, HW2.out.below w.heap.size w HBr.out h2⟩
            exact results_row_tmp (p := 2) (q := 3) (ty := 35) rfl _ _ g2 35 R (0, 0) _ rfl HW2.out.row Tryz.underlying35 rfl HSR.out
    · refine step_new_var (by rfl) 35 rfl Z HA.out ?_
      intro g9 wg HM9
      have HR9 := hidk HM9.out.row
      have HG9 : Hid (g8 < g9) := (by show g8 < g9; rw [HM9.out.new]; exact heap_lt hHeld.2.2.1)
      replace HBc := hidk (HBc.out.trans (HM9.out.below.mono HBc.out.size))
      refine hK.out _ _ ⟨hHeld.1.keep HM9.out.below, (HM9.out.below.block _ (heap_lt hHeld.2.1)).trans hHeld.2.1, (HM9.out.below.block _ (heap_lt hHeld.2.2.1)).trans hHeld.2.2.1, (HM9.out.below.block _ (heap_lt hHeld.2.2.2)).trans hHeld.2.2.2⟩ (fun hHeld => ?_)
      clear hK K
      try simp only [Act.put, List.setIfInBounds_toArray, List.set_cons_zero, List.set_cons_succ]
      refine wpAnyH_ready (rs := [4]) (by kernel_rfl) (by simp) ?_
      refine (AllReadyH.cons (o := { dst := some 37, op := Op.call { callee := Callee.value (Operand.func 21), args := #[Operand.tmp 36], argTypes := #[9] }, type := 3, pos := "ref.go:147", after := #[{ on := 3, ground := Ground.data }], guard := none }) rfl (fun K hK => ?_) AllReadyH.nil)
      go_simp
      refine (V2.out _).mono ?_
      rintro e w10 ⟨rfl, hb10⟩
      replace HBc := hidk (HBc.out.trans (hb10.mono HBc.out.size))
      try replace HR9 := hidk ((hb10.block _ (heap_lt HR9.out)).trans HR9.out)
      go_wp2_with fail
      refine hK.out _ _ ⟨hHeld.1.keep hb10, (hb10.block _ (heap_lt hHeld.2.1)).trans hHeld.2.1, (hb10.block _ (heap_lt hHeld.2.2.1)).trans hHeld.2.2.1, (hb10.block _ (heap_lt hHeld.2.2.2)).trans hHeld.2.2.2⟩ (fun hHeld => ?_)
      clear hK K
      try simp only [Act.put, List.setIfInBounds_toArray, List.set_cons_zero, List.set_cons_succ]
      refine wpAnyH_take (i := 6) (oi := { dst := some 39, op := Op.build 35 #[(0, Operand.tmp 33), (1, Operand.tmp 37), (2, Operand.tmp 38)], type := 35, pos := "ref.go:147", after := #[{ on := 0, ground := Ground.data }, { on := 4, ground := Ground.data }, { on := 5, ground := Ground.data }], guard := none }) (v := .agg Q) rfl (by kernel_rfl) (by kernel_rfl) (by kernel_rfl) (fun _ _ _ h => h) (yieldsIf_build (by rfl) 35 _ rfl #[(0, .agg C), (1, .int .i64 v2), (2, .agg D)] rfl (.agg Q) BS.out) hHeld ?_
      try simp only [Act.put, List.setIfInBounds_toArray, List.set_cons_zero, List.set_cons_succ]
      refine wpAnyH_ready (rs := [8]) (by kernel_rfl) (by simp) ?_
      refine (AllReadyH.cons (o := { dst := none, op := Op.store 35 (Operand.tmp 9) (Operand.tmp 39), type := 0, pos := "ref.go:147", after := #[{ on := 7, ground := Ground.data }, { on := 6, ground := Ground.data }, { on := 4, ground := Ground.chain }, { on := 0, ground := Ground.phase }, { on := 1, ground := Ground.phase }, { on := 2, ground := Ground.phase }, { on := 3, ground := Ground.phase }, { on := 4, ground := Ground.phase }, { on := 5, ground := Ground.phase }, { on := 6, ground := Ground.phase }, { on := 7, ground := Ground.phase }], guard := none }) rfl (fun K hK => ?_) AllReadyH.nil)
      refine step_set_var (by rfl) 35 (.tmp 9) (.tmp 39) rfl g9 Q rfl rfl 35 Z HR9.out HSQ.out HZQ.out H1Q.out ?_
      intro wz HW9
      refine hK.out _ _ ⟨texts_wrote hHeld.1 HW9.out (by have := HG9.out; have := HTB.out; omega), (HW9.out.other _ (by have := HG9.out; omega)).trans hHeld.2.1, (HW9.out.other _ (by have := HG9.out; omega)).trans hHeld.2.2.1, (HW9.out.other _ (by have := HG9.out; omega)).trans hHeld.2.2.2⟩ (fun hHeld => ?_)
      clear hK K
      try simp only [Act.put, List.setIfInBounds_toArray, List.set_cons_zero, List.set_cons_succ]
      refine wpAnyH_done (by kernel_rfl) ?_ _
      have h9 : g8 < g9 := HG9.out
      have HR9z := hidk HW9.out.row
      have HR2z := hidk hHeld.2.2.2
      have HBz := hidk (HW9.out.below w.heap.size w HBc.out (by omega))
      clear HW9 HBc hHeld HR9
      rcases h12 with rfl | rfl
      rotate_left
      · obtain ⟨rfl, rfl⟩ := HNO.out (by simp)
        go_wp2_with (first
          | (show wpList _ _ _ ({ dst := some 51, op := _, type := _, pos := _, after := _, guard := _ } :: _) _ _; refine wpList_build_none rfl 35 rfl R HBZ.out ?_; try simp only [Act.put, List.setIfInBounds_toArray, List.set_cons_zero, List.set_cons_succ])
          | (refine wpList_set_var rfl 35 (.tmp 2) (.tmp 51) rfl g2 R rfl rfl 35 R HR2z.out HSZ.out rfl H1Z.out ?_; intro wz HW2; try simp only [Act.put, List.setIfInBounds_toArray, List.set_cons_zero, List.set_cons_succ])
          | fail)
        refine bodyPost_ret (v := .tuple #[.agg R, .int .i64 70]) ?_ rfl ⟨rfl, HW2.out.below w.heap.size w HBz.out h2⟩
        exact results_row_tmp (p := 2) (q := 3) (ty := 35) rfl _ _ g2 35 R (0, 0) _ rfl HW2.out.row Tryz.underlying35 rfl HSZ.out
      · cases bd
        · obtain ⟨rfl, rfl⟩ := HNO.out (by simp)
          go_wp2_with (first
            | (show wpList _ _ _ ({ dst := some 51, op := _, type := _, pos := _, after := _, guard := _ } :: _) _ _; refine wpList_build_none rfl 35 rfl R HBZ.out ?_; try simp only [Act.put, List.setIfInBounds_toArray, List.set_cons_zero, List.set_cons_succ])
            | (refine wpList_set_var rfl 35 (.tmp 2) (.tmp 51) rfl g2 R rfl rfl 35 R HR2z.out HSZ.out rfl H1Z.out ?_; intro wz HW2; try simp only [Act.put, List.setIfInBounds_toArray, List.set_cons_zero, List.set_cons_succ])
            | fail)
          refine bodyPost_ret (v := .tuple #[.agg R, .int .i64 70]) ?_ rfl ⟨rfl, HW2.out.below w.heap.size w HBz.out h2⟩
          exact results_row_tmp (p := 2) (q := 3) (ty := 35) rfl _ _ g2 35 R (0, 0) _ rfl HW2.out.row Tryz.underlying35 rfl HSZ.out
        · go_wp2_with (first
            | (show wpList _ _ _ ({ dst := some 47, op := _, type := _, pos := _, after := _, guard := _ } :: _) _ _; refine wpList_load_row_w (by rfl) 35 (.tmp 9) rfl g9 rfl 35 Q (0, 0) _ HR9z.out Tryz.underlying35 rfl HSQ.out ?_; try simp only [Act.put, List.setIfInBounds_toArray, List.set_cons_zero, List.set_cons_succ])
            | fail)
          refine (MA.out _).mono ?_
          rintro e wr ⟨rfl, hbr⟩
          have HBr := hidk (HBz.out.trans (hbr.mono HBz.out.size))
          have HR9r := hidk ((hbr.block _ (heap_lt HR9z.out)).trans HR9z.out)
          have HR2r := hidk ((hbr.block _ (heap_lt HR2z.out)).trans HR2z.out)
          clear hbr HBz HR9z HR2z MA
          cases bm
          · obtain ⟨rfl, rfl⟩ := HNO.out (by simp)
            go_wp2_with (first
              | (show wpList _ _ _ ({ dst := some 51, op := _, type := _, pos := _, after := _, guard := _ } :: _) _ _; refine wpList_build_none rfl 35 rfl R HBZ.out ?_; try simp only [Act.put, List.setIfInBounds_toArray, List.set_cons_zero, List.set_cons_succ])
              | (refine wpList_set_var rfl 35 (.tmp 2) (.tmp 51) rfl g2 R rfl rfl 35 R HR2r.out HSZ.out rfl H1Z.out ?_; intro wz HW2; try simp only [Act.put, List.setIfInBounds_toArray, List.set_cons_zero, List.set_cons_succ])
              | fail)
            refine bodyPost_ret (v := .tuple #[.agg R, .int .i64 70]) ?_ rfl ⟨rfl, HW2.out.below w.heap.size w HBr.out h2⟩
            exact results_row_tmp (p := 2) (q := 3) (ty := 35) rfl _ _ g2 35 R (0, 0) _ rfl HW2.out.row Tryz.underlying35 rfl HSZ.out
          · obtain ⟨rfl, rfl⟩ := HOK.out (by simp)
            go_wp2_with (first
              | (show wpList _ _ _ ({ dst := some 52, op := _, type := _, pos := _, after := _, guard := _ } :: _) _ _; refine wpList_load_row rfl 35 (.tmp 9) rfl g9 rfl 35 R (0, 0) _ HR9r.out Tryz.underlying35 rfl HSQ.out ?_; try simp only [Act.put, List.setIfInBounds_toArray, List.set_cons_zero, List.set_cons_succ])
              | (refine wpList_set_var rfl 35 (.tmp 2) (.tmp 52) rfl g2 R rfl rfl 35 Z HR2r.out HSR.out HZR.out H1R.out ?_; intro wz HW2; try simp only [Act.put, List.setIfInBounds_toArray, List.set_cons_zero, List.set_cons_succ])
              | fail)
            refine bodyPost_ret (v := .tuple #[.agg R, .int .i64 0]) ?_ rfl ⟨rfl, HW2.out.below w.heap.size w HBr.out h2⟩
            exact results_row_tmp (p := 2) (q := 3) (ty := 35) rfl _ _ g2 35 R (0, 0) _ rfl HW2.out.row Tryz.underlying35 rfl HSR.out
end Go.Proofs.YtgkfodmccfnaoaaGreatDoor

/- Heads and signed heads held against each other by == and !=. -/
namespace Go.Proofs.YtgkfodmccfnaoaaGreatDoor
open Go.RowKit Sums Nums
set_option linter.unusedVariables false
set_option linter.unusedSimpArgs false
set_option maxRecDepth 100000
theorem sizeOfDD (w : World) : (sizeOf 25).run Tryz.prog w = .ok 32 w := by
  cases hq : Tryz.prog.info? 25 with
  | none => have := size23; simp [hq] at this
  | some i => have := size23; simp [hq] at this; simp [sizeOf, typeInfo, hq, this]
theorem sizeOfHH (w : World) : (sizeOf 33).run Tryz.prog w = .ok 36 w := by
  cases hq : Tryz.prog.info? 33 with
  | none => have := sizeH; simp [hq] at this
  | some i => have := sizeH; simp [hq] at this; simp [sizeOf, typeInfo, hq, this]
theorem cut_list (l : List Value) (off n : Nat) (m : List Value) (h : (l.drop off).take n = m) : l.toArray.extract off (off + n) = m.toArray := by
  rw [← h, List.extract_toArray, List.extract_eq_take_drop, Nat.add_sub_cancel_left]
theorem part_dig (l : List Value) (off : Nat) (m : List Value) (h : (l.drop off).take 32 = m) (w : World) : (Go.part 25 l.toArray off).run Tryz.prog w = .ok (.agg m.toArray) w := by
  have e := cut_list l off 32 m h
  simp only [Go.part, isAgg, run_underlying Tryz.underlying25, sizeOfDD, Sem.run_bind, Sem.run_pure, Result.andThen_ok, if_true, e]
theorem part_head (l : List Value) (off : Nat) (m : List Value) (h : (l.drop off).take 36 = m) (w : World) : (Go.part 33 l.toArray off).run Tryz.prog w = .ok (.agg m.toArray) w := by
  have e := cut_list l off 36 m h
  simp only [Go.part, isAgg, run_underlying Tryz.underlying33, sizeOfHH, Sem.run_bind, Sem.run_pure, Result.andThen_ok, if_true, e]
theorem part_int (l : List Value) (off : Nat) (v : Value) (h : l[off]? = some v) (w : World) : (Go.part 3 l.toArray off).run Tryz.prog w = .ok v w := by
  simp [Go.part, isAgg, run_underlying Tryz.underlying3, h]
theorem heldH : Tryz.prog.stoodInHeld 33 = false := by kernel_rfl
theorem heldS : Tryz.prog.stoodInHeld 35 = false := by kernel_rfl
theorem hcells_d (h : HdT) (hd : h.d.length = 32) : ((hcells h).drop 3).take 32 = cellsOf h.d := by
  show (cellsOf h.d ++ [Value.int .i64 h.t]).take 32 = _
  rw [List.take_left' (by rw [cellsOf_length, hd])]
theorem hcells_t (h : HdT) (hd : h.d.length = 32) : (hcells h)[35]? = some (.int .i64 h.t) := by
  unfold hcells
  rw [List.getElem?_append_right (by simp [cellsOf_length, hd])]
  simp [cellsOf_length, hd]
theorem scells_h (s : SgT) (hd : s.h.d.length = 32) : ((scells s).drop 0).take 36 = hcells s.h := by
  unfold scells
  rw [List.drop_zero, List.append_assoc, List.take_left' (hcells_length _ hd)]
theorem scells_n (s : SgT) (hd : s.h.d.length = 32) : (scells s)[36]? = some (.int .i64 s.n) := by
  unfold scells
  rw [List.append_assoc, List.getElem?_append_right (by rw [hcells_length _ hd]; omega), hcells_length _ hd]
  rfl
theorem scells_g (s : SgT) (hd : s.h.d.length = 32) (hg : s.g.length = 32) : ((scells s).drop 37).take 32 = cellsOf s.g := by
  unfold scells
  rw [List.drop_left' (by simp [hcells_length _ hd]), List.take_of_length_le (by rw [cellsOf_length, hg]; omega)]
theorem equalHead (d : Nat) (a b : HdT) (ha : a.d.length = 32) (hb : b.d.length = 32) (x : Bool) (hx : x = true ↔ a = b) (w : World) : (Op.equalIn (d + 4) 33 (.agg (hcells a).toArray) (.agg (hcells b).toArray)).run Tryz.prog w = .ok x w := by
  have hf : Tryz.prog.fieldsOf 33 = #[{ name := "Region", type := 3, offset := 0, embedded := false, tag := "", pkgPath := "", byteOffset := 0 }, { name := "Epoch", type := 3, offset := 1, embedded := false, tag := "", pkgPath := "", byteOffset := 8 }, { name := "Size", type := 3, offset := 2, embedded := false, tag := "", pkgPath := "", byteOffset := 16 }, { name := "Root", type := 25, offset := 3, embedded := false, tag := "", pkgPath := "", byteOffset := 24 }, { name := "Tick", type := 3, offset := 35, embedded := false, tag := "", pkgPath := "", byteOffset := 56 }] := by
    unfold Program.fieldsOf; rw [Tryz.underlying33]
  have p0 := fun (h : HdT) W => part_int (hcells h) 0 (.int .i64 h.r) rfl W
  have p1 := fun (h : HdT) W => part_int (hcells h) 1 (.int .i64 h.e) rfl W
  have p2 := fun (h : HdT) W => part_int (hcells h) 2 (.int .i64 h.s) rfl W
  have p3a := fun W => part_dig (hcells a) 3 _ (hcells_d a ha) W
  have p3b := fun W => part_dig (hcells b) 3 _ (hcells_d b hb) W
  have p4a := fun W => part_int (hcells a) 35 _ (hcells_t a ha) W
  have p4b := fun W => part_int (hcells b) 35 _ (hcells_t b hb) W
  have ei := fun (x y : Int) W => run_equalIn_int (P := Tryz.prog) W (d + 2) 3 .i64 .i64 x y Tryz.underlying3
  have ed : ∀ W, (Op.equalIn (d + 3) 25 (.agg (cellsOf a.d).toArray) (.agg (cellsOf b.d).toArray)).run Tryz.prog W = .ok (a.d == b.d) W := fun W => run_equalIn_bytes (P := Tryz.prog) W (d + 1) 25 5 32 Tryz.underlying25 Tryz.underlying5 sizeOf5 a.d b.d ha hb
  rw [run_equalIn_struct w (d + 3) 33 _ _ (by rw [hf]; exact Tryz.underlying33) heldH, hf]
  obtain ⟨b0, h0⟩ : ∃ x, (a.r == b.r) = x := ⟨_, rfl⟩
  obtain ⟨b1, h1⟩ : ∃ x, (a.e == b.e) = x := ⟨_, rfl⟩
  obtain ⟨b2, h2⟩ : ∃ x, (a.s == b.s) = x := ⟨_, rfl⟩
  obtain ⟨b3, h3⟩ : ∃ x, (a.d == b.d) = x := ⟨_, rfl⟩
  obtain ⟨b4, h4⟩ : ∃ x, (a.t == b.t) = x := ⟨_, rfl⟩
  have hq : x = (b0 && b1 && b2 && b3 && b4) := by
    rw [← h0, ← h1, ← h2, ← h3, ← h4, Bool.eq_iff_iff]
    rw [hx]
    simp only [Bool.and_eq_true, beq_iff_eq]
    constructor
    · rintro rfl; simp
    · rintro ⟨⟨⟨⟨e0, e1⟩, e2⟩, e3⟩, e4⟩
      cases a; cases b
      simp only at e0 e1 e2 e3 e4
      rw [e0, e1, e2, e3, e4]
  have x0 := ei a.r b.r
  have x1 := ei a.e b.e
  have x2 := ei a.s b.s
  have x4 := ei a.t b.t
  rw [h0] at x0
  rw [h1] at x1
  rw [h2] at x2
  rw [h3] at ed
  rw [h4] at x4
  rw [hq]
  obtain ⟨A, hA⟩ : ∃ A, (hcells a).toArray = A := ⟨_, rfl⟩
  obtain ⟨B, hB⟩ : ∃ B, (hcells b).toArray = B := ⟨_, rfl⟩
  have p0a := p0 a
  have p0b := p0 b
  have p1a := p1 a
  have p1b := p1 b
  have p2a := p2 a
  have p2b := p2 b
  rw [hA] at p0a p1a p2a p3a p4a
  rw [hB] at p0b p1b p2b p3b p4b
  rw [hA, hB]
  obtain ⟨DA, hDA⟩ : ∃ D, (cellsOf a.d).toArray = D := ⟨_, rfl⟩
  obtain ⟨DB, hDB⟩ : ∃ D, (cellsOf b.d).toArray = D := ⟨_, rfl⟩
  rw [hDA] at p3a ed
  rw [hDB] at p3b ed
  simp [Op.eqFields, p0a, p0b, p1a, p1b, p2a, p2b, p3a, p3b, p4a, p4b, x0, x1, x2, x4, ed]
  cases b0 <;> cases b1 <;> cases b2 <;> cases b3 <;> cases b4 <;> simp
theorem equalSigned (d : Nat) (a b : SgT) (ha : a.h.d.length = 32) (hb : b.h.d.length = 32) (ga : a.g.length = 32) (gb : b.g.length = 32) (x : Bool) (hx : x = true ↔ a = b) (w : World) : (Op.equalIn (d + 5) 35 (.agg (scells a).toArray) (.agg (scells b).toArray)).run Tryz.prog w = .ok x w := by
  have hf : Tryz.prog.fieldsOf 35 = #[{ name := "Head", type := 33, offset := 0, embedded := false, tag := "", pkgPath := "", byteOffset := 0 }, { name := "Node", type := 3, offset := 36, embedded := false, tag := "", pkgPath := "", byteOffset := 64 }, { name := "Tag", type := 25, offset := 37, embedded := false, tag := "", pkgPath := "", byteOffset := 72 }] := by
    unfold Program.fieldsOf; rw [Tryz.underlying35]
  obtain ⟨b0, hb0⟩ : ∃ x : Bool, x = true ↔ a.h = b.h := by
    by_cases h : a.h = b.h
    · exact ⟨true, by simp [h]⟩
    · exact ⟨false, by simp [h]⟩
  have p0a := fun W => part_head (scells a) 0 _ (scells_h a ha) W
  have p0b := fun W => part_head (scells b) 0 _ (scells_h b hb) W
  have p1a := fun W => part_int (scells a) 36 _ (scells_n a ha) W
  have p1b := fun W => part_int (scells b) 36 _ (scells_n b hb) W
  have p2a := fun W => part_dig (scells a) 37 _ (scells_g a ha ga) W
  have p2b := fun W => part_dig (scells b) 37 _ (scells_g b hb gb) W
  have x0 : ∀ W, (Op.equalIn (d + 4) 33 (.agg (hcells a.h).toArray) (.agg (hcells b.h).toArray)).run Tryz.prog W = .ok b0 W := fun W => equalHead d a.h b.h ha hb b0 hb0 W
  have x1 := fun W => run_equalIn_int (P := Tryz.prog) W (d + 3) 3 .i64 .i64 a.n b.n Tryz.underlying3
  have x2 : ∀ W, (Op.equalIn (d + 4) 25 (.agg (cellsOf a.g).toArray) (.agg (cellsOf b.g).toArray)).run Tryz.prog W = .ok (a.g == b.g) W := fun W => run_equalIn_bytes (P := Tryz.prog) W (d + 2) 25 5 32 Tryz.underlying25 Tryz.underlying5 sizeOf5 a.g b.g ga gb
  rw [run_equalIn_struct w (d + 4) 35 _ _ (by rw [hf]; exact Tryz.underlying35) heldS, hf]
  obtain ⟨b1, h1⟩ : ∃ x, (a.n == b.n) = x := ⟨_, rfl⟩
  obtain ⟨b2, h2⟩ : ∃ x, (a.g == b.g) = x := ⟨_, rfl⟩
  have hq : x = (b0 && b1 && b2) := by
    rw [← h1, ← h2, Bool.eq_iff_iff]
    rw [hx]
    simp only [Bool.and_eq_true, beq_iff_eq, hb0]
    constructor
    · rintro rfl; simp
    · rintro ⟨⟨e0, e1⟩, e2⟩
      cases a; cases b
      simp only at e0 e1 e2
      rw [e0, e1, e2]
  rw [h1] at x1
  rw [h2] at x2
  rw [hq]
  obtain ⟨A, hA⟩ : ∃ A, (scells a).toArray = A := ⟨_, rfl⟩
  obtain ⟨B, hB⟩ : ∃ B, (scells b).toArray = B := ⟨_, rfl⟩
  rw [hA] at p0a p1a p2a
  rw [hB] at p0b p1b p2b
  rw [hA, hB]
  obtain ⟨DA, hDA⟩ : ∃ D, (cellsOf a.g).toArray = D := ⟨_, rfl⟩
  obtain ⟨DB, hDB⟩ : ∃ D, (cellsOf b.g).toArray = D := ⟨_, rfl⟩
  rw [hDA] at p2a x2
  rw [hDB] at p2b x2
  obtain ⟨EA, hEA⟩ : ∃ D, (hcells a.h).toArray = D := ⟨_, rfl⟩
  obtain ⟨EB, hEB⟩ : ∃ D, (hcells b.h).toArray = D := ⟨_, rfl⟩
  rw [hEA] at p0a x0
  rw [hEB] at p0b x0
  simp [Op.eqFields, p0a, p0b, p1a, p1b, p2a, p2b, x0, x1, x2]
  cases b0 <;> cases b1 <;> cases b2 <;> simp
theorem eqSigned (a b : SgT) (ha : a.h.d.length = 32) (hb : b.h.d.length = 32) (ga : a.g.length = 32) (gb : b.g.length = 32) (A B : Array Value) (HA : Hid (A = (scells a).toArray)) (HB : Hid (B = (scells b).toArray)) (x : Bool) (hx : x = true ↔ a = b) (w : World) : (binOp .eql 35 (.agg A) (.agg B)).run Tryz.prog w = .ok (.bool x) w := by
  rw [run_eql_struct, HA.out, HB.out, show (10000 : Nat) = 9995 + 5 from rfl, equalSigned 9995 a b ha hb ga gb x hx]; rfl
end Go.Proofs.YtgkfodmccfnaoaaGreatDoor

/- What the calls of package head answer, as the document says (their proofs are of one commit of the code). -/
namespace Go.Proofs.YtgkfodmccfnaoaaGreatDoor
open Go.RowKit Sums Nums
set_option linter.unusedVariables false
set_option linter.unusedSimpArgs false
set_option maxRecDepth 100000
/-- The tables that head reads. -/
def TabH (w : World) : Prop := Table 0 w
theorem TabH.keep {w w' : World} (h : TabH w) (hb : Below w.heap.size w w') : TabH w' := Table.keep h hb
def In64 (z : Int) : Prop := -9223372036854775808 ≤ z ∧ z ≤ 9223372036854775807
/-- A head that lies in a variable. -/
structure InH (h : HdT) : Prop where
  d : h.d.length = 32
  r : In64 h.r
  e : In64 h.e
  s : In64 h.s
  t : In64 h.t
structure InS (s : SgT) : Prop where
  h : InH s.h
  n : In64 s.n
  g : s.g.length = 32
/-- A row of bytes and an error. -/
def BytesE (bs : List UInt8) (E : Int) (e : Ending) (w' : World) : Prop := ∃ a cap, e = .returned (.tuple #[.slice a bs.length cap, .int .i64 E]) ∧ Reads w' a bs.length cap bs
def putB (h : HdT) : List UInt8 := if rightH h = true then headB h else []
def putE (h : HdT) : Int := if rightH h = true then 0 else 70
def putSB (s : SgT) : List UInt8 := if mayS s = true then signB s else []
def putSE (s : SgT) : Int := if mayS s = true then 0 else 70
theorem right_in {h : HdT} (hr : rightH h = true) (hd : h.d.length = 32) : InH h := by
  have := (rightH_iff h).1 hr
  refine ⟨hd, ?_, ?_, ?_, ?_⟩ <;> unfold In64 <;> omega
theorem zero_in : InH zeroH := ⟨rfl, by unfold In64; decide, by unfold In64; decide, by unfold In64; decide, by unfold In64; decide⟩
theorem may_in {s : SgT} (hm : mayS s = true) (hd : s.h.d.length = 32) (hg : s.g.length = 32) : InS s := by
  have := (mayS_iff s).1 hm
  exact ⟨right_in this.1 hd, by unfold In64; omega, hg⟩
theorem zeroS_in : InS zeroS := ⟨zero_in, by unfold In64; decide, rfl⟩
theorem getSO_in (bs : List UInt8) : InS (getSO bs) := by
  unfold getSO
  cases h : Go.Proofs.YtgkfodmccfnaoaaGreatDoor.getS bs with
  | none => exact zeroS_in
  | some x => exact may_in (getS_some h).1 (getS_some h).2.1 (getS_some h).2.2.1
end Go.Proofs.YtgkfodmccfnaoaaGreatDoor

/- Claims, entries and items as bytes, as the document defines them. -/
namespace Go.Proofs.YtgkfodmccfnaoaaGreatDoor
open Nums Sums
set_option linter.unusedVariables false
set_option maxRecDepth 100000
/-! Claims. -/
structure ClT where
  r : Int
  e : Int
  n : Int
  s : Int
  d : List UInt8
def zeroC : ClT := ⟨0, 0, 0, 0, List.replicate 32 0⟩
/-! Are two the same? -/
def eqHB (a b : HdT) : Bool := decide (a.r = b.r) && decide (a.e = b.e) && decide (a.s = b.s) && decide (a.d = b.d) && decide (a.t = b.t)
theorem eqHB_iff (a b : HdT) : eqHB a b = true ↔ a = b := by
  cases a; cases b
  unfold eqHB
  simp only [Bool.and_eq_true, decide_eq_true_eq, HdT.mk.injEq]
  constructor
  · rintro ⟨⟨⟨⟨h1, h2⟩, h3⟩, h4⟩, h5⟩; exact ⟨h1, h2, h3, h4, h5⟩
  · rintro ⟨h1, h2, h3, h4, h5⟩; exact ⟨⟨⟨⟨h1, h2⟩, h3⟩, h4⟩, h5⟩
def eqSB (a b : SgT) : Bool := eqHB a.h b.h && decide (a.n = b.n) && decide (a.g = b.g)
theorem eqSB_iff (a b : SgT) : eqSB a b = true ↔ a = b := by
  cases a; cases b
  unfold eqSB
  simp only [Bool.and_eq_true, decide_eq_true_eq, SgT.mk.injEq, eqHB_iff]
  constructor
  · rintro ⟨⟨h1, h2⟩, h3⟩; exact ⟨h1, h2, h3⟩
  · rintro ⟨h1, h2, h3⟩; exact ⟨⟨h1, h2⟩, h3⟩
def eqCB (a b : ClT) : Bool := decide (a.r = b.r) && decide (a.e = b.e) && decide (a.n = b.n) && decide (a.s = b.s) && decide (a.d = b.d)
theorem eqCB_iff (a b : ClT) : eqCB a b = true ↔ a = b := by
  cases a; cases b
  unfold eqCB
  simp only [Bool.and_eq_true, decide_eq_true_eq, ClT.mk.injEq]
  constructor
  · rintro ⟨⟨⟨⟨h1, h2⟩, h3⟩, h4⟩, h5⟩; exact ⟨h1, h2, h3, h4, h5⟩
  · rintro ⟨h1, h2, h3, h4, h5⟩; exact ⟨⟨⟨⟨h1, h2⟩, h3⟩, h4⟩, h5⟩
/-- Is a claim right? -/
def rightC (c : ClT) : Bool := decide (1 ≤ c.r) && decide (c.r ≤ 5) && decide (1 ≤ c.e) && decide (c.e ≤ 900000000) && decide (1 ≤ c.n) && decide (c.n ≤ 3) && decide (0 ≤ c.s) && decide (c.s ≤ 100000)
theorem rightC_iff (c : ClT) : rightC c = true ↔ (1 ≤ c.r ∧ c.r ≤ 5 ∧ 1 ≤ c.e ∧ c.e ≤ 900000000 ∧ 1 ≤ c.n ∧ c.n ≤ 3 ∧ 0 ≤ c.s ∧ c.s ≤ 100000) := by
  unfold rightC
  simp only [Bool.and_eq_true, decide_eq_true_eq]
  omega
def cL (c : ClT) : List ByteArray := [nOf c.r, nOf c.e, nOf c.n, nOf c.s, bA c.d]
/-- A right claim's bytes. -/
def claimB (c : ClT) : List UInt8 := rowB (fieldsN (cL c))
theorem layE_cL (c : ClT) (hd : c.d.length = 32) : layE 0 (fieldsN (cL c)) = 0 := by
  have e : fieldsN (cL c) = [(1, nOf c.r), (2, nOf c.e), (3, nOf c.n), (4, nOf c.s), (5, bA c.d)] := rfl
  have b1 := nOf_size c.r
  have b2 := nOf_size c.e
  have b3 := nOf_size c.n
  have b4 := nOf_size c.s
  have b5 : (bA c.d).size = 32 := by rw [bA_size]; exact hd
  rw [e]
  simp only [layE]
  rw [if_pos (fault_none _ _ _ (by omega) (by omega)), if_pos (fault_none _ _ _ (by omega) (by omega)), if_pos (fault_none _ _ _ (by omega) (by omega)), if_pos (fault_none _ _ _ (by omega) (by omega)), if_pos (fault_none _ _ _ (by omega) (by omega))]
def claimOf (x1 x2 x3 x4 x5 : ByteArray) : ClT := ⟨valO x1.data.toList, valO x2.data.toList, valO x3.data.toList, valO x4.data.toList, x5.data.toList⟩
/-- The right claim whose bytes these are. -/
def getC (bs : List UInt8) : Option ClT :=
  match partsO bs 5 with
  | some [x1, x2, x3, x4, x5] => if x5.size = 32 ∧ rightC (claimOf x1 x2 x3 x4 x5) = true then some (claimOf x1 x2 x3 x4 x5) else none
  | _ => none
theorem claimOf_cL (c : ClT) (hr : rightC c = true) : claimOf (nOf c.r) (nOf c.e) (nOf c.n) (nOf c.s) (bA c.d) = c := by
  have hb := (rightC_iff c).1 hr
  unfold claimOf
  rw [valO_nOf c.r (by omega), valO_nOf c.e (by omega), valO_nOf c.n (by omega), valO_nOf c.s (by omega), bA_list]
theorem getC_claim (c : ClT) (hr : rightC c = true) (hd : c.d.length = 32) : getC (claimB c) = some c := by
  unfold getC claimB
  have hp : partsO (rowB (fieldsN (cL c))) 5 = some (cL c) := parts_row (cL c) (layE_cL c hd)
  rw [hp]
  show (if (bA c.d).size = 32 ∧ rightC (claimOf (nOf c.r) (nOf c.e) (nOf c.n) (nOf c.s) (bA c.d)) = true then some (claimOf (nOf c.r) (nOf c.e) (nOf c.n) (nOf c.s) (bA c.d)) else none) = some c
  rw [claimOf_cL c hr, if_pos ⟨by rw [bA_size]; exact hd, hr⟩]
theorem getC_some {bs : List UInt8} {c : ClT} (hg : getC bs = some c) : rightC c = true ∧ c.d.length = 32 ∧ claimB c = bs := by
  unfold getC at hg
  split at hg
  · rename_i x1 x2 x3 x4 x5 hp
    split at hg
    · rename_i hh
      have he : claimOf x1 x2 x3 x4 x5 = c := Option.some.inj hg
      obtain ⟨_, hl, hr⟩ := row_parts hp
      have hb := (rightC_iff _).1 hh.2
      have hL5 : cL c = [x1, x2, x3, x4, x5] := by
        rw [← he]
        unfold claimOf at hb
        show [nOf (valO x1.data.toList), nOf (valO x2.data.toList), nOf (valO x3.data.toList), nOf (valO x4.data.toList), bA x5.data.toList] = _
        simp only at hb
        rw [nOf_back x1 (by omega), nOf_back x2 (by omega), nOf_back x3 (by omega), nOf_back x4 (by omega), bA_of]
      refine ⟨by rw [← he]; exact hh.2, ?_, ?_⟩
      · rw [← he]; exact hh.1
      · unfold claimB; rw [hL5]; exact hr
    · cases hg
  · cases hg
theorem claimB_length (c : ClT) (hd : c.d.length = 32) : (claimB c).length ≤ 84 := by
  have b1 := nOf_size c.r
  have b2 := nOf_size c.e
  have b3 := nOf_size c.n
  have b4 := nOf_size c.s
  have b5 : (bA c.d).size = 32 := by rw [bA_size]; exact hd
  unfold claimB
  rw [rowB_length]
  show 4 * 5 + ((nOf c.r).size + ((nOf c.e).size + ((nOf c.n).size + ((nOf c.s).size + ((bA c.d).size + 0))))) ≤ 84
  omega
def getCO (bs : List UInt8) : ClT := (getC bs).getD zeroC
def getCE (bs : List UInt8) : Int := if (getC bs).isSome then 0 else 60
/-! Entries. -/
structure EnT where
  k : Int
  c : Int
  s : Int
  t : ByteArray
  h : SgT
  m : ClT
def zeroE : EnT := ⟨0, 0, 0, ByteArray.empty, zeroS, zeroC⟩
theorem byte_ext {a b : ByteArray} (h : a.data.toList = b.data.toList) : a = b := by
  rw [← bA_of a, ← bA_of b, h]
theorem enT_ext {a b : EnT} (h : a.k = b.k ∧ a.c = b.c ∧ a.s = b.s ∧ a.t.data.toList = b.t.data.toList ∧ a.h = b.h ∧ a.m = b.m) : a = b := by
  obtain ⟨h1, h2, h3, h4, h5, h6⟩ := h
  cases a; cases b
  simp only at h1 h2 h3 h4 h5 h6
  rw [h1, h2, h3, byte_ext h4, h5, h6]
theorem empty_of {t : ByteArray} (h : t.size = 0) : t = ByteArray.empty := by
  apply byte_ext
  have : t.data.toList.length = 0 := h
  rw [List.eq_nil_of_length_eq_zero this]
  rfl
/-- Is an entry right? -/
def rightE (x : EnT) : Bool :=
  if x.k = 1 then decide (1 ≤ x.c ∧ x.c ≤ 3 ∧ 1 ≤ x.s ∧ x.s ≤ 1000000 ∧ x.t.size ≤ 200) && eqSB x.h zeroS && eqCB x.m zeroC
  else if x.k = 2 then decide (x.c = 0 ∧ x.s = 0 ∧ x.t.size = 0) && mayS x.h && eqCB x.m zeroC
  else if x.k = 3 then decide (x.c = 0 ∧ x.s = 0 ∧ x.t.size = 0) && eqSB x.h zeroS && rightC x.m
  else false
/-- The digests in it have 32 bytes. -/
structure OkE (x : EnT) : Prop where
  h : x.h.h.d.length = 32
  g : x.h.g.length = 32
  m : x.m.d.length = 32
def fieldsE (x : EnT) : List (Int × ByteArray) :=
  (1, nOf x.k) :: (if x.k = 1 then [(2, nOf x.c), (3, nOf x.s), (4, x.t)] else if x.k = 2 then [(5, bA (signB x.h))] else if x.k = 3 then [(6, bA (claimB x.m))] else [])
/-- A right entry's bytes. -/
def entryB (x : EnT) : List UInt8 := rowB (fieldsE x)
theorem right_kinds {x : EnT} (h : rightE x = true) :
    (x.k = 1 ∧ 1 ≤ x.c ∧ x.c ≤ 3 ∧ 1 ≤ x.s ∧ x.s ≤ 1000000 ∧ x.t.size ≤ 200 ∧ x.h = zeroS ∧ x.m = zeroC) ∨ (x.k = 2 ∧ x.c = 0 ∧ x.s = 0 ∧ x.t.size = 0 ∧ mayS x.h = true ∧ x.m = zeroC) ∨ (x.k = 3 ∧ x.c = 0 ∧ x.s = 0 ∧ x.t.size = 0 ∧ x.h = zeroS ∧ rightC x.m = true) := by
  unfold rightE at h
  by_cases h1 : x.k = 1
  · rw [if_pos h1] at h
    simp only [Bool.and_eq_true, decide_eq_true_eq, eqSB_iff, eqCB_iff] at h
    exact .inl ⟨h1, h.1.1.1, h.1.1.2.1, h.1.1.2.2.1, h.1.1.2.2.2.1, h.1.1.2.2.2.2, h.1.2, h.2⟩
  · rw [if_neg h1] at h
    by_cases h2 : x.k = 2
    · rw [if_pos h2] at h
      simp only [Bool.and_eq_true, decide_eq_true_eq, eqCB_iff] at h
      exact .inr (.inl ⟨h2, h.1.1.1, h.1.1.2.1, h.1.1.2.2, h.1.2, h.2⟩)
    · rw [if_neg h2] at h
      by_cases h3 : x.k = 3
      · rw [if_pos h3] at h
        simp only [Bool.and_eq_true, decide_eq_true_eq, eqSB_iff] at h
        exact .inr (.inr ⟨h3, h.1.1.1, h.1.1.2.1, h.1.1.2.2, h.1.2, h.2⟩)
      · rw [if_neg h3] at h
        cases h
theorem fields_user {x : EnT} (h : x.k = 1) : fieldsE x = [(1, nOf 1), (2, nOf x.c), (3, nOf x.s), (4, x.t)] := by unfold fieldsE; rw [if_pos h, h]
theorem fields_anchor {x : EnT} (h : x.k = 2) : fieldsE x = [(1, nOf 2), (5, bA (signB x.h))] := by unfold fieldsE; rw [if_neg (by omega), if_pos h, h]
theorem fields_claim {x : EnT} (h : x.k = 3) : fieldsE x = [(1, nOf 3), (6, bA (claimB x.m))] := by unfold fieldsE; rw [if_neg (by omega), if_neg (by omega), if_pos h, h]
theorem layE_entry {x : EnT} (h : rightE x = true) (ok : OkE x) : layE 0 (fieldsE x) = 0 := by
  rcases right_kinds h with ⟨hk, h1⟩ | ⟨hk, h1⟩ | ⟨hk, h1⟩
  · have b1 := nOf_size 1
    have b2 := nOf_size x.c
    have b3 := nOf_size x.s
    rw [fields_user hk]
    simp only [layE]
    rw [if_pos (fault_none _ _ _ (by omega) (by omega)), if_pos (fault_none _ _ _ (by omega) (by omega)), if_pos (fault_none _ _ _ (by omega) (by omega)), if_pos (fault_none _ _ _ (by omega) (by omega))]
  · have b1 := nOf_size 2
    have b2 : (bA (signB x.h)).size ≤ 136 := by rw [bA_size]; exact signB_length x.h ok.h ok.g
    rw [fields_anchor hk]
    simp only [layE]
    rw [if_pos (fault_none _ _ _ (by omega) (by omega)), if_pos (fault_none _ _ _ (by omega) (by omega))]
  · have b1 := nOf_size 3
    have b2 : (bA (claimB x.m)).size ≤ 84 := by rw [bA_size]; exact claimB_length x.m ok.m
    rw [fields_claim hk]
    simp only [layE]
    rw [if_pos (fault_none _ _ _ (by omega) (by omega)), if_pos (fault_none _ _ _ (by omega) (by omega))]
theorem entryB_length {x : EnT} (h : rightE x = true) (ok : OkE x) : (entryB x).length ≤ 240 := by
  unfold entryB
  rw [rowB_length]
  rcases right_kinds h with ⟨hk, h1⟩ | ⟨hk, h1⟩ | ⟨hk, h1⟩
  · have b1 := nOf_size 1
    have b2 := nOf_size x.c
    have b3 := nOf_size x.s
    rw [fields_user hk]
    show 4 * 4 + ((nOf 1).size + ((nOf x.c).size + ((nOf x.s).size + (x.t.size + 0)))) ≤ 240
    omega
  · have b1 := nOf_size 2
    have b2 : (bA (signB x.h)).size ≤ 136 := by rw [bA_size]; exact signB_length x.h ok.h ok.g
    rw [fields_anchor hk]
    show 4 * 2 + ((nOf 2).size + ((bA (signB x.h)).size + 0)) ≤ 240
    omega
  · have b1 := nOf_size 3
    have b2 : (bA (claimB x.m)).size ≤ 84 := by rw [bA_size]; exact claimB_length x.m ok.m
    rw [fields_claim hk]
    show 4 * 2 + ((nOf 3).size + ((bA (claimB x.m)).size + 0)) ≤ 240
    omega
/-- What one field says of the entry. -/
def stepE (x : EnT) (f : Int × ByteArray) : EnT :=
  if f.1 = 1 then { x with k := valO f.2.data.toList }
  else if f.1 = 2 then { x with c := valO f.2.data.toList }
  else if f.1 = 3 then { x with s := valO f.2.data.toList }
  else if f.1 = 4 then { x with t := f.2 }
  else if f.1 = 5 then { x with h := getSO f.2.data.toList }
  else if f.1 = 6 then { x with m := getCO f.2.data.toList }
  else x
def guessE (fs : List (Int × ByteArray)) : EnT := fs.foldl stepE zeroE
theorem guess_fields {x : EnT} (h : rightE x = true) (ok : OkE x) : guessE (fieldsE x) = x := by
  rcases right_kinds h with ⟨hk, c1, c2, s1, s2, ht, hh, hm⟩ | ⟨hk, hc, hs, ht, hh, hm⟩ | ⟨hk, hc, hs, ht, hh, hm⟩
  · rw [fields_user hk]
    show (⟨valO (nOf 1).data.toList, valO (nOf x.c).data.toList, valO (nOf x.s).data.toList, x.t, zeroS, zeroC⟩ : EnT) = x
    rw [valO_nOf 1 (by omega), valO_nOf x.c (by omega), valO_nOf x.s (by omega)]
    exact enT_ext ⟨hk.symm, rfl, rfl, rfl, hh.symm, hm.symm⟩
  · rw [fields_anchor hk]
    show (⟨valO (nOf 2).data.toList, 0, 0, ByteArray.empty, getSO (signB x.h), zeroC⟩ : EnT) = x
    have e : getSO (signB x.h) = x.h := by unfold getSO; rw [getS_sign x.h hh ok.h ok.g]; rfl
    rw [valO_nOf 2 (by omega), e]
    exact enT_ext ⟨hk.symm, hc.symm, hs.symm, by rw [empty_of ht], rfl, hm.symm⟩
  · rw [fields_claim hk]
    show (⟨valO (nOf 3).data.toList, 0, 0, ByteArray.empty, zeroS, getCO (claimB x.m)⟩ : EnT) = x
    have e : getCO (claimB x.m) = x.m := by unfold getCO; rw [getC_claim x.m hm ok.m]; rfl
    rw [valO_nOf 3 (by omega), e]
    exact enT_ext ⟨hk.symm, hc.symm, hs.symm, by rw [empty_of ht], hh.symm, rfl⟩
/-- The right entry whose bytes these are. -/
def getE (bs : List UInt8) : Option EnT := if readE bs = 0 ∧ rightE (guessE (readF bs)) = true ∧ entryB (guessE (readF bs)) = bs then some (guessE (readF bs)) else none
theorem getE_entry {x : EnT} (h : rightE x = true) (ok : OkE x) : getE (entryB x) = some x := by
  obtain ⟨h1, h2⟩ := read_row (layE_entry h ok)
  have e : guessE (readF (entryB x)) = x := by
    show guessE (readF (rowB (fieldsE x))) = x
    rw [h2]; exact guess_fields h ok
  unfold getE
  rw [e, if_pos ⟨h1, h, rfl⟩]
theorem getSO_ok (bs : List UInt8) : (getSO bs).h.d.length = 32 ∧ (getSO bs).g.length = 32 := by
  unfold getSO
  cases h : Go.Proofs.YtgkfodmccfnaoaaGreatDoor.getS bs with
  | none => exact ⟨rfl, rfl⟩
  | some x => exact ⟨(getS_some h).2.1, (getS_some h).2.2.1⟩
theorem getCO_ok (bs : List UInt8) : (getCO bs).d.length = 32 := by
  unfold getCO
  cases h : getC bs with
  | none => rfl
  | some x => exact (getC_some h).2.1
theorem stepE_ok {x : EnT} (ok : OkE x) (f : Int × ByteArray) : OkE (stepE x f) := by
  unfold stepE
  by_cases h1 : f.1 = 1
  · rw [if_pos h1]; exact ⟨ok.h, ok.g, ok.m⟩
  rw [if_neg h1]
  by_cases h2 : f.1 = 2
  · rw [if_pos h2]; exact ⟨ok.h, ok.g, ok.m⟩
  rw [if_neg h2]
  by_cases h3 : f.1 = 3
  · rw [if_pos h3]; exact ⟨ok.h, ok.g, ok.m⟩
  rw [if_neg h3]
  by_cases h4 : f.1 = 4
  · rw [if_pos h4]; exact ⟨ok.h, ok.g, ok.m⟩
  rw [if_neg h4]
  by_cases h5 : f.1 = 5
  · rw [if_pos h5]; exact ⟨(getSO_ok _).1, (getSO_ok _).2, ok.m⟩
  rw [if_neg h5]
  by_cases h6 : f.1 = 6
  · rw [if_pos h6]; exact ⟨ok.h, ok.g, getCO_ok _⟩
  rw [if_neg h6]; exact ok
theorem zeroE_ok : OkE zeroE := ⟨rfl, rfl, rfl⟩
theorem foldE_ok : ∀ (fs : List (Int × ByteArray)) (x : EnT), OkE x → OkE (fs.foldl stepE x)
  | [], _, ok => ok
  | f :: r, x, ok => foldE_ok r (stepE x f) (stepE_ok ok f)
theorem guessE_ok (fs : List (Int × ByteArray)) : OkE (guessE fs) := foldE_ok fs zeroE zeroE_ok
theorem getE_some {bs : List UInt8} {x : EnT} (h : getE bs = some x) : rightE x = true ∧ OkE x ∧ entryB x = bs := by
  unfold getE at h
  split at h
  · rename_i hh
    have e := Option.some.inj h
    rw [← e]
    exact ⟨hh.2.1, guessE_ok _, hh.2.2⟩
  · cases h
def getEO (bs : List UInt8) : EnT := (getE bs).getD zeroE
def getEE (bs : List UInt8) : Int := if (getE bs).isSome then 0 else 60
/-! Items. -/
structure ItT where
  p : Int
  e : EnT
def zeroI : ItT := ⟨0, zeroE⟩
def rightI (x : ItT) : Bool := decide (1 ≤ x.p) && decide (x.p ≤ 900000000) && rightE x.e
theorem rightI_iff (x : ItT) : rightI x = true ↔ (1 ≤ x.p ∧ x.p ≤ 900000000 ∧ rightE x.e = true) := by
  unfold rightI
  simp only [Bool.and_eq_true, decide_eq_true_eq]
  constructor
  · rintro ⟨⟨a, b⟩, c⟩; exact ⟨a, b, c⟩
  · rintro ⟨a, b, c⟩; exact ⟨⟨a, b⟩, c⟩
def iL (x : ItT) : List ByteArray := [nOf x.p, bA (entryB x.e)]
def itemB (x : ItT) : List UInt8 := rowB (fieldsN (iL x))
theorem layE_iL {x : ItT} (h : rightI x = true) (ok : OkE x.e) : layE 0 (fieldsN (iL x)) = 0 := by
  have e : fieldsN (iL x) = [(1, nOf x.p), (2, bA (entryB x.e))] := rfl
  have b1 := nOf_size x.p
  have b2 : (bA (entryB x.e)).size ≤ 240 := by rw [bA_size]; exact entryB_length ((rightI_iff x).1 h).2.2 ok
  rw [e]
  simp only [layE]
  rw [if_pos (fault_none _ _ _ (by omega) (by omega)), if_pos (fault_none _ _ _ (by omega) (by omega))]
theorem itemB_length {x : ItT} (h : rightI x = true) (ok : OkE x.e) : (itemB x).length ≤ 256 := by
  have b1 := nOf_size x.p
  have b2 : (bA (entryB x.e)).size ≤ 240 := by rw [bA_size]; exact entryB_length ((rightI_iff x).1 h).2.2 ok
  unfold itemB
  rw [rowB_length]
  show 4 * 2 + ((nOf x.p).size + ((bA (entryB x.e)).size + 0)) ≤ 256
  omega
/-- The right item whose bytes these are. -/
def getI (bs : List UInt8) : Option ItT :=
  match partsO bs 2 with
  | some [x1, x2] =>
    match getE x2.data.toList with
    | some e => if rightI ⟨valO x1.data.toList, e⟩ = true then some ⟨valO x1.data.toList, e⟩ else none
    | none => none
  | _ => none
theorem getI_item {x : ItT} (h : rightI x = true) (ok : OkE x.e) : getI (itemB x) = some x := by
  obtain ⟨h1, h2, h3⟩ := (rightI_iff x).1 h
  unfold getI itemB
  have hp : partsO (rowB (fieldsN (iL x))) 2 = some (iL x) := parts_row (iL x) (layE_iL h ok)
  rw [hp]
  show (match getE (entryB x.e) with | some e => if rightI ⟨valO (nOf x.p).data.toList, e⟩ = true then some (⟨valO (nOf x.p).data.toList, e⟩ : ItT) else none | none => none) = some x
  rw [getE_entry h3 ok, valO_nOf x.p (by omega)]
  show (if rightI x = true then some x else none) = some x
  rw [if_pos h]
theorem getI_some {bs : List UInt8} {x : ItT} (hs : getI bs = some x) : rightI x = true ∧ OkE x.e ∧ itemB x = bs := by
  unfold getI at hs
  split at hs
  · rename_i x1 x2 hp
    split at hs
    · rename_i e hg
      split at hs
      · rename_i hh
        have he := Option.some.inj hs
        obtain ⟨_, hl, hr⟩ := row_parts hp
        obtain ⟨g1, g2, g3⟩ := getE_some hg
        obtain ⟨m1, m2, m3⟩ := (rightI_iff _).1 hh
        have hL2 : iL x = [x1, x2] := by
          rw [← he]
          show [nOf (valO x1.data.toList), bA (entryB e)] = _
          rw [g3, nOf_back x1 (by simp only at m1; omega), bA_of]
        refine ⟨by rw [← he]; exact hh, by rw [← he]; exact g2, ?_⟩
        unfold itemB; rw [hL2]; exact hr
      · cases hs
    · cases hs
  · cases hs
def getIO (bs : List UInt8) : ItT := (getI bs).getD zeroI
def getIE (bs : List UInt8) : Int := if (getI bs).isSome then 0 else 60
/-- A right item's leaf. -/
def leafI (x : ItT) : List UInt8 := sumD (0 :: itemB x)
end Go.Proofs.YtgkfodmccfnaoaaGreatDoor

/- Claims, entries and items in memory, and held against each other by == and !=. -/
namespace Go.Proofs.YtgkfodmccfnaoaaGreatDoor
open Go.RowKit Sums Nums
set_option linter.unusedVariables false
set_option linter.unusedSimpArgs false
set_option maxRecDepth 100000
/-! What lies in memory. -/
def ccells (c : ClT) : List Value := [.int .i64 c.r, .int .i64 c.e, .int .i64 c.n, .int .i64 c.s] ++ cellsOf c.d
theorem ccells_length (c : ClT) (hd : c.d.length = 32) : (ccells c).length = 36 := by simp [ccells, cellsOf_length, hd]
def ecells (x : EnT) : List Value := [.int .i64 x.k, .int .i64 x.c, .int .i64 x.s, .string x.t] ++ scells x.h ++ ccells x.m
theorem ecells_length (x : EnT) (ok : OkE x) : (ecells x).length = 109 := by simp [ecells, scells_length _ ok.h ok.g, ccells_length _ ok.m]
def icells (x : ItT) : List Value := [.int .i64 x.p] ++ ecells x.e
theorem icells_length (x : ItT) (ok : OkE x.e) : (icells x).length = 110 := by simp [icells, ecells_length _ ok]
theorem heldC : Tryz.prog.stoodInHeld 27 = false := by kernel_rfl
theorem heldE : Tryz.prog.stoodInHeld 37 = false := by kernel_rfl
theorem heldI : Tryz.prog.stoodInHeld 41 = false := by kernel_rfl
theorem sizeC : (Tryz.prog.info? 27).map (·.size) = some 36 := by kernel_rfl
theorem sizeE : (Tryz.prog.info? 37).map (·.size) = some 109 := by kernel_rfl
theorem sizeI : (Tryz.prog.info? 41).map (·.size) = some 110 := by kernel_rfl
theorem sizeOf_of {t : TypeId} {n : Nat} (h : (Tryz.prog.info? t).map (·.size) = some n) (w : World) : (sizeOf t).run Tryz.prog w = .ok n w := by
  cases hq : Tryz.prog.info? t with
  | none => simp [hq] at h
  | some i => simp [hq] at h; simp [sizeOf, typeInfo, hq, h]
theorem part_struct {t : TypeId} {fs : Array Field} {n : Nat} (hu : Tryz.prog.underlying t = some (.struct fs)) (hs : (Tryz.prog.info? t).map (·.size) = some n) (l : List Value) (off : Nat) (m : List Value) (h : (l.drop off).take n = m) (w : World) : (Go.part t l.toArray off).run Tryz.prog w = .ok (.agg m.toArray) w := by
  have e := cut_list l off n m h
  simp only [Go.part, isAgg, run_underlying hu, sizeOf_of hs, Sem.run_bind, Sem.run_pure, Result.andThen_ok, if_true, e]
theorem part_kind (l : List Value) (off : Nat) (v : Value) (h : l[off]? = some v) (w : World) : (Go.part 31 l.toArray off).run Tryz.prog w = .ok v w := by
  simp [Go.part, isAgg, run_underlying Tryz.underlying31, h]
theorem part_str (l : List Value) (off : Nat) (v : Value) (h : l[off]? = some v) (w : World) : (Go.part 9 l.toArray off).run Tryz.prog w = .ok v w := by
  simp [Go.part, isAgg, run_underlying Tryz.underlying9, h]
theorem ccells_d (c : ClT) (hd : c.d.length = 32) : ((ccells c).drop 4).take 32 = cellsOf c.d := by
  show (cellsOf c.d).take 32 = _
  rw [List.take_of_length_le (by rw [cellsOf_length, hd]; omega)]
theorem ecells_h (x : EnT) (ok : OkE x) : ((ecells x).drop 4).take 69 = scells x.h := by
  show (scells x.h ++ ccells x.m).take 69 = _
  rw [List.take_left' (scells_length _ ok.h ok.g)]
theorem ecells_m (x : EnT) (ok : OkE x) : ((ecells x).drop 73).take 36 = ccells x.m := by
  unfold ecells
  rw [List.drop_left' (by simp [scells_length _ ok.h ok.g]), List.take_of_length_le (by rw [ccells_length _ ok.m]; omega)]
theorem icells_e (x : ItT) (ok : OkE x.e) : ((icells x).drop 1).take 109 = ecells x.e := by
  show (ecells x.e).take 109 = _
  rw [List.take_of_length_le (by rw [ecells_length _ ok]; omega)]
theorem equalClaim (d : Nat) (a b : ClT) (ha : a.d.length = 32) (hb : b.d.length = 32) (x : Bool) (hx : x = true ↔ a = b) (w : World) : (Op.equalIn (d + 4) 27 (.agg (ccells a).toArray) (.agg (ccells b).toArray)).run Tryz.prog w = .ok x w := by
  have hf : Tryz.prog.fieldsOf 27 = #[{ name := "Region", type := 3, offset := 0, embedded := false, tag := "", pkgPath := "", byteOffset := 0 }, { name := "Epoch", type := 3, offset := 1, embedded := false, tag := "", pkgPath := "", byteOffset := 8 }, { name := "Node", type := 3, offset := 2, embedded := false, tag := "", pkgPath := "", byteOffset := 16 }, { name := "Size", type := 3, offset := 3, embedded := false, tag := "", pkgPath := "", byteOffset := 24 }, { name := "Root", type := 25, offset := 4, embedded := false, tag := "", pkgPath := "", byteOffset := 32 }] := by
    unfold Program.fieldsOf; rw [Tryz.underlying27]
  have p0a := fun W => part_int (ccells a) 0 (.int .i64 a.r) rfl W
  have p0b := fun W => part_int (ccells b) 0 (.int .i64 b.r) rfl W
  have x0 := fun W => run_equalIn_int (P := Tryz.prog) W (d + 2) 3 .i64 .i64 a.r b.r Tryz.underlying3
  obtain ⟨b0, h0⟩ : ∃ x, (a.r == b.r) = x := ⟨_, rfl⟩
  rw [h0] at x0
  have p1a := fun W => part_int (ccells a) 1 (.int .i64 a.e) rfl W
  have p1b := fun W => part_int (ccells b) 1 (.int .i64 b.e) rfl W
  have x1 := fun W => run_equalIn_int (P := Tryz.prog) W (d + 2) 3 .i64 .i64 a.e b.e Tryz.underlying3
  obtain ⟨b1, h1⟩ : ∃ x, (a.e == b.e) = x := ⟨_, rfl⟩
  rw [h1] at x1
  have p2a := fun W => part_int (ccells a) 2 (.int .i64 a.n) rfl W
  have p2b := fun W => part_int (ccells b) 2 (.int .i64 b.n) rfl W
  have x2 := fun W => run_equalIn_int (P := Tryz.prog) W (d + 2) 3 .i64 .i64 a.n b.n Tryz.underlying3
  obtain ⟨b2, h2⟩ : ∃ x, (a.n == b.n) = x := ⟨_, rfl⟩
  rw [h2] at x2
  have p3a := fun W => part_int (ccells a) 3 (.int .i64 a.s) rfl W
  have p3b := fun W => part_int (ccells b) 3 (.int .i64 b.s) rfl W
  have x3 := fun W => run_equalIn_int (P := Tryz.prog) W (d + 2) 3 .i64 .i64 a.s b.s Tryz.underlying3
  obtain ⟨b3, h3⟩ : ∃ x, (a.s == b.s) = x := ⟨_, rfl⟩
  rw [h3] at x3
  have p4a := fun W => part_dig (ccells a) 4 _ (ccells_d a ha) W
  have p4b := fun W => part_dig (ccells b) 4 _ (ccells_d b hb) W
  have x4 : ∀ W, (Op.equalIn (d + 3) 25 (.agg (cellsOf a.d).toArray) (.agg (cellsOf b.d).toArray)).run Tryz.prog W = .ok (a.d == b.d) W := fun W => run_equalIn_bytes (P := Tryz.prog) W (d + 1) 25 5 32 Tryz.underlying25 Tryz.underlying5 sizeOf5 a.d b.d ha hb
  obtain ⟨b4, h4⟩ : ∃ x, (a.d == b.d) = x := ⟨_, rfl⟩
  rw [h4] at x4
  rw [run_equalIn_struct w (d + 3) 27 _ _ (by rw [hf]; exact Tryz.underlying27) heldC, hf]
  have hq : x = (b0 && b1 && b2 && b3 && b4) := by
    rw [Bool.eq_iff_iff, hx]
    simp only [Bool.and_eq_true]
    rw [← h0, ← h1, ← h2, ← h3, ← h4]
    simp only [beq_iff_eq]
    constructor
    · rintro rfl; simp
    · rintro ⟨⟨⟨⟨e0, e1⟩, e2⟩, e3⟩, e4⟩
      cases a; cases b
      simp only at e0 e1 e2 e3 e4
      rw [e0, e1, e2, e3, e4]
  rw [hq]
  obtain ⟨A, hA⟩ : ∃ A, (ccells a).toArray = A := ⟨_, rfl⟩
  obtain ⟨B, hB⟩ : ∃ B, (ccells b).toArray = B := ⟨_, rfl⟩
  rw [hA] at p0a p1a p2a p3a p4a
  rw [hB] at p0b p1b p2b p3b p4b
  rw [hA, hB]
  obtain ⟨D4, hD4⟩ : ∃ D, (cellsOf a.d).toArray = D := ⟨_, rfl⟩
  obtain ⟨E4, hE4⟩ : ∃ D, (cellsOf b.d).toArray = D := ⟨_, rfl⟩
  rw [hD4] at p4a x4
  rw [hE4] at p4b x4
  simp [Op.eqFields, p0a, p0b, x0, p1a, p1b, x1, p2a, p2b, x2, p3a, p3b, x3, p4a, p4b, x4]
  cases b0 <;> cases b1 <;> cases b2 <;> cases b3 <;> cases b4 <;> simp
theorem eqClaim (a b : ClT) (ha : a.d.length = 32) (hb : b.d.length = 32) (A B : Array Value) (HA : Hid (A = (ccells a).toArray)) (HB : Hid (B = (ccells b).toArray)) (x : Bool) (hx : x = true ↔ a = b) (w : World) : (binOp .eql 27 (.agg A) (.agg B)).run Tryz.prog w = .ok (.bool x) w := by
  rw [run_eql_struct, HA.out, HB.out, show (10000 : Nat) = 9996 + 4 from rfl, equalClaim 9996 a b ha hb x hx]; rfl
theorem neqClaim (a b : ClT) (ha : a.d.length = 32) (hb : b.d.length = 32) (A B : Array Value) (HA : Hid (A = (ccells a).toArray)) (HB : Hid (B = (ccells b).toArray)) (x : Bool) (hx : x = false ↔ a = b) (w : World) : (binOp .neq 27 (.agg A) (.agg B)).run Tryz.prog w = .ok (.bool x) w := by
  rw [run_neq_struct, HA.out, HB.out, show (10000 : Nat) = 9996 + 4 from rfl, equalClaim 9996 a b ha hb (!x) (by rw [← hx]; simp)]; simp
theorem equalEntry (d : Nat) (a b : EnT) (ha : OkE a) (hb : OkE b) (x : Bool) (hx : x = true ↔ a = b) (w : World) : (Op.equalIn (d + 6) 37 (.agg (ecells a).toArray) (.agg (ecells b).toArray)).run Tryz.prog w = .ok x w := by
  have hf : Tryz.prog.fieldsOf 37 = #[{ name := "Kind", type := 31, offset := 0, embedded := false, tag := "", pkgPath := "", byteOffset := 0 }, { name := "Client", type := 3, offset := 1, embedded := false, tag := "", pkgPath := "", byteOffset := 8 }, { name := "Seq", type := 3, offset := 2, embedded := false, tag := "", pkgPath := "", byteOffset := 16 }, { name := "Text", type := 9, offset := 3, embedded := false, tag := "", pkgPath := "", byteOffset := 24 }, { name := "Head", type := 35, offset := 4, embedded := false, tag := "", pkgPath := "", byteOffset := 40 }, { name := "Claim", type := 27, offset := 73, embedded := false, tag := "", pkgPath := "", byteOffset := 144 }] := by
    unfold Program.fieldsOf; rw [Tryz.underlying37]
  have p0a := fun W => part_kind (ecells a) 0 (.int .i64 a.k) rfl W
  have p0b := fun W => part_kind (ecells b) 0 (.int .i64 b.k) rfl W
  have x0 := fun W => run_equalIn_int (P := Tryz.prog) W (d + 4) 31 .i64 .i64 a.k b.k Tryz.underlying31
  obtain ⟨b0, h0⟩ : ∃ x, (a.k == b.k) = x := ⟨_, rfl⟩
  rw [h0] at x0
  have p1a := fun W => part_int (ecells a) 1 (.int .i64 a.c) rfl W
  have p1b := fun W => part_int (ecells b) 1 (.int .i64 b.c) rfl W
  have x1 := fun W => run_equalIn_int (P := Tryz.prog) W (d + 4) 3 .i64 .i64 a.c b.c Tryz.underlying3
  obtain ⟨b1, h1⟩ : ∃ x, (a.c == b.c) = x := ⟨_, rfl⟩
  rw [h1] at x1
  have p2a := fun W => part_int (ecells a) 2 (.int .i64 a.s) rfl W
  have p2b := fun W => part_int (ecells b) 2 (.int .i64 b.s) rfl W
  have x2 := fun W => run_equalIn_int (P := Tryz.prog) W (d + 4) 3 .i64 .i64 a.s b.s Tryz.underlying3
  obtain ⟨b2, h2⟩ : ∃ x, (a.s == b.s) = x := ⟨_, rfl⟩
  rw [h2] at x2
  have p3a := fun W => part_str (ecells a) 3 (.string a.t) rfl W
  have p3b := fun W => part_str (ecells b) 3 (.string b.t) rfl W
  have x3 := fun W => run_equalIn_string (P := Tryz.prog) W (d + 4) 9 a.t b.t Tryz.underlying9
  obtain ⟨b3, h3⟩ : ∃ x, (a.t.toList == b.t.toList) = x := ⟨_, rfl⟩
  rw [h3] at x3
  have p4a := fun W => part_struct Tryz.underlying35 sizeS (ecells a) 4 _ (ecells_h a ha) W
  have p4b := fun W => part_struct Tryz.underlying35 sizeS (ecells b) 4 _ (ecells_h b hb) W
  obtain ⟨b4, h4⟩ : ∃ x : Bool, x = true ↔ a.h = b.h := by
    by_cases h : a.h = b.h
    · exact ⟨true, by simp [h]⟩
    · exact ⟨false, by simp [h]⟩
  have x4 : ∀ W, (Op.equalIn (d + 5) 35 (.agg (scells a.h).toArray) (.agg (scells b.h).toArray)).run Tryz.prog W = .ok b4 W := fun W => equalSigned (d + 0) a.h b.h ha.h hb.h ha.g hb.g b4 h4 W
  have p5a := fun W => part_struct Tryz.underlying27 sizeC (ecells a) 73 _ (ecells_m a ha) W
  have p5b := fun W => part_struct Tryz.underlying27 sizeC (ecells b) 73 _ (ecells_m b hb) W
  obtain ⟨b5, h5⟩ : ∃ x : Bool, x = true ↔ a.m = b.m := by
    by_cases h : a.m = b.m
    · exact ⟨true, by simp [h]⟩
    · exact ⟨false, by simp [h]⟩
  have x5 : ∀ W, (Op.equalIn (d + 5) 27 (.agg (ccells a.m).toArray) (.agg (ccells b.m).toArray)).run Tryz.prog W = .ok b5 W := fun W => equalClaim (d + 1) a.m b.m ha.m hb.m b5 h5 W
  rw [run_equalIn_struct w (d + 5) 37 _ _ (by rw [hf]; exact Tryz.underlying37) heldE, hf]
  have hq : x = (b0 && b1 && b2 && b3 && b4 && b5) := by
    rw [Bool.eq_iff_iff, hx]
    simp only [Bool.and_eq_true]
    rw [← h0, ← h1, ← h2, ← h3, h4, h5]
    simp only [beq_iff_eq]
    constructor
    · rintro rfl; simp
    · rintro ⟨⟨⟨⟨⟨e0, e1⟩, e2⟩, e3⟩, e4⟩, e5⟩
      have e3' : a.t.data.toList = b.t.data.toList := by rw [ByteArray.toList_eq, ByteArray.toList_eq] at e3; exact e3
      exact enT_ext ⟨e0, e1, e2, e3', e4, e5⟩
  rw [hq]
  obtain ⟨A, hA⟩ : ∃ A, (ecells a).toArray = A := ⟨_, rfl⟩
  obtain ⟨B, hB⟩ : ∃ B, (ecells b).toArray = B := ⟨_, rfl⟩
  rw [hA] at p0a p1a p2a p3a p4a p5a
  rw [hB] at p0b p1b p2b p3b p4b p5b
  rw [hA, hB]
  obtain ⟨D4, hD4⟩ : ∃ D, (scells a.h).toArray = D := ⟨_, rfl⟩
  obtain ⟨E4, hE4⟩ : ∃ D, (scells b.h).toArray = D := ⟨_, rfl⟩
  rw [hD4] at p4a x4
  rw [hE4] at p4b x4
  obtain ⟨D5, hD5⟩ : ∃ D, (ccells a.m).toArray = D := ⟨_, rfl⟩
  obtain ⟨E5, hE5⟩ : ∃ D, (ccells b.m).toArray = D := ⟨_, rfl⟩
  rw [hD5] at p5a x5
  rw [hE5] at p5b x5
  simp [Op.eqFields, p0a, p0b, x0, p1a, p1b, x1, p2a, p2b, x2, p3a, p3b, x3, p4a, p4b, x4, p5a, p5b, x5]
  cases b0 <;> cases b1 <;> cases b2 <;> cases b3 <;> cases b4 <;> cases b5 <;> simp
theorem neqEntry (a b : EnT) (ha : OkE a) (hb : OkE b) (A B : Array Value) (HA : Hid (A = (ecells a).toArray)) (HB : Hid (B = (ecells b).toArray)) (x : Bool) (hx : x = false ↔ a = b) (w : World) : (binOp .neq 37 (.agg A) (.agg B)).run Tryz.prog w = .ok (.bool x) w := by
  rw [run_neq_struct, HA.out, HB.out, show (10000 : Nat) = 9994 + 6 from rfl, equalEntry 9994 a b ha hb (!x) (by rw [← hx]; simp)]; simp
theorem equalItem (d : Nat) (a b : ItT) (ha : OkE a.e) (hb : OkE b.e) (x : Bool) (hx : x = true ↔ a = b) (w : World) : (Op.equalIn (d + 7) 41 (.agg (icells a).toArray) (.agg (icells b).toArray)).run Tryz.prog w = .ok x w := by
  have hf : Tryz.prog.fieldsOf 41 = #[{ name := "Epoch", type := 3, offset := 0, embedded := false, tag := "", pkgPath := "", byteOffset := 0 }, { name := "Entry", type := 37, offset := 1, embedded := false, tag := "", pkgPath := "", byteOffset := 8 }] := by
    unfold Program.fieldsOf; rw [Tryz.underlying41]
  have p0a := fun W => part_int (icells a) 0 (.int .i64 a.p) rfl W
  have p0b := fun W => part_int (icells b) 0 (.int .i64 b.p) rfl W
  have x0 := fun W => run_equalIn_int (P := Tryz.prog) W (d + 5) 3 .i64 .i64 a.p b.p Tryz.underlying3
  obtain ⟨b0, h0⟩ : ∃ x, (a.p == b.p) = x := ⟨_, rfl⟩
  rw [h0] at x0
  have p1a := fun W => part_struct Tryz.underlying37 sizeE (icells a) 1 _ (icells_e a ha) W
  have p1b := fun W => part_struct Tryz.underlying37 sizeE (icells b) 1 _ (icells_e b hb) W
  obtain ⟨b1, h1⟩ : ∃ x : Bool, x = true ↔ a.e = b.e := by
    by_cases h : a.e = b.e
    · exact ⟨true, by simp [h]⟩
    · exact ⟨false, by simp [h]⟩
  have x1 : ∀ W, (Op.equalIn (d + 6) 37 (.agg (ecells a.e).toArray) (.agg (ecells b.e).toArray)).run Tryz.prog W = .ok b1 W := fun W => equalEntry (d + 0) a.e b.e ha hb b1 h1 W
  rw [run_equalIn_struct w (d + 6) 41 _ _ (by rw [hf]; exact Tryz.underlying41) heldI, hf]
  have hq : x = (b0 && b1) := by
    rw [Bool.eq_iff_iff, hx]
    simp only [Bool.and_eq_true]
    rw [← h0, h1]
    simp only [beq_iff_eq]
    constructor
    · rintro rfl; simp
    · rintro ⟨e0, e1⟩
      cases a; cases b
      simp only at e0 e1
      rw [e0, e1]
  rw [hq]
  obtain ⟨A, hA⟩ : ∃ A, (icells a).toArray = A := ⟨_, rfl⟩
  obtain ⟨B, hB⟩ : ∃ B, (icells b).toArray = B := ⟨_, rfl⟩
  rw [hA] at p0a p1a
  rw [hB] at p0b p1b
  rw [hA, hB]
  obtain ⟨D1, hD1⟩ : ∃ D, (ecells a.e).toArray = D := ⟨_, rfl⟩
  obtain ⟨E1, hE1⟩ : ∃ D, (ecells b.e).toArray = D := ⟨_, rfl⟩
  rw [hD1] at p1a x1
  rw [hE1] at p1b x1
  simp [Op.eqFields, p0a, p0b, x0, p1a, p1b, x1]
  cases b0 <;> cases b1 <;> simp
theorem eqItem (a b : ItT) (ha : OkE a.e) (hb : OkE b.e) (A B : Array Value) (HA : Hid (A = (icells a).toArray)) (HB : Hid (B = (icells b).toArray)) (x : Bool) (hx : x = true ↔ a = b) (w : World) : (binOp .eql 41 (.agg A) (.agg B)).run Tryz.prog w = .ok (.bool x) w := by
  rw [run_eql_struct, HA.out, HB.out, show (10000 : Nat) = 9993 + 7 from rfl, equalItem 9993 a b ha hb x hx]; rfl
theorem neqItem (a b : ItT) (ha : OkE a.e) (hb : OkE b.e) (A B : Array Value) (HA : Hid (A = (icells a).toArray)) (HB : Hid (B = (icells b).toArray)) (x : Bool) (hx : x = false ↔ a = b) (w : World) : (binOp .neq 41 (.agg A) (.agg B)).run Tryz.prog w = .ok (.bool x) w := by
  rw [run_neq_struct, HA.out, HB.out, show (10000 : Nat) = 9993 + 7 from rfl, equalItem 9993 a b ha hb (!x) (by rw [← hx]; simp)]; simp
end Go.Proofs.YtgkfodmccfnaoaaGreatDoor

/- What the document's RightClaim, ClaimBytes and PutClaim answer. -/
namespace Go.Proofs.YtgkfodmccfnaoaaGreatDoor
open Go.RowKit Sums Nums
set_option linter.unusedVariables false
set_option linter.unusedSimpArgs false
set_option maxRecDepth 100000
theorem within8_any (n a b : Int) (w : World) : Calls Tryz.prog 45 #[.int .i64 n, .int .i64 a, .int .i64 b] w fun e w' => e = .returned (.bool (decide (a ≤ n) && decide (n ≤ b))) ∧ w' = w := by
  by_cases h1 : a ≤ n
  · have d1 : decide (a ≤ n) = true := by rw [decide_eq_true_eq]; exact h1
    obtain ⟨x, hx⟩ : ∃ x, decide (n ≤ b) = x := ⟨_, rfl⟩
    rw [d1, hx]
    clear h1
    go_enter Tryz.func45, Tryz.ntmps45
    go_wp2
    go_ret
    exact ⟨rfl, rfl⟩
  · have d1 : decide (a ≤ n) = false := by rw [decide_eq_false_iff_not]; exact h1
    rw [d1]
    clear h1
    go_enter Tryz.func45, Tryz.ntmps45
    go_wp2
    go_ret
    exact ⟨rfl, rfl⟩
/-- What the parts of a claim's row read as. -/
structure CRow (W : World) (g o : Nat) (c : ClT) : Prop where
  r : W.cell? ⟨g, o, none⟩ = some (.int .i64 c.r)
  e : W.cell? ⟨g, o + 1, none⟩ = some (.int .i64 c.e)
  n : W.cell? ⟨g, o + 2, none⟩ = some (.int .i64 c.n)
  s : W.cell? ⟨g, o + 3, none⟩ = some (.int .i64 c.s)
  d : W.rangeAt g (o + 4) (cellsOf c.d)
theorem CRow.keep {W W' : World} {g o : Nat} {c : ClT} (h : CRow W g o c) (hb : Below W.heap.size W W') : CRow W' g o c := by
  have hg : g < W.heap.size := World.block_lt_of_cell? _ _ h.r
  exact ⟨(hb.cell hg).trans h.r, (hb.cell hg).trans h.e, (hb.cell hg).trans h.n, (hb.cell hg).trans h.s, range_keep hb h.d⟩
theorem crow_of {W : World} {g o : Nat} {c : ClT} (hr : W.rangeAt g o (ccells c)) : CRow W g o c := by
  refine ⟨?_, ?_, ?_, ?_, ?_⟩
  · have := hr 0 (.int .i64 c.r) rfl; simpa using this
  · exact hr 1 (.int .i64 c.e) rfl
  · exact hr 2 (.int .i64 c.n) rfl
  · exact hr 3 (.int .i64 c.s) rfl
  · intro j v hj
    have := hr (4 + j) v (by
      unfold ccells
      rw [List.getElem?_append_right (by simp)]
      simpa using hj)
    rw [Nat.add_assoc]; exact this
theorem crow_new (w : World) (c : ClT) (C : Array Value) (HC : Hid (C = (ccells c).toArray)) (t : TypeId) : CRow (w.alloc (.cells C t)) w.heap.size 0 c := by
  refine crow_of ?_
  intro j v hj
  rw [Nat.zero_add, cell_of_row _ _ j _ t (0, 0) (heap_alloc_new w _), HC.out]
  simpa using hj
set_option maxHeartbeats 2000000 in
theorem refRightC_any (c : ClT) (w : World) (C : Array Value) (HC : Hid (C = (ccells c).toArray)) :
    Calls Tryz.prog 22 #[.agg C] w fun e w' => e = .returned (.bool (rightC c)) ∧ Below w.heap.size w w' := by
  have HR := crow_new w c C HC 27
  have HB : Hid (Below w.heap.size w (w.alloc (.cells C 27))) := (Below.refl _ _).alloc (Nat.le_refl _) _
  have c0 := HR.r
  have c1 := HR.e
  have c2 := HR.n
  have c3 := HR.s
  simp only [Nat.zero_add] at c1 c2 c3
  have WI : Hid (∀ (n a b : Int) (W : World), Calls Tryz.prog 45 #[.int .i64 n, .int .i64 a, .int .i64 b] W fun e w' => e = .returned (.bool (decide (a ≤ n) && decide (n ≤ b))) ∧ w' = W) := within8_any
  obtain ⟨b1, hb1⟩ : ∃ b, (decide (1 ≤ c.r) && decide (c.r ≤ 5)) = b := ⟨_, rfl⟩
  obtain ⟨b2, hb2⟩ : ∃ b, (decide (1 ≤ c.e) && decide (c.e ≤ 900000000)) = b := ⟨_, rfl⟩
  obtain ⟨b3, hb3⟩ : ∃ b, (decide (1 ≤ c.n) && decide (c.n ≤ 3)) = b := ⟨_, rfl⟩
  obtain ⟨b4, hb4⟩ : ∃ b, (decide (0 ≤ c.s) && decide (c.s ≤ 100000)) = b := ⟨_, rfl⟩
  have W1 := hidk (WI.out c.r 1 5)
  have W2 := hidk (WI.out c.e 1 900000000)
  have W3 := hidk (WI.out c.n 1 3)
  have W4 := hidk (WI.out c.s 0 100000)
  rw [hb1] at W1
  rw [hb2] at W2
  rw [hb3] at W3
  rw [hb4] at W4
  have hE : rightC c = (b1 && (b2 && (b3 && b4))) := by
    rw [← hb1, ← hb2, ← hb3, ← hb4]
    unfold rightC
    simp only [Bool.and_assoc]
  rw [hE]
  obtain ⟨r, hr⟩ : ∃ r, r = c.r := ⟨_, rfl⟩
  obtain ⟨e, he⟩ : ∃ r, r = c.e := ⟨_, rfl⟩
  obtain ⟨n, hn⟩ : ∃ r, r = c.n := ⟨_, rfl⟩
  obtain ⟨s, hs⟩ : ∃ r, r = c.s := ⟨_, rfl⟩
  rw [← hr] at c0 W1
  rw [← he] at c1 W2
  rw [← hn] at c2 W3
  rw [← hs] at c3 W4
  clear hE hb1 hb2 hb3 hb4 WI HR hr he hn hs HC
  cases b1
  · go_enter Tryz.func22, Tryz.ntmps22
    go_wp2_with fail
    refine (W1.out _).mono ?_
    rintro e w1 ⟨rfl, rfl⟩
    go_wp2
    go_ret
    exact ⟨rfl, HB.out⟩
  cases b2
  · go_enter Tryz.func22, Tryz.ntmps22
    go_wp2_with fail
    refine (W1.out _).mono ?_
    rintro e w1 ⟨rfl, rfl⟩
    go_wp2_with fail
    refine (W2.out _).mono ?_
    rintro e w1 ⟨rfl, rfl⟩
    go_wp2
    go_ret
    exact ⟨rfl, HB.out⟩
  cases b3
  · go_enter Tryz.func22, Tryz.ntmps22
    go_wp2_with fail
    refine (W1.out _).mono ?_
    rintro e w1 ⟨rfl, rfl⟩
    go_wp2_with fail
    refine (W2.out _).mono ?_
    rintro e w1 ⟨rfl, rfl⟩
    go_wp2_with fail
    refine (W3.out _).mono ?_
    rintro e w1 ⟨rfl, rfl⟩
    go_wp2
    go_ret
    exact ⟨rfl, HB.out⟩
  · go_enter Tryz.func22, Tryz.ntmps22
    go_wp2_with fail
    refine (W1.out _).mono ?_
    rintro e w1 ⟨rfl, rfl⟩
    go_wp2_with fail
    refine (W2.out _).mono ?_
    rintro e w1 ⟨rfl, rfl⟩
    go_wp2_with fail
    refine (W3.out _).mono ?_
    rintro e w1 ⟨rfl, rfl⟩
    go_wp2_with fail
    refine (W4.out _).mono ?_
    rintro e w1 ⟨rfl, rfl⟩
    go_wp2
    go_ret
    exact ⟨rfl, HB.out⟩
set_option maxHeartbeats 8000000 in
theorem refCB_any (c : ClT) (hd : c.d.length = 32) (w : World) (C : Array Value) (HC : Hid (C = (ccells c).toArray)) :
    Calls Tryz.prog 77 #[.agg C] w fun e w' => ∃ v, e = .returned v ∧ w'.ownsRow w.heap.size 5 1 v (claimB c).length (cellsOf (claimB c)) ∧ Below w.heap.size w w' := by
  obtain ⟨r, Hr⟩ : ∃ r, Hid (r = c.r) := ⟨c.r, hidk rfl⟩
  obtain ⟨e, He⟩ : ∃ r, Hid (r = c.e) := ⟨c.e, hidk rfl⟩
  obtain ⟨n, Hn⟩ : ∃ r, Hid (r = c.n) := ⟨c.n, hidk rfl⟩
  obtain ⟨s, Hs⟩ : ∃ r, Hid (r = c.s) := ⟨c.s, hidk rfl⟩
  obtain ⟨n1, Hn1⟩ : ∃ s : ByteArray, Hid (s = nOf r) := ⟨nOf r, hidk rfl⟩
  obtain ⟨n2, Hn2⟩ : ∃ s : ByteArray, Hid (s = nOf e) := ⟨nOf e, hidk rfl⟩
  obtain ⟨n3, Hn3⟩ : ∃ x : ByteArray, Hid (x = nOf n) := ⟨nOf n, hidk rfl⟩
  obtain ⟨n4, Hn4⟩ : ∃ x : ByteArray, Hid (x = nOf s) := ⟨nOf s, hidk rfl⟩
  obtain ⟨x5, HX⟩ : ∃ x : ByteArray, Hid (x = ⟨c.d.toArray⟩) := ⟨⟨c.d.toArray⟩, hidk rfl⟩
  obtain ⟨D, HD, HSD, H1D, H32D⟩ := dig_row' c.d hd
  have N1 : Hid (∀ W, Calls Tryz.prog 75 #[.int .i64 r] W fun e w' => e = .returned (.string n1) ∧ Below W.heap.size W w') := fun W => by rw [Hn1.out]; exact refNum_any r W
  have N2 : Hid (∀ W, Calls Tryz.prog 75 #[.int .i64 e] W fun e w' => e = .returned (.string n2) ∧ Below W.heap.size W w') := fun W => by rw [Hn2.out]; exact refNum_any e W
  have N3 : Hid (∀ W, Calls Tryz.prog 75 #[.int .i64 n] W fun e w' => e = .returned (.string n3) ∧ Below W.heap.size W w') := fun W => by rw [Hn3.out]; exact refNum_any n W
  have N4 : Hid (∀ W, Calls Tryz.prog 75 #[.int .i64 s] W fun e w' => e = .returned (.string n4) ∧ Below W.heap.size W w') := fun W => by rw [Hn4.out]; exact refNum_any s W
  have X5 : Hid (∀ W, Calls Tryz.prog 96 #[.agg D] W fun e w' => e = .returned (.string x5) ∧ Below W.heap.size W w') := fun W => by
    have := refText_any c.d hd W x5 HX D.toList (by show _ = _; rw [HD.out])
    simpa using this
  have hL5 : cL c = [n1, n2, n3, n4, x5] := by rw [Hn1.out, Hn2.out, Hn3.out, Hn4.out, HX.out, Hr.out, He.out, Hn.out, Hs.out]; rfl
  have RW : Hid (∀ W, Calls Tryz.prog 94 #[.slice (some ⟨W.heap.size, 0, none⟩) 5 5] (W.alloc (.cells #[.string n1, .string n2, .string n3, .string n4, .string x5] 9)) fun e w' => ∃ v, e = .returned v ∧ w'.ownsRow W.heap.size 5 1 v (claimB c).length (cellsOf (claimB c)) ∧ Below W.heap.size W w') := fun W => by
    have h1 : ∀ y ∈ [n1, n2, n3, n4, x5], y.size ≤ 65536 := fun y hy => by
      rw [← hL5] at hy
      unfold cL at hy
      simp only [List.mem_cons, List.not_mem_nil, or_false] at hy
      rcases hy with rfl | rfl | rfl | rfl | rfl
      · exact Nat.le_trans (nOf_size _) (by omega)
      · exact Nat.le_trans (nOf_size _) (by omega)
      · exact Nat.le_trans (nOf_size _) (by omega)
      · exact Nat.le_trans (nOf_size _) (by omega)
      · rw [bA_size]; omega
    refine (refRow_any (some ⟨W.heap.size, 0, none⟩) 5 5 [n1, n2, n3, n4, x5] (W.alloc (.cells #[.string n1, .string n2, .string n3, .string n4, .string x5] 9)) (texts_new W [n1, n2, n3, n4, x5] 9) (by omega) h1).mono ?_
    rintro e w' ⟨v, he, ho, hb⟩
    rw [← hL5] at ho
    exact ⟨v, he, own_lower ho (by simp), ((Below.refl _ _).alloc (Nat.le_refl _) _).trans (hb.mono (by simp))⟩
  have HR := hidk (crow_new w c C HC 27)
  have HB : Hid (Below w.heap.size w (w.alloc (.cells C 27))) := (Below.refl _ _).alloc (Nat.le_refl _) _
  have HDL : Hid (D.toList = cellsOf c.d) := by show _ = _; rw [HD.out]
  clear HC HX hL5 HD Hn1 Hn2 Hn3 Hn4
  go_enter Tryz.func77, Tryz.ntmps77
  go_wp2
  have HBc : Hid (Below w.heap.size w (w.alloc (.cells C 27)).drew) := HB.out.drew
  clear HB
  refine wp_region_held_drew (S := (fun W => CRow W w.heap.size 0 c)) (by kernel_rfl) (show CRow (w.alloc (.cells C 27)).drew w.heap.size 0 c from HR.out.keep (Below.refl _ _).drew) (fun hHeld => ?_)
  refine wpAnyH_take (i := 0) (oi := { dst := some 3, op := Op.fieldAddr 27 (Operand.tmp 1) 0, type := 0, pos := "ref.go:21", after := #[], guard := none }) (v := .pointer (some ⟨w.heap.size, 0, none⟩)) rfl (by kernel_rfl) (by kernel_rfl) (by kernel_rfl) (fun _ _ _ h => h) (Or.inl ⟨by rfl, by intro W hSw; go_simp⟩) hHeld ?_
  try simp only [Act.put, List.setIfInBounds_toArray, List.set_cons_zero, List.set_cons_succ]
  refine wpAnyH_take (i := 1) (oi := { dst := some 4, op := Op.load 3 (Operand.tmp 3), type := 3, pos := "ref.go:21", after := #[{ on := 0, ground := Ground.data }], guard := none }) (v := .int .i64 r) rfl (by kernel_rfl) (by kernel_rfl) (by kernel_rfl) (fun _ _ _ h => h) (Or.inl ⟨by rfl, by intro W hSw; have h1 := hSw.r; rw [← Hr.out] at h1; go_simp⟩) hHeld ?_
  try simp only [Act.put, List.setIfInBounds_toArray, List.set_cons_zero, List.set_cons_succ]
  refine wpAnyH_take (i := 3) (oi := { dst := some 6, op := Op.fieldAddr 27 (Operand.tmp 1) 1, type := 0, pos := "ref.go:21", after := #[], guard := none }) (v := .pointer (some ⟨w.heap.size, 1, none⟩)) rfl (by kernel_rfl) (by kernel_rfl) (by kernel_rfl) (fun _ _ _ h => h) (Or.inl ⟨by rfl, by intro W hSw; go_simp⟩) hHeld ?_
  try simp only [Act.put, List.setIfInBounds_toArray, List.set_cons_zero, List.set_cons_succ]
  refine wpAnyH_take (i := 4) (oi := { dst := some 7, op := Op.load 3 (Operand.tmp 6), type := 3, pos := "ref.go:21", after := #[{ on := 3, ground := Ground.data }], guard := none }) (v := .int .i64 e) rfl (by kernel_rfl) (by kernel_rfl) (by kernel_rfl) (fun _ _ _ h => h) (Or.inl ⟨by rfl, by intro W hSw; have h1 := hSw.e; rw [← He.out, Nat.zero_add] at h1; go_simp⟩) hHeld ?_
  try simp only [Act.put, List.setIfInBounds_toArray, List.set_cons_zero, List.set_cons_succ]
  refine wpAnyH_take (i := 6) (oi := { dst := some 9, op := Op.fieldAddr 27 (Operand.tmp 1) 2, type := 0, pos := "ref.go:21", after := #[], guard := none }) (v := .pointer (some ⟨w.heap.size, 2, none⟩)) rfl (by kernel_rfl) (by kernel_rfl) (by kernel_rfl) (fun _ _ _ h => h) (Or.inl ⟨by rfl, by intro W hSw; go_simp⟩) hHeld ?_
  try simp only [Act.put, List.setIfInBounds_toArray, List.set_cons_zero, List.set_cons_succ]
  refine wpAnyH_take (i := 7) (oi := { dst := some 10, op := Op.load 3 (Operand.tmp 9), type := 3, pos := "ref.go:21", after := #[{ on := 6, ground := Ground.data }], guard := none }) (v := .int .i64 n) rfl (by kernel_rfl) (by kernel_rfl) (by kernel_rfl) (fun _ _ _ h => h) (Or.inl ⟨by rfl, by intro W hSw; have h1 := hSw.n; rw [← Hn.out, Nat.zero_add] at h1; go_simp⟩) hHeld ?_
  try simp only [Act.put, List.setIfInBounds_toArray, List.set_cons_zero, List.set_cons_succ]
  refine wpAnyH_take (i := 9) (oi := { dst := some 12, op := Op.fieldAddr 27 (Operand.tmp 1) 3, type := 0, pos := "ref.go:21", after := #[], guard := none }) (v := .pointer (some ⟨w.heap.size, 3, none⟩)) rfl (by kernel_rfl) (by kernel_rfl) (by kernel_rfl) (fun _ _ _ h => h) (Or.inl ⟨by rfl, by intro W hSw; go_simp⟩) hHeld ?_
  try simp only [Act.put, List.setIfInBounds_toArray, List.set_cons_zero, List.set_cons_succ]
  refine wpAnyH_take (i := 10) (oi := { dst := some 13, op := Op.load 3 (Operand.tmp 12), type := 3, pos := "ref.go:21", after := #[{ on := 9, ground := Ground.data }], guard := none }) (v := .int .i64 s) rfl (by kernel_rfl) (by kernel_rfl) (by kernel_rfl) (fun _ _ _ h => h) (Or.inl ⟨by rfl, by intro W hSw; have h1 := hSw.s; rw [← Hs.out, Nat.zero_add] at h1; go_simp⟩) hHeld ?_
  try simp only [Act.put, List.setIfInBounds_toArray, List.set_cons_zero, List.set_cons_succ]
  refine wpAnyH_take (i := 12) (oi := { dst := some 15, op := Op.fieldAddr 27 (Operand.tmp 1) 4, type := 0, pos := "ref.go:21", after := #[], guard := none }) (v := .pointer (some ⟨w.heap.size, 4, none⟩)) rfl (by kernel_rfl) (by kernel_rfl) (by kernel_rfl) (fun _ _ _ h => h) (Or.inl ⟨by rfl, by intro W hSw; go_simp⟩) hHeld ?_
  try simp only [Act.put, List.setIfInBounds_toArray, List.set_cons_zero, List.set_cons_succ]
  refine wpAnyH_take (i := 13) (oi := { dst := some 16, op := Op.load 25 (Operand.tmp 15), type := 25, pos := "ref.go:21", after := #[{ on := 12, ground := Ground.data }], guard := none }) (v := .agg D) rfl (by kernel_rfl) (by kernel_rfl) (by kernel_rfl) (fun _ _ _ h => h) (yieldsIf_mid (by rfl) 25 (.tmp 15) rfl w.heap.size 4 rfl D _ (fun W h => by rw [HDL.out]; have := h.d; rwa [Nat.zero_add] at this) Tryz.underlying25 rfl HSD.out) hHeld ?_
  try simp only [Act.put, List.setIfInBounds_toArray, List.set_cons_zero, List.set_cons_succ]
  refine wpAnyH_ready (rs := [2]) (by kernel_rfl) (by simp) ?_
  refine (AllReadyH.cons (o := { dst := some 5, op := Op.call { callee := Callee.value (Operand.func 75), args := #[Operand.tmp 4], argTypes := #[3] }, type := 9, pos := "ref.go:21", after := #[{ on := 1, ground := Ground.data }], guard := none }) rfl (fun K hK => ?_) AllReadyH.nil)
  go_simp
  refine (N1.out _).mono ?_
  rintro e w2 ⟨rfl, hb1⟩
  replace HBc := hidk (HBc.out.trans (hb1.mono HBc.out.size))
  go_wp2_with fail
  refine hK.out _ _ (hHeld.keep hb1) (fun hHeld => ?_)
  clear hK K
  try simp only [Act.put, List.setIfInBounds_toArray, List.set_cons_zero, List.set_cons_succ]
  refine wpAnyH_ready (rs := [5]) (by kernel_rfl) (by simp) ?_
  refine (AllReadyH.cons (o := { dst := some 8, op := Op.call { callee := Callee.value (Operand.func 75), args := #[Operand.tmp 7], argTypes := #[3] }, type := 9, pos := "ref.go:21", after := #[{ on := 4, ground := Ground.data }, { on := 2, ground := Ground.chain }], guard := none }) rfl (fun K hK => ?_) AllReadyH.nil)
  go_simp
  refine (N2.out _).mono ?_
  rintro e w5 ⟨rfl, hb2⟩
  replace HBc := hidk (HBc.out.trans (hb2.mono HBc.out.size))
  go_wp2_with fail
  refine hK.out _ _ (hHeld.keep hb2) (fun hHeld => ?_)
  clear hK K
  try simp only [Act.put, List.setIfInBounds_toArray, List.set_cons_zero, List.set_cons_succ]
  refine wpAnyH_ready (rs := [8]) (by kernel_rfl) (by simp) ?_
  refine (AllReadyH.cons (o := { dst := some 11, op := Op.call { callee := Callee.value (Operand.func 75), args := #[Operand.tmp 10], argTypes := #[3] }, type := 9, pos := "ref.go:21", after := #[{ on := 7, ground := Ground.data }, { on := 5, ground := Ground.chain }], guard := none }) rfl (fun K hK => ?_) AllReadyH.nil)
  go_simp
  refine (N3.out _).mono ?_
  rintro e w8 ⟨rfl, hb3⟩
  replace HBc := hidk (HBc.out.trans (hb3.mono HBc.out.size))
  go_wp2_with fail
  refine hK.out _ _ (hHeld.keep hb3) (fun hHeld => ?_)
  clear hK K
  try simp only [Act.put, List.setIfInBounds_toArray, List.set_cons_zero, List.set_cons_succ]
  refine wpAnyH_ready (rs := [11]) (by kernel_rfl) (by simp) ?_
  refine (AllReadyH.cons (o := { dst := some 14, op := Op.call { callee := Callee.value (Operand.func 75), args := #[Operand.tmp 13], argTypes := #[3] }, type := 9, pos := "ref.go:21", after := #[{ on := 10, ground := Ground.data }, { on := 8, ground := Ground.chain }], guard := none }) rfl (fun K hK => ?_) AllReadyH.nil)
  go_simp
  refine (N4.out _).mono ?_
  rintro e w11 ⟨rfl, hb4⟩
  replace HBc := hidk (HBc.out.trans (hb4.mono HBc.out.size))
  go_wp2_with fail
  refine hK.out _ _ (hHeld.keep hb4) (fun hHeld => ?_)
  clear hK K
  try simp only [Act.put, List.setIfInBounds_toArray, List.set_cons_zero, List.set_cons_succ]
  refine wpAnyH_ready (rs := [14]) (by kernel_rfl) (by simp) ?_
  refine (AllReadyH.cons (o := { dst := some 17, op := Op.call { callee := Callee.value (Operand.func 96), args := #[Operand.tmp 16], argTypes := #[25] }, type := 9, pos := "ref.go:21", after := #[{ on := 13, ground := Ground.data }, { on := 11, ground := Ground.chain }], guard := none }) rfl (fun K hK => ?_) AllReadyH.nil)
  go_simp
  refine (X5.out _).mono ?_
  rintro e w14 ⟨rfl, hb5⟩
  replace HBc := hidk (HBc.out.trans (hb5.mono HBc.out.size))
  go_wp2_with fail
  refine hK.out _ _ (hHeld.keep hb5) (fun hHeld => ?_)
  clear hK K
  try simp only [Act.put, List.setIfInBounds_toArray, List.set_cons_zero, List.set_cons_succ]
  refine wpAnyH_ready (rs := [15]) (by kernel_rfl) (by simp) ?_
  refine (AllReadyH.cons (o := { dst := some 18, op := Op.buildSlice 53 5 #[(0, Operand.tmp 5), (1, Operand.tmp 8), (2, Operand.tmp 11), (3, Operand.tmp 14), (4, Operand.tmp 17)], type := 53, pos := "ref.go:21", after := #[{ on := 2, ground := Ground.data }, { on := 5, ground := Ground.data }, { on := 8, ground := Ground.data }, { on := 11, ground := Ground.data }, { on := 14, ground := Ground.data }], guard := none }) rfl (fun K hK => ?_) AllReadyH.nil)
  have HR14 := hidk hHeld
  go_simp
  refine hK.out _ _ (hHeld.keep ((Below.refl _ _).alloc (Nat.le_refl _) _)) (fun hHeld => ?_)
  clear hK K
  try simp only [Act.put, List.setIfInBounds_toArray, List.set_cons_zero, List.set_cons_succ]
  refine wpAnyH_ready (rs := [16]) (by kernel_rfl) (by simp) ?_
  refine (AllReadyH.cons (o := { dst := some 19, op := Op.call { callee := Callee.value (Operand.func 94), args := #[Operand.tmp 18], argTypes := #[53] }, type := 22, pos := "ref.go:21", after := #[{ on := 15, ground := Ground.data }, { on := 14, ground := Ground.chain }], guard := none }) rfl (fun K hK => ?_) AllReadyH.nil)
  go_simp
  refine (RW.out _).mono ?_
  rintro e w16 ⟨v, rfl, hown, hb6⟩
  have HOWN := hidk (own_lower hown HBc.out.size)
  replace HBc := hidk (HBc.out.trans (hb6.mono HBc.out.size))
  go_wp2_with fail
  refine hK.out _ _ (HR14.out.keep hb6) (fun hHeld => ?_)
  clear hK K
  try simp only [Act.put, List.setIfInBounds_toArray, List.set_cons_zero, List.set_cons_succ]
  refine wpAnyH_take (i := 17) (oi := { dst := some 2, op := Op.assign (Operand.tmp 19), type := 22, pos := "ref.go:21", after := #[{ on := 16, ground := Ground.data }, { on := 16, ground := Ground.chain }, { on := 0, ground := Ground.phase }, { on := 1, ground := Ground.phase }, { on := 2, ground := Ground.phase }, { on := 3, ground := Ground.phase }, { on := 4, ground := Ground.phase }, { on := 5, ground := Ground.phase }, { on := 6, ground := Ground.phase }, { on := 7, ground := Ground.phase }, { on := 8, ground := Ground.phase }, { on := 9, ground := Ground.phase }, { on := 10, ground := Ground.phase }, { on := 11, ground := Ground.phase }, { on := 12, ground := Ground.phase }, { on := 13, ground := Ground.phase }, { on := 14, ground := Ground.phase }, { on := 15, ground := Ground.phase }, { on := 16, ground := Ground.phase }], guard := none }) (v := v) rfl (by kernel_rfl) (by kernel_rfl) (by kernel_rfl) (fun _ _ _ h => h) (Or.inl ⟨by rfl, by intro W hSw; go_simp⟩) hHeld ?_
  try simp only [Act.put, List.setIfInBounds_toArray, List.set_cons_zero, List.set_cons_succ]
  refine wpAnyH_done (by kernel_rfl) ?_ _
  go_wp2
  go_ret
  exact ⟨_, rfl, HOWN.out, HBc.out⟩
end Go.Proofs.YtgkfodmccfnaoaaGreatDoor

/- The statements' own example of signing, over what the calls of package head answer. -/
namespace Go.Proofs.YtgkfodmccfnaoaaGreatDoor
open Go.RowKit Sums Nums
set_option linter.unusedVariables false
set_option linter.unusedSimpArgs false
set_option maxRecDepth 100000
theorem wrote_part {w : World} {g k : Nat} {D : Array Value} {t : TypeId} {v : Value} (h : w.heap[g]? = some (.cells D t (0, 0))) : Wrote g (D.setIfInBounds k v) t w (w.setCell ⟨g, k, none⟩ v) :=
  ⟨heap_setCell_same w g k D t v h, fun j hj => Below.heap_setCell _ _ _ _ hj, fun B a hb hg => hb.setCell hg v⟩
/-- A number stored in the midst of a variable. -/
theorem wpList_set_int {P : Program} {ops : Array Oper} {rest : List Oper} {o : Oper} {a : Act} {w : World} {Q : Exit → Act → World → Prop} (hgd : o.guard = none) (ty : TypeId) (x y : Operand) (ho : o.op = .store ty x y)
    (g k : Nat) (q : IntKind) (n : Int) (hx : a.eval x = .pointer (some ⟨g, k, none⟩)) (hy : a.eval y = .int q n) (t' : TypeId) (D : Array Value) (hg : w.heap[g]? = some (.cells D t' (0, 0))) (hk : k < D.size) (hi : (P.info? ty).map (·.size) = some 1)
    (h : ∀ w', Hid (Wrote g (D.setIfInBounds k (.int q n)) t' w w') → wpList P ops Q rest (a.put o.dst undef) w') : wpList P ops Q (o :: rest) a w := by
  refine wpList_plain hgd fun K hK => ?_
  have hkk := hK _ _ (h _ (wrote_part (k := k) (v := .int q n) hg))
  have hc : w.cell? ⟨g, k, none⟩ = some D[k] := by rw [cell_of_row w g k D t' (0, 0) hg]; simp [hk]
  have hf : w.frozen? ⟨g, k, none⟩ = false := frozen_of_row w g k D t' hg
  cases hq : P.info? ty with
  | none => simp [hq] at hi
  | some i =>
    have hs : i.size = 1 := by simpa [hq] using hi
    have := run_storeCells_cells (P := P) g k [.int q n] 0 w (fun j hj => by
      obtain rfl : j = 0 := by simpa using hj
      simp [hc]) (fun j hj => by
      obtain rfl : j = 0 := by simpa using hj
      simpa using hf) (fun v hv => by simp at hv; subst hv; rfl)
    unfold Oper.wp execOp
    simp only [ho, hx, hy, Instr.storeAt, Instr.sureAddr, Sem.run_bind, Sem.run_pure, Result.andThen_ok]
    simp only [Nat.add_zero] at this
    simp [storeVar, sizeOf, typeInfo, hq, Value.cells, hs, this]
    exact hkk
theorem wpList_build_none_w {P : Program} {ops : Array Oper} {rest : List Oper} {o : Oper} {a : Act} {w : World} {Q : Exit → Act → World → Prop} (hw : Region.wanted o (yielded ops a.tmps) = true) (t : TypeId) (ho : o.op = .build t #[])
    (cs : Array Value) (hb : P.built t [] = some cs) (h : wpList P ops Q rest (a.put o.dst (.agg cs)) w) : wpList P ops Q (o :: rest) a w :=
  BigFrame.wpList_want hw fun _ hK => by
    have hr := run_build w t #[] cs (by simpa using hb)
    unfold Oper.wp execOp
    simp [ho, hr]
    exact hK _ _ h
end Go.Proofs.YtgkfodmccfnaoaaGreatDoor

/- The statements' own example of a head's bytes, over what the calls of package head answer. -/
namespace Go.Proofs.YtgkfodmccfnaoaaGreatDoor
open Go.RowKit Sums Nums
set_option linter.unusedVariables false
set_option linter.unusedSimpArgs false
set_option maxRecDepth 100000

end Go.Proofs.YtgkfodmccfnaoaaGreatDoor

/- What HeadTurned says of any input, over what the calls of package head answer. -/
namespace Go.Proofs.YtgkfodmccfnaoaaGreatDoor
open Go.RowKit Sums Nums
set_option linter.unusedVariables false
set_option linter.unusedSimpArgs false
set_option maxRecDepth 100000
/-- A row stored in the midst of a variable. -/
theorem wpList_set_mid {P : Program} {ops : Array Oper} {rest : List Oper} {o : Oper} {a : Act} {w : World} {Q : Exit → Act → World → Prop} (hgd : o.guard = none) (ty : TypeId) (x y : Operand) (ho : o.op = .store ty x y)
    (g k : Nat) (D : Array Value) (hx : a.eval x = .pointer (some ⟨g, k, none⟩)) (hy : a.eval y = .agg D) (t' : TypeId) (Z : Array Value) (hg : w.heap[g]? = some (.cells Z t' (0, 0))) (hk : k + D.size ≤ Z.size) (hi : (P.info? ty).map (·.size) = some D.size) (h1 : D.all (·.oneCell') = true)
    (h : ∀ w', Hid (Wrote g (Z.toList.take k ++ D.toList ++ Z.toList.drop (k + D.size)).toArray t' w w') → wpList P ops Q rest (a.put o.dst undef) w') : wpList P ops Q (o :: rest) a w := by
  refine wpList_plain hgd fun K hK => ?_
  have hkk := hK _ _ (h _ (wrote_row hg))
  have h1' : ∀ v ∈ D.toList, v.oneCell' = true := by
    intro v hv
    rw [Array.all_eq_true'] at h1
    exact h1 v (by simpa using hv)
  have hst := run_storeCells_at P g k t' D.toList 0 Z w hg (by simpa using hk) h1'
  cases hq : P.info? ty with
  | none => simp [hq] at hi
  | some i =>
    have hs : i.size = D.size := by simpa [hq] using hi
    unfold Oper.wp execOp
    simp only [ho, hx, hy, Instr.storeAt, Instr.sureAddr, Sem.run_bind, Sem.run_pure, Result.andThen_ok]
    simp only [Nat.add_zero, Nat.zero_add] at hst
    simp [storeVar, sizeOf, typeInfo, hq, Value.cells, hs, hst]
    simp only [List.append_assoc] at hkk ⊢
    exact hkk
theorem wpList_mid_w {P : Program} {ops : Array Oper} {rest : List Oper} {op : Oper} {a : Act} {w : World} {Q : Exit → Act → World → Prop} (hw : Region.wanted op (yielded ops a.tmps) = true) (ty : TypeId) (x : Operand) (ho : op.op = .load ty x)
    (b o : Nat) (hx : a.eval x = .pointer (some ⟨b, o, none⟩)) (D : Array Value) (d : TypeDesc) (hc : w.rangeAt b o D.toList)
    (hu : P.underlying ty = some d) (hd : d.isRow = true) (hi : (P.info? ty).map (·.size) = some D.size)
    (h : wpList P ops Q rest (a.put op.dst (.agg D)) w) : wpList P ops Q (op :: rest) a w := by
  have hy : YieldsIf P ops (fun W => W = w) op (.agg D) a := yieldsIf_mid hw ty x ho b o hx D d (fun W e => by rw [e]; exact hc) hu hd hi
  rcases hy with ⟨_, hv⟩ | ⟨hf, _⟩
  · exact BigFrame.wpList_want hw fun K hK => by
      simp only [Oper.wp, hv w rfl, Oper.upon]
      first | exact .inl (hK _ _ h) | exact hK _ _ h
  · rw [hw] at hf; cases hf
end Go.Proofs.YtgkfodmccfnaoaaGreatDoor

/- What the small calls of package head answer: within, Check, mayBe, numberField, digestField. -/
namespace Go.Proofs.YtgkfodmccfnaoaaGreatDoor
open Go.RowKit Sums Nums
set_option linter.unusedVariables false
set_option linter.unusedSimpArgs false
set_option maxRecDepth 100000
theorem hWithin_any (n a b : Int) (w : World) : Calls Tryz.prog 92 #[.int .i64 n, .int .i64 a, .int .i64 b] w fun e w' => e = .returned (.bool (decide (a ≤ n) && decide (n ≤ b))) ∧ w' = w := by
  by_cases h1 : a ≤ n
  · have d1 : decide (a ≤ n) = true := by rw [decide_eq_true_eq]; exact h1
    obtain ⟨x, hx⟩ : ∃ x, decide (n ≤ b) = x := ⟨_, rfl⟩
    rw [d1, hx]
    clear h1
    go_enter Tryz.func92, Tryz.ntmps92
    go_wp2
    go_ret
    exact ⟨rfl, rfl⟩
  · have d1 : decide (a ≤ n) = false := by rw [decide_eq_false_iff_not]; exact h1
    rw [d1]
    clear h1
    go_enter Tryz.func92, Tryz.ntmps92
    go_wp2
    go_ret
    exact ⟨rfl, rfl⟩
set_option maxHeartbeats 2000000 in
theorem hCheck_any (h : HdT) (hd : h.d.length = 32) (w : World) (C : Array Value) (HC : Hid (C = (hcells h).toArray)) :
    Calls Tryz.prog 91 #[.agg C] w fun e w' => e = .returned (.int .i64 (putE h)) ∧ Below w.heap.size w w' := by
  have HR := hrow_new w h hd C HC 33
  have HB : Hid (Below w.heap.size w (w.alloc (.cells C 33))) := (Below.refl _ _).alloc (Nat.le_refl _) _
  have c0 := HR.r
  have c1 := HR.e
  have c2 := HR.s
  have c4 := HR.t
  simp only [Nat.zero_add] at c1 c2 c4
  have hnot : ∀ (x : Bool) (w : World), (Op.unary .not (.bool x)).run Tryz.prog w = .ok (.bool (!x)) w := fun _ _ => rfl
  have WI : Hid (∀ (n a b : Int) (W : World), Calls Tryz.prog 92 #[.int .i64 n, .int .i64 a, .int .i64 b] W fun e w' => e = .returned (.bool (decide (a ≤ n) && decide (n ≤ b))) ∧ w' = W) := hWithin_any
  obtain ⟨b1, hb1⟩ : ∃ b, (decide (1 ≤ h.r) && decide (h.r ≤ 5)) = b := ⟨_, rfl⟩
  obtain ⟨b2, hb2⟩ : ∃ b, (decide (1 ≤ h.e) && decide (h.e ≤ 900000000)) = b := ⟨_, rfl⟩
  obtain ⟨b3, hb3⟩ : ∃ b, (decide (0 ≤ h.s) && decide (h.s ≤ 100000)) = b := ⟨_, rfl⟩
  obtain ⟨b4, hb4⟩ : ∃ b, (decide (0 ≤ h.t) && decide (h.t ≤ 900000000)) = b := ⟨_, rfl⟩
  have W1 := hidk (WI.out h.r 1 5)
  have W2 := hidk (WI.out h.e 1 900000000)
  have W3 := hidk (WI.out h.s 0 100000)
  have W4 := hidk (WI.out h.t 0 900000000)
  rw [hb1] at W1
  rw [hb2] at W2
  rw [hb3] at W3
  rw [hb4] at W4
  have hE : putE h = if (b1 && (b2 && (b3 && b4))) = true then 0 else 70 := by
    rw [← hb1, ← hb2, ← hb3, ← hb4]
    unfold putE rightH
    simp only [Bool.and_assoc]
  rw [hE]
  obtain ⟨r, hr⟩ : ∃ r, r = h.r := ⟨_, rfl⟩
  obtain ⟨e, he⟩ : ∃ r, r = h.e := ⟨_, rfl⟩
  obtain ⟨s, hs⟩ : ∃ r, r = h.s := ⟨_, rfl⟩
  obtain ⟨t, ht⟩ : ∃ r, r = h.t := ⟨_, rfl⟩
  rw [← hr] at c0 W1
  rw [← he] at c1 W2
  rw [← hs] at c2 W3
  rw [← ht] at c4 W4
  clear hE hb1 hb2 hb3 hb4 WI HR hr he hs ht HC
  cases b1
  · go_enter Tryz.func91, Tryz.ntmps91
    go_wp2_with fail
    refine (W1.out _).mono ?_
    rintro e w1 ⟨rfl, rfl⟩
    go_wp2
    go_ret
    exact ⟨rfl, HB.out⟩
  cases b2
  · go_enter Tryz.func91, Tryz.ntmps91
    go_wp2_with fail
    refine (W1.out _).mono ?_
    rintro e w1 ⟨rfl, rfl⟩
    go_wp2_with fail
    refine (W2.out _).mono ?_
    rintro e w1 ⟨rfl, rfl⟩
    go_wp2
    go_ret
    exact ⟨rfl, HB.out⟩
  cases b3
  · go_enter Tryz.func91, Tryz.ntmps91
    go_wp2_with fail
    refine (W1.out _).mono ?_
    rintro e w1 ⟨rfl, rfl⟩
    go_wp2_with fail
    refine (W2.out _).mono ?_
    rintro e w1 ⟨rfl, rfl⟩
    go_wp2_with fail
    refine (W3.out _).mono ?_
    rintro e w1 ⟨rfl, rfl⟩
    go_wp2
    go_ret
    exact ⟨rfl, HB.out⟩
  cases b4
  · go_enter Tryz.func91, Tryz.ntmps91
    go_wp2_with fail
    refine (W1.out _).mono ?_
    rintro e w1 ⟨rfl, rfl⟩
    go_wp2_with fail
    refine (W2.out _).mono ?_
    rintro e w1 ⟨rfl, rfl⟩
    go_wp2_with fail
    refine (W3.out _).mono ?_
    rintro e w1 ⟨rfl, rfl⟩
    go_wp2_with fail
    refine (W4.out _).mono ?_
    rintro e w1 ⟨rfl, rfl⟩
    go_wp2
    go_ret
    exact ⟨rfl, HB.out⟩
  · go_enter Tryz.func91, Tryz.ntmps91
    go_wp2_with fail
    refine (W1.out _).mono ?_
    rintro e w1 ⟨rfl, rfl⟩
    go_wp2_with fail
    refine (W2.out _).mono ?_
    rintro e w1 ⟨rfl, rfl⟩
    go_wp2_with fail
    refine (W3.out _).mono ?_
    rintro e w1 ⟨rfl, rfl⟩
    go_wp2_with fail
    refine (W4.out _).mono ?_
    rintro e w1 ⟨rfl, rfl⟩
    go_wp2
    go_ret
    exact ⟨rfl, HB.out⟩
theorem putE_ok (h : HdT) : putE h = 0 ∧ rightH h = true ∨ putE h = 70 ∧ rightH h = false := by
  unfold putE
  cases rightH h
  · exact .inr ⟨rfl, rfl⟩
  · exact .inl ⟨rfl, rfl⟩
set_option maxHeartbeats 2000000 in
theorem hMay_any (s : SgT) (hd : s.h.d.length = 32) (w : World) (C : Array Value) (HC : Hid (C = (scells s).toArray)) :
    Calls Tryz.prog 69 #[.agg C] w fun e w' => e = .returned (.bool (mayS s)) ∧ Below w.heap.size w w' := by
  have HR := hidk (srow_new w s hd C HC 35)
  have HB : Hid (Below w.heap.size w (w.alloc (.cells C 35))) := (Below.refl _ _).alloc (Nat.le_refl _) _
  obtain ⟨HCs, HHC, HSH, H36⟩ := head_row s.h hd
  have HRH : Hid ((w.alloc (.cells C 35)).rangeAt w.heap.size 0 HCs.toList) := by rw [HHC.out]; exact HR.out.h
  obtain ⟨n, Hn⟩ : ∃ n, Hid (n = s.n) := ⟨s.n, hidk rfl⟩
  obtain ⟨b2, hb2⟩ : ∃ b, (decide (1 ≤ n) && decide (n ≤ 3)) = b := ⟨_, rfl⟩
  obtain ⟨E, hE0⟩ : ∃ E, E = putE s.h := ⟨_, rfl⟩
  have R1 : Hid (∀ W, Calls Tryz.prog 91 #[.agg HCs] W fun e w' => e = .returned (.int .i64 E) ∧ Below W.heap.size W w') := fun W => by rw [hE0]; exact hCheck_any s.h hd W HCs HHC
  have W2 : Hid (∀ W, Calls Tryz.prog 92 #[.int .i64 n, .int .i64 1, .int .i64 3] W fun e w' => e = .returned (.bool b2) ∧ w' = W) := fun W => by rw [← hb2]; exact hWithin_any n 1 3 W
  have hM : mayS s = (rightH s.h && b2) := by
    rw [← hb2, Hn.out]
    unfold mayS
    rw [Bool.and_assoc]
  rw [hM]
  have hp := putE_ok s.h
  rw [← hE0] at hp
  clear hM hb2 HC hE0
  rcases hp with ⟨rfl, hr⟩ | ⟨rfl, hr⟩
  · rw [hr]
    clear hr
    go_enter Tryz.func69, Tryz.ntmps69
    go_wp2_with (first
      | (show wpList _ _ _ ({ dst := some 4, op := _, type := _, pos := _, after := _, guard := _ } :: _) _ _; refine wpList_mid rfl 33 (.tmp 3) rfl w.heap.size 0 rfl HCs _ HRH.out Tryz.underlying33 rfl HSH.out ?_; try simp only [Act.put, List.setIfInBounds_toArray, List.set_cons_zero, List.set_cons_succ])
      | fail)
    refine (R1.out _).mono ?_
    rintro e w1 ⟨rfl, hb⟩
    have HB1 := hidk (HB.out.trans (hb.mono HB.out.size))
    have hc := (HR.out.keep hb).n
    rw [← Hn.out, Nat.zero_add] at hc
    clear hb
    go_wp2_with fail
    refine (W2.out _).mono ?_
    rintro e w2 ⟨rfl, rfl⟩
    go_wp2
    go_ret
    exact ⟨rfl, HB1.out⟩
  · rw [hr]
    clear hr
    go_enter Tryz.func69, Tryz.ntmps69
    go_wp2_with (first
      | (show wpList _ _ _ ({ dst := some 4, op := _, type := _, pos := _, after := _, guard := _ } :: _) _ _; refine wpList_mid rfl 33 (.tmp 3) rfl w.heap.size 0 rfl HCs _ HRH.out Tryz.underlying33 rfl HSH.out ?_; try simp only [Act.put, List.setIfInBounds_toArray, List.set_cons_zero, List.set_cons_succ])
      | fail)
    refine (R1.out _).mono ?_
    rintro e w1 ⟨rfl, hb⟩
    have HB1 := hidk (HB.out.trans (hb.mono HB.out.size))
    clear hb
    go_wp2
    go_ret
    exact ⟨rfl, HB1.out⟩
set_option maxHeartbeats 2000000 in
theorem hNum_any (t n : Int) (w : World) : Calls Tryz.prog 84 #[.int .i64 t, .int .i64 n] w fun e w' => e = .returned (.agg #[.int .i64 t, .string (nOf n)]) ∧ Below w.heap.size w w' := by
  obtain ⟨x, Hx⟩ : ∃ x : ByteArray, Hid (x = nOf n) := ⟨nOf n, hidk rfl⟩
  obtain ⟨E, HE⟩ : ∃ E, Hid (E = neOf n) := ⟨_, hidk rfl⟩
  have N1 : Hid (∀ W, Calls Tryz.prog 55 #[.int .i64 n] W fun e w' => e = .returned (.tuple #[.string x, .int .i64 E]) ∧ Below W.heap.size W w') := fun W => by rw [Hx.out, HE.out]; exact number_any n W
  rw [← Hx.out]
  clear Hx HE
  go_enter Tryz.func84, Tryz.ntmps84
  go_wp2_with fail
  refine (N1.out _).mono ?_
  rintro e w1 ⟨rfl, hb1⟩
  have hlt : w.heap.size < w1.heap.size := by have := hb1.size; simp at this; omega
  have hg : w1.heap[w.heap.size]? = some (.cells #[.int .i64 0, .string ⟨#[]⟩] 74 (0, 0)) := (hb1.block _ (by simp)).trans (heap_alloc_new w _)
  have c0 : w1.cell? ⟨w.heap.size, 0, none⟩ = some (.int .i64 0) := by rw [cell_of_row w1 _ 0 _ 74 (0, 0) hg]; rfl
  have c1 : w1.cell? ⟨w.heap.size, 1, none⟩ = some (.string ⟨#[]⟩) := by rw [cell_of_row w1 _ 1 _ 74 (0, 0) hg]; rfl
  have HB : Hid (Below w.heap.size w w1) := ((Below.refl _ _).alloc (Nat.le_refl _) _).trans (hb1.mono (by simp))
  have f0 : w1.frozen? ⟨w.heap.size, 0, none⟩ = false := frozen_of_row w1 _ 0 _ _ hg
  have f1 : w1.frozen? ⟨w.heap.size, 1, none⟩ = false := frozen_of_row w1 _ 1 _ _ hg
  clear hb1
  have HG2 := hidk (Go.heap_setCell_same _ _ 1 _ _ (.string x) (Go.heap_setCell_same w1 _ 0 _ _ (.int .i64 t) hg))
  clear hg
  go_wp2
  refine bodyPost_ret (v := .agg #[.int .i64 t, .string x]) ?_ rfl ⟨rfl, (HB.out.setCell (Nat.le_refl _) _).setCell (Nat.le_refl _) _⟩
  exact results_cell_row (p := 4) (ty := 74) rfl _ _ w.heap.size 74 #[.int .i64 t, .string x] (0, 0) _ rfl HG2.out Tryz.underlying74 rfl (by kernel_rfl)
set_option maxHeartbeats 2000000 in
theorem hDig_any (t : Int) (d : List UInt8) (hd : d.length = 32) (w : World) (D : Array Value) (HD : Hid (D = (cellsOf d).toArray)) : Calls Tryz.prog 85 #[.int .i64 t, .agg D] w fun e w' => e = .returned (.agg #[.int .i64 t, .string (bA d)]) ∧ Below w.heap.size w w' := by
  obtain ⟨x, Hx⟩ : ∃ x : ByteArray, Hid (x = bA d) := ⟨bA d, hidk rfl⟩
  have HCV : Hid (∀ (W : World) (g : Nat), W.heap[g]? = some (.cells D 25 (0, 0)) → Sem.run Tryz.prog (convert 22 9 (.slice (some ⟨g, 0, none⟩) 32 32)) W = .ok (.string x) W) := fun W g h => by
    rw [Hx.out]
    refine conv_at W g 0 d hd fun j v hj => ?_
    rw [Nat.zero_add, cell_of_row W g j _ _ (0, 0) h, HD.out]
    simpa using hj
  have HSL := hidk slice_at
  rw [← Hx.out]
  clear Hx HD
  have hn0 : (w.alloc (.cells D 25)).heap[w.heap.size]? = some (.cells D 25 (0, 0)) := heap_alloc_new w _
  have hcv := HCV.out ((w.alloc (.cells D 25)).alloc (.cells #[.int .i64 0, .string ⟨#[]⟩] 74)) w.heap.size (heap_keep hn0)
  have hsl := HSL.out ((w.alloc (.cells D 25)).alloc (.cells #[.int .i64 0, .string ⟨#[]⟩] 74)) w.heap.size 0
  have hg := heap_alloc_new (w.alloc (.cells D 25)) (.cells #[.int .i64 0, .string ⟨#[]⟩] 74)
  rw [alloc_size] at hg
  have hg2 := heap_alloc_new (w.alloc (.cells D 25)) (.cells #[.int .i64 t, .string x] 74)
  rw [alloc_size] at hg2
  have HG2 := hidk hg2
  have HB : Hid (Below w.heap.size w ((w.alloc (.cells D 25)).alloc (.cells #[.int .i64 t, .string x] 74))) := ((Below.refl _ _).alloc (Nat.le_refl _) _).alloc (by simp) _
  clear HCV HSL hn0 hg hg2
  go_enter Tryz.func85, Tryz.ntmps85
  go_wp2
  refine bodyPost_ret (v := .agg #[.int .i64 t, .string x]) ?_ rfl ⟨rfl, HB.out⟩
  exact results_cell_row (p := 4) (ty := 74) rfl _ _ (w.heap.size + 1) 74 #[.int .i64 t, .string x] (0, 0) _ rfl HG2.out Tryz.underlying74 rfl (by kernel_rfl)
end Go.Proofs.YtgkfodmccfnaoaaGreatDoor

/- What head.Put answers; a right head's bytes as a text, and what is signed of it. -/
namespace Go.Proofs.YtgkfodmccfnaoaaGreatDoor
open Go.RowKit Sums Nums
set_option linter.unusedVariables false
set_option linter.unusedSimpArgs false
set_option maxRecDepth 100000
theorem reads_no (w : World) : Reads w none 0 0 [] := ⟨rfl, Nat.le_refl _, by decide, .inl ⟨rfl, rfl⟩⟩
theorem bytes_no (w : World) (E : Int) : BytesE [] E (.returned (.tuple #[.slice none 0 0, .int .i64 E])) w := ⟨none, 0, rfl, reads_no w⟩
theorem rowOf_ok {fs : List (Int × ByteArray)} (h : layE 0 fs = 0) : rowOf fs = rowB fs := by unfold rowOf; rw [if_pos h]
set_option maxHeartbeats 2000000 in
theorem hPut_no (h : HdT) (hd : h.d.length = 32) (hr : rightH h = false) (w : World) (C : Array Value) (HC : Hid (C = (hcells h).toArray)) :
    Calls Tryz.prog 99 #[.agg C] w fun e w' => BytesE [] 70 e w' ∧ Below w.heap.size w w' := by
  have HSC : Hid ((Tryz.prog.info? 33).map (·.size) = some C.size) := by show _ = _; rw [sizeH, HC.out]; simp [hcells_length h hd]
  have HR : Hid ((w.alloc (.cells C 33)).heap[w.heap.size]? = some (.cells C 33 (0, 0))) := heap_alloc_new w _
  have HB : Hid (Below w.heap.size w (w.alloc (.cells C 33))) := (Below.refl _ _).alloc (Nat.le_refl _) _
  have K1 : Hid (∀ W, Calls Tryz.prog 91 #[.agg C] W fun e w' => e = .returned (.int .i64 70) ∧ Below W.heap.size W w') := fun W => by
    have := hCheck_any h hd W C HC
    rwa [show putE h = 70 by unfold putE; rw [hr]; rfl] at this
  clear HC hr
  go_enter Tryz.func99, Tryz.ntmps99
  go_wp2_with (first
    | (show wpList _ _ _ ({ dst := some 5, op := _, type := _, pos := _, after := _, guard := _ } :: _) _ _; refine wpList_load_row rfl 33 (.tmp 1) rfl w.heap.size rfl 33 C (0, 0) _ HR.out Tryz.underlying33 rfl HSC.out ?_; try simp only [Act.put, List.setIfInBounds_toArray, List.set_cons_zero, List.set_cons_succ])
    | fail)
  refine (K1.out _).mono ?_
  rintro e w1 ⟨rfl, hb1⟩
  have HB1 := hidk (HB.out.trans (hb1.mono HB.out.size))
  clear hb1
  go_wp2
  go_ret2
  exact ⟨bytes_no _ _, HB1.out⟩
set_option maxHeartbeats 8000000 in
theorem hPut_yes (h : HdT) (hd : h.d.length = 32) (hr : rightH h = true) (w : World) (C : Array Value) (HC : Hid (C = (hcells h).toArray)) :
    Calls Tryz.prog 99 #[.agg C] w fun e w' => BytesE (headB h) 0 e w' ∧ Below w.heap.size w w' := by
  have HSC : Hid ((Tryz.prog.info? 33).map (·.size) = some C.size) := by show _ = _; rw [sizeH, HC.out]; simp [hcells_length h hd]
  have HRW : Hid ((w.alloc (.cells C 33)).heap[w.heap.size]? = some (.cells C 33 (0, 0))) := heap_alloc_new w _
  have K1 : Hid (∀ W, Calls Tryz.prog 91 #[.agg C] W fun e w' => e = .returned (.int .i64 0) ∧ Below W.heap.size W w') := fun W => by
    have := hCheck_any h hd W C HC
    rwa [show putE h = 0 by unfold putE; rw [hr]; rfl] at this
  obtain ⟨r, Hr⟩ : ∃ r, Hid (r = h.r) := ⟨h.r, hidk rfl⟩
  obtain ⟨e, He⟩ : ∃ r, Hid (r = h.e) := ⟨h.e, hidk rfl⟩
  obtain ⟨s, Hs⟩ : ∃ r, Hid (r = h.s) := ⟨h.s, hidk rfl⟩
  obtain ⟨t, Ht⟩ : ∃ r, Hid (r = h.t) := ⟨h.t, hidk rfl⟩
  obtain ⟨n1, Hn1⟩ : ∃ s : ByteArray, Hid (s = nOf r) := ⟨nOf r, hidk rfl⟩
  obtain ⟨n2, Hn2⟩ : ∃ s : ByteArray, Hid (s = nOf e) := ⟨nOf e, hidk rfl⟩
  obtain ⟨n3, Hn3⟩ : ∃ x : ByteArray, Hid (x = nOf s) := ⟨nOf s, hidk rfl⟩
  obtain ⟨n5, Hn5⟩ : ∃ s : ByteArray, Hid (s = nOf t) := ⟨nOf t, hidk rfl⟩
  obtain ⟨x4, HX⟩ : ∃ x : ByteArray, Hid (x = bA h.d) := ⟨bA h.d, hidk rfl⟩
  obtain ⟨l, Hl⟩ : ∃ l, Hid (l = headB h) := ⟨headB h, hidk rfl⟩
  obtain ⟨D, HD, HSD, H1D, H32D⟩ := dig_row' h.d hd
  have N1 : Hid (∀ W, Calls Tryz.prog 84 #[.int .i64 1, .int .i64 r] W fun e w' => e = .returned (.agg #[.int .i64 1, .string n1]) ∧ Below W.heap.size W w') := fun W => by rw [Hn1.out]; exact hNum_any 1 r W
  have N2 : Hid (∀ W, Calls Tryz.prog 84 #[.int .i64 2, .int .i64 e] W fun e w' => e = .returned (.agg #[.int .i64 2, .string n2]) ∧ Below W.heap.size W w') := fun W => by rw [Hn2.out]; exact hNum_any 2 e W
  have N3 : Hid (∀ W, Calls Tryz.prog 84 #[.int .i64 3, .int .i64 s] W fun e w' => e = .returned (.agg #[.int .i64 3, .string n3]) ∧ Below W.heap.size W w') := fun W => by rw [Hn3.out]; exact hNum_any 3 s W
  have N5 : Hid (∀ W, Calls Tryz.prog 84 #[.int .i64 5, .int .i64 t] W fun e w' => e = .returned (.agg #[.int .i64 5, .string n5]) ∧ Below W.heap.size W w') := fun W => by rw [Hn5.out]; exact hNum_any 5 t W
  have X4 : Hid (∀ W, Calls Tryz.prog 85 #[.int .i64 4, .agg D] W fun e w' => e = .returned (.agg #[.int .i64 4, .string x4]) ∧ Below W.heap.size W w') := fun W => by rw [HX.out]; exact hDig_any 4 h.d hd W D HD
  have hL5 : fieldsN (hL h) = [(1, n1), (2, n2), (3, n3), (4, x4), (5, n5)] := by rw [Hn1.out, Hn2.out, Hn3.out, Hn5.out, HX.out, Hr.out, He.out, Hs.out, Ht.out]; rfl
  have LY : Hid (∀ W, Calls Tryz.prog 33 #[.slice (some ⟨W.heap.size, 0, none⟩) 5 5] (W.alloc (.cells #[.int .i64 1, .string n1, .int .i64 2, .string n2, .int .i64 3, .string n3, .int .i64 4, .string x4, .int .i64 5, .string n5] 74)) fun e w' => ∃ a c, e = .returned (.tuple #[.slice a l.length c, .int .i64 0]) ∧ Reads w' a l.length c l ∧ Below W.heap.size W w') := fun W => by
    have hk := layE_hL h hd
    have hrw := rowOf_ok hk
    rw [hL5] at hk hrw
    have hm : ∀ f ∈ [((1 : Int), n1), (2, n2), (3, n3), (4, x4), (5, n5)], f.2.size ≤ maxLen := fun y hy => by
      simp only [List.mem_cons, List.not_mem_nil, or_false] at hy
      unfold maxLen
      rcases hy with rfl | rfl | rfl | rfl | rfl
      · have := nOf_size r; rw [← Hn1.out] at this; show n1.size ≤ _; omega
      · have := nOf_size e; rw [← Hn2.out] at this; show n2.size ≤ _; omega
      · have := nOf_size s; rw [← Hn3.out] at this; show n3.size ≤ _; omega
      · have := bA_size h.d; rw [← HX.out] at this; show x4.size ≤ _; omega
      · have := nOf_size t; rw [← Hn5.out] at this; show n5.size ≤ _; omega
    have hF := freads_lit W #[.int .i64 1, .string n1, .int .i64 2, .string n2, .int .i64 3, .string n3, .int .i64 4, .string x4, .int .i64 5, .string n5] (0, 0) [((1 : Int), n1), (2, n2), (3, n3), (4, x4), (5, n5)] rfl (by show 5 ≤ 1048576; decide) hm
    rw [← alloc_size W (.cells #[.int .i64 1, .string n1, .int .i64 2, .string n2, .int .i64 3, .string n3, .int .i64 4, .string x4, .int .i64 5, .string n5] 74)] at hF
    refine (lay_reads (some ⟨W.heap.size, 0, none⟩) 5 5 [((1 : Int), n1), (2, n2), (3, n3), (4, x4), (5, n5)] _ hF (by decide) (k := 0) (l := l) hk (by rw [hrw, Hl.out, ← hL5]; rfl)).mono ?_
    rintro e w' ⟨a, c, he, hrd, hb⟩
    exact ⟨a, c, he, hrd, ((Below.refl _ _).alloc (Nat.le_refl _) _).trans (hb.mono (by simp))⟩
  have HR := hidk (hrow_new w h hd C HC 33)
  have HB : Hid (Below w.heap.size w (w.alloc (.cells C 33))) := (Below.refl _ _).alloc (Nat.le_refl _) _
  have HDL : Hid (D.toList = cellsOf h.d) := by show _ = _; rw [HD.out]
  rw [← Hl.out]
  clear HC HX hL5 HD Hn1 Hn2 Hn3 Hn5 Hl hr
  go_enter Tryz.func99, Tryz.ntmps99
  go_wp2_with (first
    | (show wpList _ _ _ ({ dst := some 5, op := _, type := _, pos := _, after := _, guard := _ } :: _) _ _; refine wpList_load_row rfl 33 (.tmp 1) rfl w.heap.size rfl 33 C (0, 0) _ HRW.out Tryz.underlying33 rfl HSC.out ?_; try simp only [Act.put, List.setIfInBounds_toArray, List.set_cons_zero, List.set_cons_succ])
    | fail)
  refine (K1.out _).mono ?_
  rintro e w0 ⟨rfl, hb0⟩
  have HB0 := hidk (HB.out.trans (hb0.mono HB.out.size))
  have HR0 := hidk (HR.out.keep hb0)
  clear hb0 HB HR HRW K1
  go_wp2
  refine wp_region_held_drew (S := (fun W => HRow W w.heap.size 0 h)) (by kernel_rfl) (show HRow w0.drew w.heap.size 0 h from HR0.out.keep (Below.refl _ _).drew) (fun hHeld => ?_)
  refine wpAnyH_take (i := 0) (oi := { dst := some 10, op := Op.fieldAddr 33 (Operand.tmp 1) 0, type := 0, pos := "head.go:46", after := #[], guard := none }) (v := .pointer (some ⟨w.heap.size, 0, none⟩)) rfl (by kernel_rfl) (by kernel_rfl) (by kernel_rfl) (fun _ _ _ h => h) (Or.inl ⟨by rfl, by intro W hSw; go_simp⟩) hHeld ?_
  try simp only [Act.put, List.setIfInBounds_toArray, List.set_cons_zero, List.set_cons_succ]
  refine wpAnyH_take (i := 1) (oi := { dst := some 11, op := Op.load 3 (Operand.tmp 10), type := 3, pos := "head.go:46", after := #[{ on := 0, ground := Ground.data }], guard := none }) (v := .int .i64 r) rfl (by kernel_rfl) (by kernel_rfl) (by kernel_rfl) (fun _ _ _ h => h) (Or.inl ⟨by rfl, by intro W hSw; have h1 := hSw.r; rw [← Hr.out] at h1; go_simp⟩) hHeld ?_
  try simp only [Act.put, List.setIfInBounds_toArray, List.set_cons_zero, List.set_cons_succ]
  refine wpAnyH_take (i := 3) (oi := { dst := some 13, op := Op.fieldAddr 33 (Operand.tmp 1) 1, type := 0, pos := "head.go:46", after := #[], guard := none }) (v := .pointer (some ⟨w.heap.size, 1, none⟩)) rfl (by kernel_rfl) (by kernel_rfl) (by kernel_rfl) (fun _ _ _ h => h) (Or.inl ⟨by rfl, by intro W hSw; go_simp⟩) hHeld ?_
  try simp only [Act.put, List.setIfInBounds_toArray, List.set_cons_zero, List.set_cons_succ]
  refine wpAnyH_take (i := 4) (oi := { dst := some 14, op := Op.load 3 (Operand.tmp 13), type := 3, pos := "head.go:46", after := #[{ on := 3, ground := Ground.data }], guard := none }) (v := .int .i64 e) rfl (by kernel_rfl) (by kernel_rfl) (by kernel_rfl) (fun _ _ _ h => h) (Or.inl ⟨by rfl, by intro W hSw; have h1 := hSw.e; rw [← He.out, Nat.zero_add] at h1; go_simp⟩) hHeld ?_
  try simp only [Act.put, List.setIfInBounds_toArray, List.set_cons_zero, List.set_cons_succ]
  refine wpAnyH_take (i := 6) (oi := { dst := some 16, op := Op.fieldAddr 33 (Operand.tmp 1) 2, type := 0, pos := "head.go:46", after := #[], guard := none }) (v := .pointer (some ⟨w.heap.size, 2, none⟩)) rfl (by kernel_rfl) (by kernel_rfl) (by kernel_rfl) (fun _ _ _ h => h) (Or.inl ⟨by rfl, by intro W hSw; go_simp⟩) hHeld ?_
  try simp only [Act.put, List.setIfInBounds_toArray, List.set_cons_zero, List.set_cons_succ]
  refine wpAnyH_take (i := 7) (oi := { dst := some 17, op := Op.load 3 (Operand.tmp 16), type := 3, pos := "head.go:46", after := #[{ on := 6, ground := Ground.data }], guard := none }) (v := .int .i64 s) rfl (by kernel_rfl) (by kernel_rfl) (by kernel_rfl) (fun _ _ _ h => h) (Or.inl ⟨by rfl, by intro W hSw; have h1 := hSw.s; rw [← Hs.out, Nat.zero_add] at h1; go_simp⟩) hHeld ?_
  try simp only [Act.put, List.setIfInBounds_toArray, List.set_cons_zero, List.set_cons_succ]
  refine wpAnyH_take (i := 9) (oi := { dst := some 19, op := Op.fieldAddr 33 (Operand.tmp 1) 3, type := 0, pos := "head.go:46", after := #[], guard := none }) (v := .pointer (some ⟨w.heap.size, 3, none⟩)) rfl (by kernel_rfl) (by kernel_rfl) (by kernel_rfl) (fun _ _ _ h => h) (Or.inl ⟨by rfl, by intro W hSw; go_simp⟩) hHeld ?_
  try simp only [Act.put, List.setIfInBounds_toArray, List.set_cons_zero, List.set_cons_succ]
  refine wpAnyH_take (i := 10) (oi := { dst := some 20, op := Op.load 25 (Operand.tmp 19), type := 25, pos := "head.go:46", after := #[{ on := 9, ground := Ground.data }], guard := none }) (v := .agg D) rfl (by kernel_rfl) (by kernel_rfl) (by kernel_rfl) (fun _ _ _ h => h) (yieldsIf_mid (by rfl) 25 (.tmp 19) rfl w.heap.size 3 rfl D _ (fun _ h => by rw [HDL.out]; have := h.d; rwa [Nat.zero_add] at this) Tryz.underlying25 rfl HSD.out) hHeld ?_
  try simp only [Act.put, List.setIfInBounds_toArray, List.set_cons_zero, List.set_cons_succ]
  refine wpAnyH_take (i := 12) (oi := { dst := some 22, op := Op.fieldAddr 33 (Operand.tmp 1) 4, type := 0, pos := "head.go:46", after := #[], guard := none }) (v := .pointer (some ⟨w.heap.size, 35, none⟩)) rfl (by kernel_rfl) (by kernel_rfl) (by kernel_rfl) (fun _ _ _ h => h) (Or.inl ⟨by rfl, by intro W hSw; go_simp⟩) hHeld ?_
  try simp only [Act.put, List.setIfInBounds_toArray, List.set_cons_zero, List.set_cons_succ]
  refine wpAnyH_take (i := 13) (oi := { dst := some 23, op := Op.load 3 (Operand.tmp 22), type := 3, pos := "head.go:46", after := #[{ on := 12, ground := Ground.data }], guard := none }) (v := .int .i64 t) rfl (by kernel_rfl) (by kernel_rfl) (by kernel_rfl) (fun _ _ _ h => h) (Or.inl ⟨by rfl, by intro W hSw; have h1 := hSw.t; rw [← Ht.out, Nat.zero_add] at h1; go_simp⟩) hHeld ?_
  try simp only [Act.put, List.setIfInBounds_toArray, List.set_cons_zero, List.set_cons_succ]
  refine wpAnyH_ready (rs := [2]) (by kernel_rfl) (by simp) ?_
  refine (AllReadyH.cons (o := { dst := some 12, op := Op.call { callee := Callee.value (Operand.func 84), args := #[Operand.const (Value.int IntKind.i64 1), Operand.tmp 11], argTypes := #[3, 3] }, type := 74, pos := "head.go:47", after := #[{ on := 1, ground := Ground.data }], guard := none }) rfl (fun K hK => ?_) AllReadyH.nil)
  go_simp
  refine (N1.out _).mono ?_
  rintro e w2 ⟨rfl, hb1⟩
  have HB1 := hidk (HB0.out.drew.trans (hb1.mono HB0.out.size))
  go_wp2_with fail
  refine hK.out _ _ (hHeld.keep hb1) (fun hHeld => ?_)
  clear hK K
  try simp only [Act.put, List.setIfInBounds_toArray, List.set_cons_zero, List.set_cons_succ]
  refine wpAnyH_ready (rs := [5]) (by kernel_rfl) (by simp) ?_
  refine (AllReadyH.cons (o := { dst := some 15, op := Op.call { callee := Callee.value (Operand.func 84), args := #[Operand.const (Value.int IntKind.i64 2), Operand.tmp 14], argTypes := #[3, 3] }, type := 74, pos := "head.go:48", after := #[{ on := 4, ground := Ground.data }, { on := 2, ground := Ground.chain }], guard := none }) rfl (fun K hK => ?_) AllReadyH.nil)
  go_simp
  refine (N2.out _).mono ?_
  rintro e w5 ⟨rfl, hb2⟩
  have HB2 := hidk (HB1.out.trans (hb2.mono HB1.out.size))
  go_wp2_with fail
  refine hK.out _ _ (hHeld.keep hb2) (fun hHeld => ?_)
  clear hK K
  try simp only [Act.put, List.setIfInBounds_toArray, List.set_cons_zero, List.set_cons_succ]
  refine wpAnyH_ready (rs := [8]) (by kernel_rfl) (by simp) ?_
  refine (AllReadyH.cons (o := { dst := some 18, op := Op.call { callee := Callee.value (Operand.func 84), args := #[Operand.const (Value.int IntKind.i64 3), Operand.tmp 17], argTypes := #[3, 3] }, type := 74, pos := "head.go:49", after := #[{ on := 7, ground := Ground.data }, { on := 5, ground := Ground.chain }], guard := none }) rfl (fun K hK => ?_) AllReadyH.nil)
  go_simp
  refine (N3.out _).mono ?_
  rintro e w8 ⟨rfl, hb3⟩
  have HB3 := hidk (HB2.out.trans (hb3.mono HB2.out.size))
  go_wp2_with fail
  refine hK.out _ _ (hHeld.keep hb3) (fun hHeld => ?_)
  clear hK K
  try simp only [Act.put, List.setIfInBounds_toArray, List.set_cons_zero, List.set_cons_succ]
  refine wpAnyH_ready (rs := [11]) (by kernel_rfl) (by simp) ?_
  refine (AllReadyH.cons (o := { dst := some 21, op := Op.call { callee := Callee.value (Operand.func 85), args := #[Operand.const (Value.int IntKind.i64 4), Operand.tmp 20], argTypes := #[3, 25] }, type := 74, pos := "head.go:50", after := #[{ on := 10, ground := Ground.data }, { on := 8, ground := Ground.chain }], guard := none }) rfl (fun K hK => ?_) AllReadyH.nil)
  go_simp
  refine (X4.out _).mono ?_
  rintro e w11 ⟨rfl, hb4⟩
  have HB4 := hidk (HB3.out.trans (hb4.mono HB3.out.size))
  go_wp2_with fail
  refine hK.out _ _ (hHeld.keep hb4) (fun hHeld => ?_)
  clear hK K
  try simp only [Act.put, List.setIfInBounds_toArray, List.set_cons_zero, List.set_cons_succ]
  refine wpAnyH_ready (rs := [14]) (by kernel_rfl) (by simp) ?_
  refine (AllReadyH.cons (o := { dst := some 24, op := Op.call { callee := Callee.value (Operand.func 84), args := #[Operand.const (Value.int IntKind.i64 5), Operand.tmp 23], argTypes := #[3, 3] }, type := 74, pos := "head.go:51", after := #[{ on := 13, ground := Ground.data }, { on := 11, ground := Ground.chain }], guard := none }) rfl (fun K hK => ?_) AllReadyH.nil)
  go_simp
  refine (N5.out _).mono ?_
  rintro e w14 ⟨rfl, hb5⟩
  have HB5 := hidk (HB4.out.trans (hb5.mono HB4.out.size))
  go_wp2_with fail
  refine hK.out _ _ (hHeld.keep hb5) (fun hHeld => ?_)
  clear hK K
  try simp only [Act.put, List.setIfInBounds_toArray, List.set_cons_zero, List.set_cons_succ]
  refine wpAnyH_ready (rs := [15]) (by kernel_rfl) (by simp) ?_
  refine (AllReadyH.cons (o := { dst := some 25, op := Op.buildSlice 62 5 #[(0, Operand.tmp 12), (1, Operand.tmp 15), (2, Operand.tmp 18), (3, Operand.tmp 21), (4, Operand.tmp 24)], type := 62, pos := "head.go:46", after := #[{ on := 2, ground := Ground.data }, { on := 5, ground := Ground.data }, { on := 8, ground := Ground.data }, { on := 11, ground := Ground.data }, { on := 14, ground := Ground.data }], guard := none }) rfl (fun K hK => ?_) AllReadyH.nil)
  have HR14 := hidk hHeld
  go_simp
  refine hK.out _ _ (hHeld.keep ((Below.refl _ _).alloc (Nat.le_refl _) _)) (fun hHeld => ?_)
  clear hK K
  try simp only [Act.put, List.setIfInBounds_toArray, List.set_cons_zero, List.set_cons_succ]
  refine wpAnyH_ready (rs := [16]) (by kernel_rfl) (by simp) ?_
  refine (AllReadyH.cons (o := { dst := some 26, op := Op.call { callee := Callee.value (Operand.func 33), args := #[Operand.tmp 25], argTypes := #[62] }, type := 45, pos := "head.go:46", after := #[{ on := 15, ground := Ground.data }, { on := 14, ground := Ground.chain }], guard := none }) rfl (fun K hK => ?_) AllReadyH.nil)
  go_simp
  refine (LY.out _).mono ?_
  rintro e w16 ⟨a16, c16, rfl, hrd, hb6⟩
  have HRD := hidk hrd
  have HBF := hidk (HB5.out.trans (hb6.mono HB5.out.size))
  go_wp2_with fail
  refine hK.out _ _ (HR14.out.keep hb6) (fun hHeld => ?_)
  clear hK K
  try simp only [Act.put, List.setIfInBounds_toArray, List.set_cons_zero, List.set_cons_succ]
  refine wpAnyH_take (i := 17) (oi := { dst := some 27, op := Op.extract (Operand.tmp 26) 0, type := 22, pos := "head.go:46", after := #[{ on := 16, ground := Ground.data }], guard := none }) (v := .slice a16 l.length c16) rfl (by kernel_rfl) (by kernel_rfl) (by kernel_rfl) (fun _ _ _ h => h) (Or.inl ⟨by rfl, by intro W hSw; go_simp⟩) hHeld ?_
  try simp only [Act.put, List.setIfInBounds_toArray, List.set_cons_zero, List.set_cons_succ]
  refine wpAnyH_take (i := 18) (oi := { dst := some 28, op := Op.extract (Operand.tmp 26) 1, type := 28, pos := "head.go:46", after := #[{ on := 16, ground := Ground.data }], guard := none }) (v := .int .i64 0) rfl (by kernel_rfl) (by kernel_rfl) (by kernel_rfl) (fun _ _ _ h => h) (Or.inl ⟨by rfl, by intro W hSw; go_simp⟩) hHeld ?_
  try simp only [Act.put, List.setIfInBounds_toArray, List.set_cons_zero, List.set_cons_succ]
  refine wpAnyH_take (i := 19) (oi := { dst := some 2, op := Op.assign (Operand.tmp 27), type := 22, pos := "head.go:46", after := #[{ on := 17, ground := Ground.data }, { on := 16, ground := Ground.chain }, { on := 0, ground := Ground.phase }, { on := 1, ground := Ground.phase }, { on := 2, ground := Ground.phase }, { on := 3, ground := Ground.phase }, { on := 4, ground := Ground.phase }, { on := 5, ground := Ground.phase }, { on := 6, ground := Ground.phase }, { on := 7, ground := Ground.phase }, { on := 8, ground := Ground.phase }, { on := 9, ground := Ground.phase }, { on := 10, ground := Ground.phase }, { on := 11, ground := Ground.phase }, { on := 12, ground := Ground.phase }, { on := 13, ground := Ground.phase }, { on := 14, ground := Ground.phase }, { on := 15, ground := Ground.phase }, { on := 16, ground := Ground.phase }, { on := 17, ground := Ground.phase }, { on := 18, ground := Ground.phase }], guard := none }) (v := .slice a16 l.length c16) rfl (by kernel_rfl) (by kernel_rfl) (by kernel_rfl) (fun _ _ _ h => h) (Or.inl ⟨by rfl, by intro W hSw; go_simp⟩) hHeld ?_
  try simp only [Act.put, List.setIfInBounds_toArray, List.set_cons_zero, List.set_cons_succ]
  refine wpAnyH_take (i := 20) (oi := { dst := some 3, op := Op.assign (Operand.tmp 28), type := 28, pos := "head.go:46", after := #[{ on := 18, ground := Ground.data }, { on := 19, ground := Ground.chain }, { on := 0, ground := Ground.phase }, { on := 1, ground := Ground.phase }, { on := 2, ground := Ground.phase }, { on := 3, ground := Ground.phase }, { on := 4, ground := Ground.phase }, { on := 5, ground := Ground.phase }, { on := 6, ground := Ground.phase }, { on := 7, ground := Ground.phase }, { on := 8, ground := Ground.phase }, { on := 9, ground := Ground.phase }, { on := 10, ground := Ground.phase }, { on := 11, ground := Ground.phase }, { on := 12, ground := Ground.phase }, { on := 13, ground := Ground.phase }, { on := 14, ground := Ground.phase }, { on := 15, ground := Ground.phase }, { on := 16, ground := Ground.phase }, { on := 17, ground := Ground.phase }, { on := 18, ground := Ground.phase }, { on := 19, ground := Ground.phase }], guard := none }) (v := .int .i64 0) rfl (by kernel_rfl) (by kernel_rfl) (by kernel_rfl) (fun _ _ _ h => h) (Or.inl ⟨by rfl, by intro W hSw; go_simp⟩) hHeld ?_
  try simp only [Act.put, List.setIfInBounds_toArray, List.set_cons_zero, List.set_cons_succ]
  refine wpAnyH_done (by kernel_rfl) ?_ _
  go_wp2
  go_ret2
  exact ⟨⟨_, _, rfl, HRD.out⟩, HBF.out⟩
theorem hPut_any (h : HdT) (hd : h.d.length = 32) (w : World) (C : Array Value) (HC : Hid (C = (hcells h).toArray)) :
    Calls Tryz.prog 99 #[.agg C] w fun e w' => BytesE (putB h) (putE h) e w' ∧ Below w.heap.size w w' := by
  unfold putB putE
  cases hr : rightH h
  · exact hPut_no h hd hr w C HC
  · exact hPut_yes h hd hr w C HC
set_option maxHeartbeats 2000000 in
theorem hLaid_any (h : HdT) (hd : h.d.length = 32) (w : World) (C : Array Value) (HC : Hid (C = (hcells h).toArray)) :
    Calls Tryz.prog 83 #[.agg C] w fun e w' => e = .returned (.string (bA (putB h))) ∧ Below w.heap.size w w' := by
  have HSC : Hid ((Tryz.prog.info? 33).map (·.size) = some C.size) := by show _ = _; rw [sizeH, HC.out]; simp [hcells_length h hd]
  have HR : Hid ((w.alloc (.cells C 33)).heap[w.heap.size]? = some (.cells C 33 (0, 0))) := heap_alloc_new w _
  have HB : Hid (Below w.heap.size w (w.alloc (.cells C 33))) := (Below.refl _ _).alloc (Nat.le_refl _) _
  have P1 : Hid (∀ W, Calls Tryz.prog 99 #[.agg C] W fun e w' => BytesE (putB h) (putE h) e w' ∧ Below W.heap.size W w') := fun W => hPut_any h hd W C HC
  obtain ⟨l, hl⟩ : ∃ l, l = putB h := ⟨_, rfl⟩
  obtain ⟨E, hE⟩ : ∃ l, l = putE h := ⟨_, rfl⟩
  obtain ⟨x, Hx⟩ : ∃ x : ByteArray, Hid (x = bA l) := ⟨bA l, hidk rfl⟩
  rw [← hl, ← hE] at P1
  rw [← hl, ← Hx.out]
  clear HC hl hE
  go_enter Tryz.func83, Tryz.ntmps83
  go_wp2_with (first
    | (show wpList _ _ _ ({ dst := some 6, op := _, type := _, pos := _, after := _, guard := _ } :: _) _ _; refine wpList_load_row rfl 33 (.tmp 1) rfl w.heap.size rfl 33 C (0, 0) _ HR.out Tryz.underlying33 rfl HSC.out ?_; try simp only [Act.put, List.setIfInBounds_toArray, List.set_cons_zero, List.set_cons_succ])
    | fail)
  refine (P1.out _).mono ?_
  rintro e w1 ⟨⟨a1, c1, rfl, hr1⟩, hb1⟩
  have HB1 := hidk (HB.out.trans (hb1.mono HB.out.size))
  have hcv := conv_reads hr1
  rw [show (⟨l.toArray⟩ : ByteArray) = x from Hx.out.symm] at hcv
  clear hb1 hr1
  go_wp2
  go_ret
  exact ⟨rfl, HB1.out⟩
end Go.Proofs.YtgkfodmccfnaoaaGreatDoor

/- What a reader's own calls answer: what is left of a row, field by field. -/
namespace Go.Proofs.YtgkfodmccfnaoaaGreatDoor
open Go.RowKit Sums Nums
set_option linter.unusedVariables false
set_option linter.unusedSimpArgs false
set_option maxRecDepth 100000
theorem grownBy_set0 (W : World) (b : Nat) (v : Value) : W.grownBy (W.setCell ⟨b, 0, none⟩ v) (some b) :=
  ⟨rfl, rfl, rfl, by simp [World.setCell], fun k _ hk => Below.heap_setCell W ⟨b, 0, none⟩ v k (fun e => hk (by rw [e]))⟩
/-- The fields that are left of a row, by a reader's variable g; they lie in a block from lo on, below g. -/
def Rd (W : World) (lo g : Nat) (fs : List (Int × ByteArray)) : Prop :=
  ∃ a cap, W.heap[g]? = some (.cells #[.slice a fs.length cap] 104 (0, 0)) ∧ lo ≤ g ∧ fs.length ≤ cap ∧ cap ≤ 9223372036854775807 ∧ (∀ f ∈ fs, f.2.size ≤ maxLen) ∧
    (fs = [] ∨ ∃ b off, a = some ⟨b, off, none⟩ ∧ lo ≤ b ∧ b < g ∧ ∀ (i : Nat) (h : i < fs.length), W.cell? ⟨b, off + i * 2, none⟩ = some (.int .i64 fs[i].1) ∧ W.cell? ⟨b, off + i * 2 + 1, none⟩ = some (.string fs[i].2))
theorem Rd.keep {W W' : World} {lo g : Nat} {fs : List (Int × ByteArray)} (h : Rd W lo g fs) (hb : ∀ k, lo ≤ k → k ≤ g → W'.heap[k]? = W.heap[k]?) : Rd W' lo g fs := by
  obtain ⟨a, cap, h1, h2, h3, h4, h5, h6⟩ := h
  refine ⟨a, cap, (hb g h2 (Nat.le_refl _)).trans h1, h2, h3, h4, h5, ?_⟩
  rcases h6 with h6 | ⟨b, off, e, hl, hg, hc⟩
  · exact .inl h6
  · have hk := hb b hl (by omega)
    exact .inr ⟨b, off, e, hl, hg, fun i hi => ⟨(World.cell?_of_block (a := ⟨b, off + i * 2, none⟩) hk).trans (hc i hi).1, (World.cell?_of_block (a := ⟨b, off + i * 2 + 1, none⟩) hk).trans (hc i hi).2⟩⟩
theorem Rd.lt {W : World} {lo g : Nat} {fs : List (Int × ByteArray)} (h : Rd W lo g fs) : g < W.heap.size := by
  obtain ⟨a, cap, h1, _⟩ := h
  exact heap_lt h1
theorem Rd.below {W W' : World} {lo g : Nat} {fs : List (Int × ByteArray)} (h : Rd W lo g fs) (hb : Below W.heap.size W W') : Rd W' lo g fs :=
  h.keep fun k _ hk => hb.block k (Nat.lt_of_le_of_lt hk h.lt)
theorem Rd.wrote {W W' : World} {lo g k : Nat} {D : Array Value} {t : TypeId} {fs : List (Int × ByteArray)} (h : Rd W lo g fs) (hw : Wrote k D t W W') (hk : k < lo ∨ g < k) : Rd W' lo g fs :=
  h.keep fun i hi hg => hw.other i (by omega)
def tkD (tag : Int) (fs : List (Int × ByteArray)) : ByteArray := match fs with
  | f :: _ => if f.1 = tag then f.2 else ⟨#[]⟩
  | [] => ⟨#[]⟩
def tkB (tag : Int) (fs : List (Int × ByteArray)) : Bool := match fs with
  | f :: _ => decide (f.1 = tag)
  | [] => false
def tkR (tag : Int) (fs : List (Int × ByteArray)) : List (Int × ByteArray) := match fs with
  | f :: r => if f.1 = tag then r else f :: r
  | [] => []
theorem ended_any (W : World) (lo g : Nat) (fs : List (Int × ByteArray)) (h : Rd W lo g fs) (x : Bool) (hx : x = decide (fs.length = 0)) :
    Calls Tryz.prog 68 #[.pointer (some ⟨g, 0, none⟩)] W fun e w' => e = .returned (.bool x) ∧ w' = W := by
  obtain ⟨a, cap, h1, h2, h3, h4, h5, h6⟩ := h
  have hc : W.cell? ⟨g, 0, none⟩ = some (.slice a fs.length cap) := by rw [cell_of_row W g 0 _ _ (0, 0) h1]; rfl
  have hm : fs.length ≤ 9223372036854775807 := by omega
  subst hx
  cases fs with
  | nil =>
    clear h1 h2 h3 h5 h6
    simp only [List.length_nil] at hc
    go_enter Tryz.func68, Tryz.ntmps68
    go_wp2
    go_ret
    exact ⟨rfl, rfl⟩
  | cons f r =>
    clear h1 h2 h3 h5 h6
    simp only [List.length_cons] at hc hm
    go_enter Tryz.func68, Tryz.ntmps68
    go_wp2
    go_ret
    exact ⟨by simp; omega, rfl⟩
set_option maxHeartbeats 2000000 in
theorem data_any (W : World) (lo g : Nat) (fs : List (Int × ByteArray)) (tag : Int) (h : Rd W lo g fs) :
    Calls Tryz.prog 89 #[.pointer (some ⟨g, 0, none⟩), .int .i64 tag] W fun e w' => e = .returned (.tuple #[.string (tkD tag fs), .bool (tkB tag fs)]) ∧ W.grownBy w' (some g) ∧ Rd w' lo g (tkR tag fs) := by
  obtain ⟨x, hx⟩ : ∃ x, x = decide (fs.length = 0) := ⟨_, rfl⟩
  have E1 : Hid (Calls Tryz.prog 68 #[.pointer (some ⟨g, 0, none⟩)] W fun e w' => e = .returned (.bool x) ∧ w' = W) := ended_any W lo g fs h x hx
  have HR := hidk h
  obtain ⟨a, cap, h1, h2, h3, h4, h5, h6⟩ := h
  have hc : W.cell? ⟨g, 0, none⟩ = some (.slice a fs.length cap) := by rw [cell_of_row W g 0 _ _ (0, 0) h1]; rfl
  have hm : fs.length ≤ 9223372036854775807 := by omega
  cases fs with
  | nil =>
    obtain rfl : x = true := by rw [hx]; rfl
    clear h1 h2 h3 h5 h6 hx hc hm
    go_enter Tryz.func89, Tryz.ntmps89
    go_wp2_with fail
    refine E1.out.mono ?_
    rintro e w1 ⟨rfl, rfl⟩
    go_wp2
    go_ret2
    exact ⟨rfl, World.grownBy.refl _ _, HR.out⟩
  | cons f r =>
    obtain rfl : x = false := by rw [hx]; simp
    rcases h6 with h6 | ⟨b, off, rfl, hl, hg, hcs⟩
    · cases h6
    have c0 := (hcs 0 (by simp)).1
    have c1 := (hcs 0 (by simp)).2
    simp only [Nat.zero_mul, Nat.add_zero, List.getElem_cons_zero] at c0 c1
    simp only [List.length_cons] at hc hm h3
    have hfz : W.frozen? ⟨g, 0, none⟩ = false := frozen_of_row W g 0 _ _ h1
    by_cases ht : f.1 = tag
    · have HE : Hid (tkD tag (f :: r) = f.2 ∧ tkB tag (f :: r) = true ∧ tkR tag (f :: r) = r) := ⟨if_pos ht, by show decide _ = true; simpa using ht, if_pos ht⟩
      rw [HE.out.1, HE.out.2.1, HE.out.2.2]
      obtain ⟨d, hd⟩ : ∃ d, d = f.2 := ⟨_, rfl⟩
      rw [ht] at c0
      rw [← hd] at c1 ⊢
      clear HE ht hd
      by_cases hcap : cap = 1
      · obtain rfl : r = [] := List.eq_nil_of_length_eq_zero (by omega)
        subst hcap
        have HG := hidk (grownBy_set0 W g (.slice (some ⟨b, off, none⟩) 0 0))
        have HN : Hid (Rd (W.setCell ⟨g, 0, none⟩ (.slice (some ⟨b, off, none⟩) 0 0)) lo g []) :=
          ⟨some ⟨b, off, none⟩, 0, Go.heap_setCell_same W g 0 _ _ _ h1, h2, Nat.le_refl _, by omega, fun y hy => by simp at hy, .inl rfl⟩
        simp only [List.length_nil, Nat.zero_add] at hc
        clear h1 h2 h5 hx HR hcs h3 hm
        go_enter Tryz.func89, Tryz.ntmps89
        go_wp2_with fail
        refine E1.out.mono ?_
        rintro e w1 ⟨rfl, rfl⟩
        go_wp2
        go_ret2
        exact ⟨rfl, HG.out, HN.out⟩
      · have HG := hidk (grownBy_set0 W g (.slice (some ⟨b, off + 2, none⟩) r.length (cap - 1)))
        have HN : Hid (Rd (W.setCell ⟨g, 0, none⟩ (.slice (some ⟨b, off + 2, none⟩) r.length (cap - 1))) lo g r) := by
          refine ⟨some ⟨b, off + 2, none⟩, cap - 1, ?_, h2, by omega, by omega, fun y hy => h5 y (List.mem_cons_of_mem _ hy), .inr ⟨b, off + 2, rfl, hl, hg, fun i hi => ?_⟩⟩
          · exact Go.heap_setCell_same W g 0 _ _ _ h1
          · have hk := Below.heap_setCell W ⟨g, 0, none⟩ (.slice (some ⟨b, off + 2, none⟩) r.length (cap - 1)) b (by show b ≠ g; omega)
            have hh := hcs (i + 1) (by simpa using hi)
            rw [show off + (i + 1) * 2 = off + 2 + i * 2 by omega] at hh
            exact ⟨(World.cell?_of_block (a := ⟨b, off + 2 + i * 2, none⟩) hk).trans hh.1, (World.cell?_of_block (a := ⟨b, off + 2 + i * 2 + 1, none⟩) hk).trans hh.2⟩
        have hcap' : ¬ cap - 1 = 0 := by omega
        clear h1 h2 h5 hx HR hcs
        go_enter Tryz.func89, Tryz.ntmps89
        go_wp2_with fail
        refine E1.out.mono ?_
        rintro e w1 ⟨rfl, rfl⟩
        go_wp2
        go_ret2
        exact ⟨rfl, HG.out, HN.out⟩
    · have HE : Hid (tkD tag (f :: r) = ⟨#[]⟩ ∧ tkB tag (f :: r) = false ∧ tkR tag (f :: r) = f :: r) := ⟨if_neg ht, by show decide _ = false; simpa using ht, if_neg ht⟩
      rw [HE.out.1, HE.out.2.1, HE.out.2.2]
      obtain ⟨t, hd⟩ : ∃ d, d = f.1 := ⟨_, rfl⟩
      rw [← hd] at c0 ht
      clear h1 h2 h5 hx hcs HE hd c1
      go_enter Tryz.func89, Tryz.ntmps89
      go_wp2_with fail
      refine E1.out.mono ?_
      rintro e w1 ⟨rfl, rfl⟩
      go_wp2
      go_ret2
      exact ⟨rfl, World.grownBy.refl _ _, HR.out⟩
end Go.Proofs.YtgkfodmccfnaoaaGreatDoor

/- Heads, signed heads and bytes that came in. -/
namespace Go.Proofs.YtgkfodmccfnaoaaGreatDoor
open Go.RowKit Sums Nums
set_option linter.unusedVariables false
set_option maxRecDepth 100000
theorem reads_arg {w : World} {x : Addr} {len cap : Nat} {zs : List Int} (hl : len ≤ cap) (hm : cap ≤ maxLen) (hz : zs.length = cap)
    (hcell : ∀ i, i < zs.length → w.cell? (x.add i) = some (.int .u8 (zs.getD i 0))) (hwz : ∀ n ∈ zs, (Lit.int .u8 n).wf = true) :
    ∃ l, Reads w (some x) len cap l := by
  have hm' : cap ≤ 9223372036854775807 := by unfold maxLen at hm; omega
  refine ⟨(zs.take len).map fun n => UInt8.ofNat n.toNat, by simp; omega, hl, hm', ?_⟩
  by_cases h0 : len = 0
  · exact .inr (.inl ⟨x, rfl, h0⟩)
  · have hc := hcell 0 (by omega)
    obtain ⟨b, off, spot⟩ := x
    have hspot : spot = none := by simpa [Addr.add] using World.cell?_spot hc
    subst hspot
    refine .inr (.inr ⟨b, off, rfl, ?_, fun i hi => ?_⟩)
    · rw [add_plain] at hc
      exact World.block_lt_of_cell? _ _ hc
    · have hi' : i < zs.length := by simp at hi; omega
      have := hcell i hi'
      rw [add_plain] at this
      rw [this]
      have hb := bounds_u8 (hwz zs[i] (List.getElem_mem hi'))
      simp only [List.getD, List.getElem?_eq_getElem hi', Option.getD_some, List.getElem_map, List.getElem_take]
      congr 2
      rw [UInt8.toNat_ofNat']
      omega
theorem open_bytes {H : Type} {enc : TypeId × Value → H} {W : World} {base : Nat} {held : Bool} {a : Option Addr} {len cap : Nat} {d : DataW H} {p : List MemPlace}
    (h : DataW.Trod enc Tryz.prog W base (fun _ => true) held 22 (.slice a len cap) d p) : ∃ l, Reads W a len cap l := by
  obtain ⟨fuel, hf⟩ := h
  rcases Go.ChangeShapes.open_ints Tryz.underlying22 Tryz.underlying5 (by kernel_rfl) hf with ⟨hcs, _⟩ | ⟨x, l, c, zs, hcs, _, hl, hm, hz, _, hcell, hwz⟩
  · simp [Value.cells] at hcs
    obtain ⟨rfl, rfl, rfl⟩ := hcs
    exact ⟨[], reads_none _⟩
  · simp [Value.cells] at hcs
    obtain ⟨rfl, rfl, rfl⟩ := hcs
    exact reads_arg hl hm (by simpa using hz) hcell hwz
variable {H : Type} {enc : TypeId × Value → H} {W : World} {base : Nat} {sp : Nat → Bool} {held : Bool} {fuel : Nat} {x : DataW H × List MemPlace}
end Go.Proofs.YtgkfodmccfnaoaaGreatDoor
