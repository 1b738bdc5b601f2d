/- What front.Of answers; what all calls of package front answer. -/
import Derived.Test.YtmpmhfagbcknnaaDoorFAdd
namespace Go.Proofs.YtmpmhfagbcknnaaDoor
open Go.RowKit Sums
set_option linter.unusedVariables false
set_option linter.unusedSimpArgs false

set_option maxHeartbeats 4000000 in
theorem fof_ok (a : Option Addr) (len cap : Nat) (l : List (List UInt8)) (w : World) (hR : LReads w a len cap l) (hl : len ≤ 100000) (hK : TabF w) :
    Calls Tryd.prog 17 #[.slice a len cap] w fun e w' => ∃ y cy, e = .returned (.tuple #[.agg #[.int .i64 len, .slice y (peaks l).length cy], .int .i64 0]) ∧ LReads w' y (peaks l).length cy (peaks l) ∧ Below w.heap.size w w' := by
  have hlen := hR.1
  obtain ⟨Z, HZ, HA, HS, H1, H32⟩ := noughts27
  have d1 : decide (100000 < (len : Int)) = false := by rw [decide_eq_false_iff_not]; omega
  have HR := hidk hR
  have hds : Digs32 (peaks l) := peaks_digs sumD_length len l hlen hR.2.1
  have HDS := hidk hds
  -- a leaf comes
  have TK : Hid (∀ (i : Nat) (hi : i < l.length) (v : Value) (D : Array Value) (W : World), Hid (D = (cellsOf l[i]).toArray) → Grow (w.heap.size + 1) (w.heap.size + 1) (.int .i64 i) v (peaks (l.take i)) W → Below w.heap.size w W →
      Calls Tryd.prog 27 #[.pointer (some ⟨w.heap.size + 1, 0, none⟩), .agg D] W fun e w' => e = .returned (.tuple #[]) ∧ (∃ v', Grow (w.heap.size + 1) (w.heap.size + 1) (.int .i64 ((i : Int) + 1)) v' (peaks (l.take (i + 1))) w') ∧ Below (w.heap.size + 1) W w') := fun i hi v D W HD h1 h2 => by
    have hti : (l.take i).length = i := by rw [List.length_take]; omega
    have hp := take_any (w.heap.size + 1) (w.heap.size + 1) i v (peaks (l.take i)) l[i] W h1 (peaks_digs sumD_length i _ hti (hR.2.1.take i)) (peaks_length i _ hti) (by omega) (hR.2.1 _ (List.getElem_mem hi)) (Nat.le_refl _) (hK.keep h2) ⟨Nat.lt_succ_of_lt hK.at.1, Nat.lt_succ_of_lt hK.at.2⟩ D HD
    have e : addP i (peaks (l.take i)) l[i] = peaks (l.take (i + 1)) := by
      have := addP_peaks (l.take i) l[i]
      rw [hti] at this
      rw [this, List.take_add_one, List.getElem?_eq_getElem hi]
      rfl
    rw [e] at hp
    exact hp
  have row : Hid (∀ i (hi : i < l.length), ∃ B : Array Value, Hid (B = (cellsOf l[i]).toArray) ∧ Hid ((Tryd.prog.info? 29).map (·.size) = some B.size) ∧ Hid (B.all (·.oneCell') = true) ∧ Hid (B.size = 32)) := fun i hi => dig_row' _ (hR.2.1 _ (List.getElem_mem hi))
  have b1 : Below w.heap.size w (w.alloc (.cells #[.int .i64 0, .slice none 0 0] 25)) := (Below.refl _ _).alloc (Nat.le_refl _) _
  have HST : Hid ((∃ v, Grow (w.heap.size + 1) (w.heap.size + 1) (.int .i64 (0 : Nat)) v (peaks (l.take 0)) ((w.alloc (.cells #[.int .i64 0, .slice none 0 0] 25)).alloc (.cells #[.int .i64 0, .slice none 0 0] 50))) ∧ ((w.alloc (.cells #[.int .i64 0, .slice none 0 0] 25)).alloc (.cells #[.int .i64 0, .slice none 0 0] 50)).heap[w.heap.size]? = some (.cells #[.int .i64 0, .slice none 0 0] 25 (0, 0)) ∧ Below w.heap.size w ((w.alloc (.cells #[.int .i64 0, .slice none 0 0] 25)).alloc (.cells #[.int .i64 0, .slice none 0 0] 50))) := by
    refine ⟨⟨.slice none 0 0, ?_, ?_⟩, heap_keep (heap_alloc_new w _), b1.alloc (by simp) _⟩
    · have := heap_alloc_new (w.alloc (.cells #[.int .i64 0, .slice none 0 0] 25)) (.cells #[.int .i64 0, .slice none 0 0] 50)
      simpa using this
    · rw [peaks_none _ (by simp)]
      exact World.ownsRow_nil _ _ _ _
  clear hR hK hds b1
  go_enter Tryd.func17, Tryd.ntmps17
  go_wp2
  generalize (w.alloc (.cells #[.int .i64 0, .slice none 0 0] 25)).alloc (.cells #[.int .i64 0, .slice none 0 0] 50) = ws at HST ⊢
  go_loopw [13] (fun u wr => ∃ i : Nat, i ≤ len ∧ u = .int .i64 i ∧ Hid ((∃ v, Grow (w.heap.size + 1) (w.heap.size + 1) (.int .i64 i) v (peaks (l.take i)) wr) ∧ wr.heap[w.heap.size]? = some (.cells #[.int .i64 0, .slice none 0 0] 25 (0, 0)) ∧ Below w.heap.size w wr)) (fun u _ => len - (intOf u).toNat)
  case atStart => exact ⟨0, by omega, rfl, HST⟩
  case round =>
    clear HST
    obtain ⟨i, hi, rfl, HI⟩ := hrel
    by_cases hlt : i < len
    · have hdi : decide ((i : Int) < (len : Int)) = true := by rw [decide_eq_true_eq]; omega
      have hwi := wrap_int ((i : Int) + 1) (by omega) (by omega)
      obtain ⟨g, o, rfl, hg⟩ := HR.out.at (by omega)
      have hil : i < l.length := by omega
      obtain ⟨D, HD, HSD, H1D, H32D⟩ := row.out i hil
      obtain ⟨L, hL⟩ : ∃ L : List Value, D = L.toArray := ⟨D.toList, by simp⟩
      have zL : Hid ((Tryd.prog.info? 29).map (·.size) = some L.length) := by
        have := HSD.out
        rw [hL] at this
        show _ = _
        rw [this]
        simp
      have HRG : Hid (wr.rangeAt g (o + 32 * i) L) := by
        have := (HR.out.keep HI.out.2.2).range i hil
        have e : L = cellsOf l[i] := List.toArray_inj (by rw [← hL]; exact HD.out)
        rw [e]; exact this
      have HZD : Hid (Z.size = L.toArray.size) := by show _ = _; rw [← hL, H32.out, H32D.out]
      rw [hL] at HSD H1D HD
      have ix := fun W => index_list W g o len cap i .i64 hlt
      clear hL H32D
      go_wp2_with (first
        | (refine wpList_load_mid rfl 29 (.tmp 15) rfl g (o + 32 * i) rfl L _ HRG.out Tryd.underlying29 rfl zL.out ?_; try simp only [Act.put, List.setIfInBounds_toArray, List.set_cons_zero, List.set_cons_succ])
        | (refine wpList_new_row rfl rfl 29 rfl (.tmp 6) (.tmp 16) rfl Z L.toArray HA.out (fun _ => rfl) (fun _ => rfl) HSD.out HZD.out H1D.out ?_; intro gd w1 F1; try simp only [Act.put, List.setIfInBounds_toArray, List.set_cons_zero, List.set_cons_succ])
        | (refine wpList_load_row rfl 29 (.tmp 6) rfl gd rfl 29 L.toArray (0, 0) _ F1.out.2.1 Tryd.underlying29 rfl HSD.out ?_; try simp only [Act.put, List.setIfInBounds_toArray, List.set_cons_zero, List.set_cons_succ])
        | fail)
      obtain ⟨⟨v, hgr⟩, hz, hbw⟩ := HI.out
      refine (TK.out i hil v L.toArray w1 HD (hgr.keep F1.out.2.2) (hbw.trans (F1.out.2.2.mono hbw.size))).mono ?_
      rintro e w2 ⟨rfl, hg2, hb2⟩
      have HN : Hid ((∃ v, Grow (w.heap.size + 1) (w.heap.size + 1) (.int .i64 ((i : Int) + 1)) v (peaks (l.take (i + 1))) w2) ∧ w2.heap[w.heap.size]? = some (.cells #[.int .i64 0, .slice none 0 0] 25 (0, 0)) ∧ Below w.heap.size w w2) :=
        ⟨hg2, (hb2.block _ (by omega)).trans ((F1.out.2.2.block _ (heap_lt hz)).trans hz), (hbw.trans (F1.out.2.2.mono hbw.size)).trans (hb2.mono (by omega))⟩
      clear hg2 hb2 hgr hz hbw F1 HI HRG TK row
      go_wp2
      go_roundw
      case rel => exact ⟨i + 1, by omega, by go_num, by simpa using HN⟩
      case measure => simp [intOf]; omega
    · obtain rfl : len = i := by omega
      obtain ⟨⟨v, hgr⟩, hz, hbw⟩ := HI.out
      rw [List.take_of_length_le (by omega)] at hgr
      obtain ⟨y, cy, rfl, hy, _⟩ := LReads.own hgr.own HDS.out
      obtain ⟨R, HRR, HSF, _, H1R, H2R⟩ := front_row (len : Int) y (peaks l).length cy
      have HE : Hid (Value.agg #[.int .i64 (len : Int), .slice y (peaks l).length cy] = .agg R) := by show _ = _; rw [HRR.out]
      have HV : Hid (wr.heap[w.heap.size + 1]? = some (.cells R 50 (0, 0))) := by show _ = _; rw [← HRR.out]; exact hgr.var
      have HZ2 := hidk hz
      have ho5 := own_setRow (c' := R) hgr.own hz (by decide)
      have HF : Hid (LReads (wr.setRow w.heap.size R) y (peaks l).length cy (peaks l) ∧ Below w.heap.size w (wr.setRow w.heap.size R)) := by
        refine ⟨?_, below_setRow hbw (Nat.le_refl _) _⟩
        obtain ⟨y', cy', e, hy, _⟩ := LReads.own ho5 HDS.out
        cases e
        exact hy
      clear hgr hz hbw hy ho5 HI TK row HRR
      go_wp2_with (first
        | (refine wpList_load_row rfl 25 (.tmp 20) rfl (w.heap.size + 1) rfl 50 R (0, 0) _ HV.out Tryd.underlying25 rfl HSF.out ?_; try simp only [Act.put, List.setIfInBounds_toArray, List.set_cons_zero, List.set_cons_succ])
        | (refine wpList_store_row rfl 25 (.tmp 2) (.tmp 21) rfl w.heap.size R rfl rfl 25 #[.int .i64 0, .slice none 0 0] HZ2.out HSF.out H2R.out H1R.out ?_; try simp only [Act.put, List.setIfInBounds_toArray, List.set_cons_zero, List.set_cons_succ])
        | fail)
      refine bodyPost_ret (v := .tuple #[.agg R, .int .i64 0]) ?_ rfl ⟨y, cy, by rw [HE.out], HF.out⟩
      exact results_row_tmp (p := 2) (q := 3) (ty := 25) rfl _ _ w.heap.size 25 R (0, 0) _ rfl (setRow_heap _ _ _ _ 25 _ HZ2.out) Tryd.underlying25 rfl HSF.out

/-- What the landed package front answers. -/
theorem frontC : FrontC where
  check_ok n a len cap w h := check_ok n a len cap w h
  check_no n a len cap w hl _ h := check_no n a len cap w hl h
  frontRoot_ok n a len cap ps w h hR hK D HD := froot_ok n a len cap ps w h hR hK D HD
  frontRoot_no n a len cap w hl _ h Z HZ := froot_no n a len cap w hl h Z HZ
  add_ok n a len cap ps d w h hn hR hd hK D HD := fadd_ok n a len cap ps d w h hn hR hd hK D HD
  add_no n a len cap w hl _ h D d _ _ := fadd_no n a len cap w hl h D
  add_full a len cap w h D d _ _ := fadd_full a len cap w h D
  of_ok a len cap l w hR hl hK := fof_ok a len cap l w hR hl hK
end Go.Proofs.YtmpmhfagbcknnaaDoor
