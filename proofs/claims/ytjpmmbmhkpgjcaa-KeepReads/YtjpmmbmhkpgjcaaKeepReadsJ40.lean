/- Texts of our own that the row of KeepReads leans on, part 40. -/
import Derived.Test.YtjpmmbmhkpgjcaaKeepReadsJ27
import Derived.Test.YtjpmmbmhkpgjcaaKeepReadsJ29
import Derived.Test.YtjpmmbmhkpgjcaaKeepReadsJ31
import Derived.Test.YtjpmmbmhkpgjcaaKeepReadsJ38
import Derived.Test.YtjpmmbmhkpgjcaaKeepReadsJ39

/- What keep's GetRecord answers; and what the calls of keep answer of texts. -/
namespace Go.Proofs.Ytjpmmbmhkpgjcaa
open Go.RowKit Nums Sums
set_option linter.unusedVariables false
set_option linter.unusedSimpArgs false
set_option maxRecDepth 100000
theorem bytes_eq {s t : ByteArray} (h : s.data.toList = t.data.toList) : s = t := by
  cases s
  cases t
  simp at h
  simp [h]
set_option maxHeartbeats 32000000 in
theorem ktGet (C : HistoryC) (E : EntryC) (s : ByteArray) (w : World) (hs : s.size ≤ 100000) : Calls Try.prog 27 #[.string s] w fun e w' => ∃ r', e = .returned (.tuple #[.agg (reA r'), .int .i64 (if (getRO enR deR s.data.toList).isSome = true then 0 else 140)]) ∧ r'.t = (getRO enR deR s.data.toList).getD zeroR ∧ ROut w' w.heap.size r' ∧ Below w.heap.size w w' := by
  obtain ⟨bs, hbs⟩ : ∃ bs, s.data.toList = bs := ⟨_, rfl⟩
  have F1 : Hid (∀ W, Calls Try.prog 53 #[.string s] W fun e w' => ∃ v, e = .returned v ∧ w'.ownsRow W.heap.size 85 2 v (fldsK 2005 bs).length (fcells (fldsK 2005 bs)) ∧ Below W.heap.size W w') := fun W => by rw [← hbs]; exact ktFlds s hs W
  have F65 : Hid (∀ f ∈ fldsK 2005 bs, f.2.size ≤ maxLen) := fun f hf => small_max (flds_65 _ _ f hf)
  have T1 : Hid (∀ W a c, FReads W.heap.size W a (fldsK 2005 bs).length c (fldsK 2005 bs) → Calls Try.prog 52 #[.slice a (fldsK 2005 bs).length c] W fun e w' => ∃ r, e = .returned (.agg (reA r)) ∧ r.t = deR bs ∧ ROut w' W.heap.size r ∧ OkR r ∧ Below W.heap.size W w') := fun W a c h => ktTake E a _ c _ W h (flds_65 _ _) (flds_len _ _)
  have DIN := hidk (deR_in bs)
  have FZ : Hid (Fit Try.prog 42 (reA zeroRv)) := reA_fit zeroRv ⟨zeroE_ok, rfl⟩
  have H := hidk (Sep.start Try.prog w)
  obtain ⟨X, hX⟩ : ∃ X : ByteArray, (⟨(if mayR (deR bs) = true then enR (deR bs) else []).toArray⟩ : ByteArray) = X := ⟨_, rfl⟩
  obtain ⟨e, he⟩ : ∃ e, putRE (deR bs) = e := ⟨_, rfl⟩
  have P1 : Hid (∀ W (r : ReV), r.t = deR bs → RIn W r → Calls Try.prog 24 #[.agg (reA r)] W fun x w' => x = .returned (.tuple #[.string X, .int .i64 e]) ∧ Below W.heap.size W w') := fun W r et h => by
    have := ktPut C E r W h
    rw [et, hX, he] at this
    exact this
  rw [hbs]
  by_cases hM : mayR (deR bs) = true
  · rw [if_pos hM] at hX
    obtain rfl : e = 0 := by rw [← he]; unfold putRE; rw [if_pos hM]
    by_cases hq : enR (deR bs) = bs
    · obtain rfl : X = s := by rw [← hX]; exact bytes_eq (by rw [hbs]; show (enR (deR bs)).toArray.toList = bs; rw [hq])
      have HG : Hid (getRO enR deR bs = some (deR bs)) := by show _ = _; unfold getRO; rw [if_pos ⟨hM, hq⟩]
      rw [HG.out]
      clear hM hq hX he hbs hs C E
      go_enter Try.func27, Try.ntmps27
      go_wp2_with (first
        | ((with_reducible show wpList _ _ _ (⟨_, .alloc _, _, _, _, _⟩ :: _) _ _); refine newS (by rfl) (by kernel_rfl) H ?_; clear H; intro gq W hq H; clear hq; try simp only [Act.put, List.setIfInBounds_toArray, List.set_cons_zero, List.set_cons_succ])
        | ((with_reducible show wpList _ _ _ (⟨_, .store _ _ _, _, _, _, _⟩ :: _) _ _); refine setS (by rfl) (by rfl) (by rfl) H (by assumption) (by repeat first | apply uH | apply uT) ?_; clear H; intro W H; try simp only [Act.put, List.setIfInBounds_toArray, List.set_cons_zero, List.set_cons_succ])
        | ((with_reducible show wpList _ _ _ (⟨_, .load _ _, _, _, _, _⟩ :: _) _ _); refine rdS (by rfl) (by rfl) (by decide +kernel) H (by repeat constructor) ?_; try simp only [Act.put, List.setIfInBounds_toArray, List.set_cons_zero, List.set_cons_succ])
        | ((with_reducible refine (F1.out _).mono ?_); rintro _ W ⟨v, rfl, ho, hb⟩; obtain ⟨fa, fc, rfl, hF⟩ := freads_own ho F65.out; have HFR := hidk hF; replace H := hidk (H.out.call hb); clear hb ho hF; try simp only [Act.put, List.setIfInBounds_toArray, List.set_cons_zero, List.set_cons_succ])
        | ((with_reducible refine (T1.out _ _ _ HFR.out).mono ?_); rintro _ W ⟨r, rfl, et, ho, okr, hb⟩; obtain ⟨NR, HQ, RI⟩ := H.out.rout hb ho (et ▸ DIN.out.1) (by rw [ho.n]; have := DIN.out.2; rw [← et] at this; exact Nat.le_trans this (by decide)); replace et := hidk et; have FR := hidk (reA_fit r okr); clear H ho okr hb; have H := HQ; clear HQ; try simp only [Act.put, List.setIfInBounds_toArray, List.set_cons_zero, List.set_cons_succ])
        | ((with_reducible refine (P1.out _ r et.out (RI.out _ H.out.has.l).1).mono ?_); rintro _ W ⟨rfl, hb⟩; replace H := hidk (H.out.call hb); clear hb; try simp only [Act.put, List.setIfInBounds_toArray, List.set_cons_zero, List.set_cons_succ])
        | ((with_reducible show wpList _ _ _ (⟨_, .build _ _, _, _, _, _⟩ :: _) _ _); refine bldS (by rfl) (by with_reducible exact builtR_0) (by rfl) ?_; try simp only [Act.put, List.setIfInBounds_toArray, List.set_cons_zero, List.set_cons_succ])
        | fail)
      refine bodyPost_ret (resS2 rfl rfl H (by repeat constructor) (by kernel_rfl)) rfl ?_
      exact ⟨r, rfl, et.out, (RI.out _ H.out.has.l).2, H.out.b⟩
    · have hne := text_ne (s := X) (t := s) (fun h => hq (by rw [← hX] at h; have := congrArg (fun x : ByteArray => x.data.toList) h; rw [hbs] at this; exact this))
      have HG : Hid (getRO enR deR bs = none) := by show _ = _; unfold getRO; rw [if_neg (fun h => hq h.2)]
      rw [HG.out]
      clear hM hq hX he hbs hs C E
      go_enter Try.func27, Try.ntmps27
      go_wp2_with (first
        | ((with_reducible show wpList _ _ _ (⟨_, .alloc _, _, _, _, _⟩ :: _) _ _); refine newS (by rfl) (by kernel_rfl) H ?_; clear H; intro gq W hq H; clear hq; try simp only [Act.put, List.setIfInBounds_toArray, List.set_cons_zero, List.set_cons_succ])
        | ((with_reducible show wpList _ _ _ (⟨_, .store _ _ _, _, _, _, _⟩ :: _) _ _); refine setS (by rfl) (by rfl) (by rfl) H (by assumption) (by repeat first | apply uH | apply uT) ?_; clear H; intro W H; try simp only [Act.put, List.setIfInBounds_toArray, List.set_cons_zero, List.set_cons_succ])
        | ((with_reducible show wpList _ _ _ (⟨_, .load _ _, _, _, _, _⟩ :: _) _ _); refine rdS (by rfl) (by rfl) (by decide +kernel) H (by repeat constructor) ?_; try simp only [Act.put, List.setIfInBounds_toArray, List.set_cons_zero, List.set_cons_succ])
        | ((with_reducible refine (F1.out _).mono ?_); rintro _ W ⟨v, rfl, ho, hb⟩; obtain ⟨fa, fc, rfl, hF⟩ := freads_own ho F65.out; have HFR := hidk hF; replace H := hidk (H.out.call hb); clear hb ho hF; try simp only [Act.put, List.setIfInBounds_toArray, List.set_cons_zero, List.set_cons_succ])
        | ((with_reducible refine (T1.out _ _ _ HFR.out).mono ?_); rintro _ W ⟨r, rfl, et, ho, okr, hb⟩; obtain ⟨NR, HQ, RI⟩ := H.out.rout hb ho (et ▸ DIN.out.1) (by rw [ho.n]; have := DIN.out.2; rw [← et] at this; exact Nat.le_trans this (by decide)); replace et := hidk et; have FR := hidk (reA_fit r okr); clear H ho okr hb; have H := HQ; clear HQ; try simp only [Act.put, List.setIfInBounds_toArray, List.set_cons_zero, List.set_cons_succ])
        | ((with_reducible refine (P1.out _ r et.out (RI.out _ H.out.has.l).1).mono ?_); rintro _ W ⟨rfl, hb⟩; replace H := hidk (H.out.call hb); clear hb; try simp only [Act.put, List.setIfInBounds_toArray, List.set_cons_zero, List.set_cons_succ])
        | ((with_reducible show wpList _ _ _ (⟨_, .build _ _, _, _, _, _⟩ :: _) _ _); refine bldS (by rfl) (by with_reducible exact builtR_0) (by rfl) ?_; try simp only [Act.put, List.setIfInBounds_toArray, List.set_cons_zero, List.set_cons_succ])
        | fail)
      refine bodyPost_ret (resS2 rfl rfl H (by repeat constructor) (by kernel_rfl)) rfl ?_
      exact ⟨zeroRv, rfl, rfl, ⟨.inl ⟨rfl, rfl⟩, rfl⟩, H.out.b⟩
  · obtain rfl : e = 140 := by rw [← he]; unfold putRE; rw [if_neg hM]
    have HG : Hid (getRO enR deR bs = none) := by show _ = _; unfold getRO; rw [if_neg (fun h => hM h.1)]
    rw [HG.out]
    clear hM hX he hbs hs C E
    go_enter Try.func27, Try.ntmps27
    go_wp2_with (first
      | ((with_reducible show wpList _ _ _ (⟨_, .alloc _, _, _, _, _⟩ :: _) _ _); refine newS (by rfl) (by kernel_rfl) H ?_; clear H; intro gq W hq H; clear hq; try simp only [Act.put, List.setIfInBounds_toArray, List.set_cons_zero, List.set_cons_succ])
      | ((with_reducible show wpList _ _ _ (⟨_, .store _ _ _, _, _, _, _⟩ :: _) _ _); refine setS (by rfl) (by rfl) (by rfl) H (by assumption) (by repeat first | apply uH | apply uT) ?_; clear H; intro W H; try simp only [Act.put, List.setIfInBounds_toArray, List.set_cons_zero, List.set_cons_succ])
      | ((with_reducible show wpList _ _ _ (⟨_, .load _ _, _, _, _, _⟩ :: _) _ _); refine rdS (by rfl) (by rfl) (by decide +kernel) H (by repeat constructor) ?_; try simp only [Act.put, List.setIfInBounds_toArray, List.set_cons_zero, List.set_cons_succ])
      | ((with_reducible refine (F1.out _).mono ?_); rintro _ W ⟨v, rfl, ho, hb⟩; obtain ⟨fa, fc, rfl, hF⟩ := freads_own ho F65.out; have HFR := hidk hF; replace H := hidk (H.out.call hb); clear hb ho hF; try simp only [Act.put, List.setIfInBounds_toArray, List.set_cons_zero, List.set_cons_succ])
      | ((with_reducible refine (T1.out _ _ _ HFR.out).mono ?_); rintro _ W ⟨r, rfl, et, ho, okr, hb⟩; obtain ⟨NR, HQ, RI⟩ := H.out.rout hb ho (et ▸ DIN.out.1) (by rw [ho.n]; have := DIN.out.2; rw [← et] at this; exact Nat.le_trans this (by decide)); replace et := hidk et; have FR := hidk (reA_fit r okr); clear H ho okr hb; have H := HQ; clear HQ; try simp only [Act.put, List.setIfInBounds_toArray, List.set_cons_zero, List.set_cons_succ])
      | ((with_reducible refine (P1.out _ r et.out (RI.out _ H.out.has.l).1).mono ?_); rintro _ W ⟨rfl, hb⟩; replace H := hidk (H.out.call hb); clear hb; try simp only [Act.put, List.setIfInBounds_toArray, List.set_cons_zero, List.set_cons_succ])
      | ((with_reducible show wpList _ _ _ (⟨_, .build _ _, _, _, _, _⟩ :: _) _ _); refine bldS (by rfl) (by with_reducible exact builtR_0) (by rfl) ?_; try simp only [Act.put, List.setIfInBounds_toArray, List.set_cons_zero, List.set_cons_succ])
      | fail)
    refine bodyPost_ret (resS2 rfl rfl H (by repeat constructor) (by kernel_rfl)) rfl ?_
    exact ⟨zeroRv, rfl, rfl, ⟨.inl ⟨rfl, rfl⟩, rfl⟩, H.out.b⟩
theorem keepTC : KeepTT enR deR where
  ne := enR_ne
  len := fun r h ok => en_length h ok.l ok.x ok.c
  back := fun r h ok => de_en h ok.l ok.x ok.c
  ok := fun s => let h := de_ok s; ⟨h.1, h.2.1, h.2.2⟩
  put := fun r w h => ktPut historyC entryC r w h
  get := fun s w h => ktGet historyC entryC s w h
end Go.Proofs.Ytjpmmbmhkpgjcaa
