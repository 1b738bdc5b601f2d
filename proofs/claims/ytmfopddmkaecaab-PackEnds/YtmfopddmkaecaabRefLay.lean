/- What the document's own Lay answers: the same as layE, rowOf tell. -/
import Derived.Test.YtmfopddmkaecaabSpec
import Derived.Test.YtmfopddmkaecaabMay
import Derived.Test.YtmfopddmkaecaabLent
import Derived.Deep.RegionHeld3
namespace Go.Proofs.Ytmfopddmkaecaab
open Go.RowKit Nums

theorem fault_ref (last tag : Int) (size : Nat) (hl : 0 ≤ last) : faultOf last tag size = if tag ≤ last then 1 else faultOf 0 tag size := by
  unfold faultOf
  by_cases h : tag ≤ last
  · rw [if_pos (.inl h), if_pos h]
  · rw [if_neg h]
    by_cases h2 : 255 < tag
    · rw [if_pos (show tag ≤ last ∨ 255 < tag from .inr h2), if_pos (show tag ≤ 0 ∨ 255 < tag from .inr h2)]
    · rw [if_neg (show ¬ (tag ≤ last ∨ 255 < tag) by omega), if_neg (show ¬ (tag ≤ 0 ∨ 255 < tag) by omega)]

theorem fault_pos {last tag : Int} {size : Nat} (hl : 0 ≤ last) (h : faultOf last tag size = 0) : 1 ≤ tag ∧ tag ≤ 255 ∧ size ≤ 65536 := by
  unfold faultOf at h
  by_cases h1 : tag ≤ last ∨ 255 < tag
  · rw [if_pos h1] at h; omega
  · rw [if_neg h1] at h
    by_cases h2 : 65536 < size
    · rw [if_pos h2] at h; omega
    · omega

set_option maxHeartbeats 4000000 in
theorem refLay_some (b off len cap : Nat) (fs : List (Int × ByteArray)) (w : World) (hlen : fs.length = len) (hl : len ≤ 400) (hb : b < w.heap.size) (hfs : ∀ f ∈ fs, f.2.size ≤ maxLen)
    (hc : ∀ (i : Nat) (h : i < fs.length), w.cell? ⟨b, off + i * 2, none⟩ = some (.int .i64 fs[i].1) ∧ w.cell? ⟨b, off + i * 2 + 1, none⟩ = some (.string fs[i].2)) :
    Calls Try.prog 9 #[.slice (some ⟨b, off, none⟩) len cap] w fun e W' => ∃ v, e = .returned (.tuple #[v, .int .i64 (layE 0 fs)]) ∧ W'.ownsRow w.heap.size 5 1 v (rowOf fs).length (cellsOf (rowOf fs)) ∧ Below w.heap.size w W' := by
  go_enter Try.func9, Try.ntmps9
  go_wp2
  go_loopw [4, 5, 6] (fun o t i wr => ∃ (k : Nat) (last : Int), k ≤ len ∧ i = .int .i64 k ∧ t = .int .i64 last ∧ 0 ≤ last ∧ wr.ownsRow w.heap.size 5 1 o (rowB (fs.take k)).length (cellsOf (rowB (fs.take k))) ∧ (rowB (fs.take k)).length ≤ k * 65540 ∧ Hid (layE 0 fs = layE last (fs.drop k)) ∧ Below w.heap.size w wr)
    (fun _ _ i _ => len - (intOf i).toNat)
  case atStart => exact ⟨0, 0, Nat.zero_le _, rfl, rfl, by decide, World.ownsRow_nil _ _ _ _, by simp [rowB], (rfl : layE 0 fs = layE 0 fs), Below.refl _ _⟩
  case round =>
    obtain ⟨k, last, hk, rfl, rfl, hlast, hown, hbd, HL, hB⟩ := hrel
    by_cases hlt : k < len
    · obtain ⟨hc0, hc1⟩ := hc k (by omega)
      have hd0 : wr.cell? ⟨b, off + k * 2, none⟩ = some (.int .i64 (fs[k]'(by omega)).1) := (hB.cell (p := ⟨b, off + k * 2, none⟩) hb).trans hc0
      have hd1 : wr.cell? ⟨b, off + k * 2 + 1, none⟩ = some (.string (fs[k]'(by omega)).2) := (hB.cell (p := ⟨b, off + k * 2 + 1, none⟩) hb).trans hc1
      obtain ⟨f, hf⟩ : ∃ f, f = fs[k]'(by omega) := ⟨_, rfl⟩
      rw [← hf] at hd0 hd1
      obtain ⟨tag, d⟩ := f
      dsimp only at hd0 hd1
      have HF : Hid (fs.drop k = (tag, d) :: fs.drop (k + 1)) := by show _ = _; rw [hf]; exact List.drop_eq_getElem_cons (by omega)
      have HT : Hid (fs.take (k + 1) = fs.take k ++ [(tag, d)]) := by show _ = _; rw [hf]; exact List.take_succ_eq_append_getElem (by omega)
      have hdm : d.size ≤ maxLen := hfs (tag, d) (by rw [hf]; exact List.getElem_mem _)
      have HM : Hid (∀ w, Calls Try.prog 18 #[.int .i64 tag, .string d] w fun e w' => e = .returned (.int .i64 (faultOf 0 tag d.size)) ∧ w' = w) := fun w => (may_any tag d w hdm).mono fun e w' h => ⟨h.1, h.2.symm⟩
      have hlen' : (k : Int) < (len : Int) := by omega
      clear hc0 hc1 hf hdm
      have HEND : ∀ e0, faultOf last tag d.size = e0 → e0 ≠ 0 → layE 0 fs = e0 ∧ rowOf fs = [] := by
        intro e0 he h0
        have h1 : layE 0 fs = e0 := by rw [HL.out, HF.out, layE, he, if_neg h0]
        exact ⟨h1, by rw [rowOf, if_neg (by rw [h1]; exact h0)]⟩
      by_cases h1 : tag ≤ last
      · have HE := HEND 1 (by rw [fault_ref last tag d.size hlast, if_pos h1]) (by decide)
        have HEE : Hid (layE 0 fs = 1 ∧ rowOf fs = []) := HE
        clear HE HEND
        go_wp2
        go_quiet ((go_at_call 18; exact Calls.quiet_of_same (HM.out _)))
        go_wp2
        go_ret2
        refine ⟨.slice none 0 0, ?_, ?_, below_drewN hB _⟩
        · rw [HEE.out.1]; rfl
        · rw [HEE.out.2]; exact World.ownsRow_nil _ _ _ _
      · have h1' : ¬ tag ≤ last := h1
        have hfr : faultOf last tag d.size = faultOf 0 tag d.size := by rw [fault_ref last tag d.size hlast, if_neg h1]
        by_cases h2 : faultOf 0 tag d.size = 0
        · have hfp := fault_pos hlast (hfr.trans h2)
          obtain ⟨tg, rfl⟩ : ∃ tg : Nat, tag = tg := ⟨tag.toNat, by omega⟩
          have htg : 1 ≤ tg ∧ tg ≤ 255 := by omega
          have hds : d.size ≤ 65536 := hfp.2.2
          have HMM : Hid (∀ w, Calls Try.prog 18 #[.int .i64 tg, .string d] w fun e w' => e = .returned (.int .i64 0) ∧ w' = w) := fun w => by
            have := HM.out w
            rwa [h2] at this
          have HLL : Hid (layE 0 fs = layE tg (fs.drop (k + 1))) := by
            show _ = _
            rw [HL.out, HF.out, layE, if_pos (by rw [hfr]; exact h2)]
          have HRB : Hid (rowB (fs.take (k + 1)) = rowB (fs.take k) ++ fieldBytes tg d.data.toList) := by
            show _ = _
            rw [HT.out, rowB_append]
            simp only [rowB, List.append_nil]
            rw [fieldBytesI_nat _ _ (by omega)]
            simp
          have HOWN : Hid (∀ nq, (wr.drewN nq).ownsRow w.heap.size 5 1 u4 (rowB (fs.take k)).length (cellsOf (rowB (fs.take k)))) := fun nq => by
            have hg : wr.grownBy (wr.drewN nq) none := grown_of_below (below_drewN (Below.refl _ _) nq)
            exact hown.kept hg (by cases u4.ownBlock with | none => exact .inl rfl | some g => exact .inr (by simp))
          clear HEND h2 hfr hown HM
          go_wp2
          go_quiet ((go_at_call 18; exact Calls.quiet_of_same (HMM.out _)))
          go_wp2
          have hbr : b < wr.heap.size := Nat.lt_of_lt_of_le hb hB.size
          have HGO : Hid (∀ X W1, X.heap.size = wr.heap.size → Below w.heap.size w X → X.ownsRow w.heap.size 5 1 u4 (rowB (fs.take k)).length (cellsOf (rowB (fs.take k))) → ∀ vb, W1.ownsRow X.heap.size 5 1 vb (fieldBytes tg d.data.toList).length (cellsOf (fieldBytes tg d.data.toList)) → Below X.heap.size X W1 →
              ∃ ab nb cb v' w2, vb = .slice ab nb cb ∧ (Builtin.append_ #[24, 24] 24 #[u4, .slice ab nb cb]).run Try.prog W1 = .ok v' w2 ∧ w2.ownsRow w.heap.size 5 1 v' (rowB (fs.take (k + 1))).length (cellsOf (rowB (fs.take (k + 1)))) ∧ Below w.heap.size w w2) := by
            intro X W1 hX hbX hoX vb hovb hbb
            obtain ⟨ab, cb, rfl, hrb⟩ := reads_own hovb
            have hwX : w.heap.size ≤ X.heap.size := hbX.size
            have hu4 : W1.ownsRow w.heap.size 5 1 u4 (rowB (fs.take k)).length (cellsOf (rowB (fs.take k))) := hoX.kept (grown_of_below hbb) (by cases u4.ownBlock with | none => exact .inl rfl | some g => exact .inr (by simp))
            obtain ⟨v', w2, hr, ho, hg⟩ := run_append_grows hrb w.heap.size _ 24 u4 _ hu4 (Nat.le_trans hwX hbb.size) (by rw [fieldBytes_length]; have h : d.data.toList.length = d.size := (by simp); omega)
            refine ⟨ab, _, cb, v', w2, rfl, hr, ?_, (hbX.trans (hbb.mono hwX)).grown hg (Nat.le_trans hwX hbb.size) (row_lt hu4)⟩
            rw [HRB.out, List.length_append]
            exact ho
          go_region_held3 (fun w' => w'.cell? ⟨b, off + k * 2, none⟩ = some (.int .i64 tg) ∧ w'.cell? ⟨b, off + k * 2 + 1, none⟩ = some (.string d)) (first | go_keep | exact ⟨by assumption, by assumption⟩)
            (first
              | (go_at_call 19; refine (bytes_any tg d _ hds htg.2).mono ?_; (rintro e W1 ⟨vb, rfl, hownb, hbb⟩; have z0 := (hbb.cell (p := ⟨b, off + k * 2, none⟩) (by simpa using hbr)).trans (by simpa using hd0); have z1 := (hbb.cell (p := ⟨b, off + k * 2 + 1, none⟩) (by simpa using hbr)).trans (by simpa using hd1))))
          obtain ⟨ab, nb, cb, v', w2, hvb, hrun, hown2, hB2⟩ := HGO.out (wr.drewN (nq + 1)) W1 (by simp) (below_drewN hB _) (HOWN.out _) vb (by simpa using hownb) (by simpa using hbb)
          subst hvb
          have HRUN : Hid _ := hrun
          have hbd2 : (rowB (fs.take (k + 1))).length ≤ (k + 1) * 65540 := by
            rw [HRB.out, List.length_append, fieldBytes_length]
            have h : d.data.toList.length = d.size := (by simp)
            omega
          have e0 : w2.cell? ⟨b, off + k * 2, none⟩ = some (.int .i64 tg) := (hB2.cell (p := ⟨b, off + k * 2, none⟩) hb).trans ((hB.cell (p := ⟨b, off + k * 2, none⟩) hb).symm.trans hd0)
          clear hrun hownb hbb HGO z0 z1 hd0 hd1 hbr
          go_wp2_with (first
            | (at_builtin; refine wpList_append_run (by rfl) (.tmp 47) (.tmp 48) 24 24 (by rfl) _ _ _ _ (by rfl) (by rfl) HRUN.out ?_)
            | fail)
          go_roundw
          case rel => exact ⟨k + 1, tg, by omega, by go_num, rfl, by omega, hown2, hbd2, HLL, hB2⟩
          case measure => simp [intOf]; omega
        · have HE := HEND _ hfr h2
          have HEE : Hid (layE 0 fs = faultOf 0 tag d.size ∧ rowOf fs = []) := HE
          have h2' : (faultOf 0 tag d.size != 0) = true := by simpa using h2
          clear HE HEND h2
          go_wp2
          go_quiet ((go_at_call 18; exact Calls.quiet_of_same (HM.out _)))
          go_wp2
          go_ret2
          refine ⟨.slice none 0 0, ?_, ?_, below_drewN hB _⟩
          · rw [HEE.out.1]; rfl
          · rw [HEE.out.2]; exact World.ownsRow_nil _ _ _ _
    · have HE : Hid (layE 0 fs = 0 ∧ rowOf fs = rowB (fs.take k)) := by
        have h0 : layE 0 fs = 0 := by rw [HL.out, List.drop_of_length_le (by omega), layE]
        exact ⟨h0, by rw [rowOf, if_pos h0, List.take_of_length_le (by omega)]⟩
      go_wp2
      go_ret2
      refine ⟨u4, ?_, ?_, hB⟩
      · rw [HE.out.1]; rfl
      · rw [HE.out.2]; exact hown

set_option maxHeartbeats 400000 in
theorem refLay_none (a : Option Addr) (cap : Nat) (w : World) :
    Calls Try.prog 9 #[.slice a 0 cap] w fun e W' => e = .returned (.tuple #[.slice none 0 0, .int .i64 0]) ∧ w = W' := by
  go_enter Try.func9, Try.ntmps9
  go_wp2
  go_loop [4, 5, 6] (fun o t i => o = .slice none 0 0 ∧ t = .int .i64 0 ∧ i = .int .i64 0) (fun _ _ _ => 0)
  case atStart => exact ⟨rfl, rfl, rfl⟩
  case round =>
    obtain ⟨rfl, rfl, rfl⟩ := hrel
    go_wp2
    go_ret2
    exact ⟨rfl, rfl⟩

theorem refLay_any (a : Option Addr) (len cap : Nat) (fs : List (Int × ByteArray)) (w : World) (hR : FReads w.heap.size w a len cap fs) (hl : len ≤ 400) :
    Calls Try.prog 9 #[.slice a len cap] w fun e W' => ∃ v, e = .returned (.tuple #[v, .int .i64 (layE 0 fs)]) ∧ W'.ownsRow w.heap.size 5 1 v (rowOf fs).length (cellsOf (rowOf fs)) ∧ Below w.heap.size w W' := by
  obtain ⟨h1, h2, h3, h4, h5⟩ := hR
  have hz : len = 0 → Calls Try.prog 9 #[.slice a len cap] w fun e W' => ∃ v, e = .returned (.tuple #[v, .int .i64 (layE 0 fs)]) ∧ W'.ownsRow w.heap.size 5 1 v (rowOf fs).length (cellsOf (rowOf fs)) ∧ Below w.heap.size w W' := by
    intro h
    subst h
    have hf : fs = [] := List.eq_nil_of_length_eq_zero h1
    subst hf
    refine (refLay_none a cap w).mono ?_
    rintro e _ ⟨rfl, rfl⟩
    exact ⟨_, rfl, World.ownsRow_nil _ _ _ _, Below.refl _ _⟩
  rcases h5 with ⟨_, h⟩ | ⟨_, _, h⟩ | ⟨b, off, rfl, hb, hcs⟩
  · exact hz (by omega)
  · exact hz h
  · exact refLay_some b off len cap fs w h1 hl hb h4 hcs
end Go.Proofs.Ytmfopddmkaecaab
