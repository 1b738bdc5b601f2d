/- Texts of our own that the row of TopJournal leans on, part 51. -/
import Derived.Test.YtgclohgcehhfnabGreatDoorTopJournalJ0
import Derived.Test.YtgclohgcehhfnabGreatDoorTopJournalJ15
import Derived.Test.YtgclohgcehhfnabGreatDoorTopJournalJ45
import Derived.Test.YtgclohgcehhfnabGreatDoorTopJournalJ49
import Derived.Test.YtgclohgcehhfnabGreatDoorTopJournalJ50
/- The program's wal: the name of its part. -/
namespace Go.Proofs.YtgclohgcehhfnabGreatDoor
open Go.RowKit Nums
set_option linter.unusedVariables false
set_option linter.unusedSimpArgs false
set_option maxRecDepth 100000
theorem run_copy_name (w : World) (g : Nat) (s : ByteArray) (hg : w.heap[g]? = some (.cells (cellsOf (List.replicate 29 0)).toArray 5 (0, 0))) (l : List UInt8) (hl : s.data.toList = l) :
    ∃ v w', (Builtin.copy_ #[34, 9] 3 #[.slice (some ⟨g, 0, none⟩) 29 29, .string s]).run Tryz.prog w = .ok v w' ∧ Wrote g (cellsOf (l.take 29 ++ List.replicate (29 - l.length) 0)).toArray 5 w w' := by
  obtain ⟨k, hk⟩ : ∃ k, k = Nat.min s.size 29 := ⟨_, rfl⟩
  have hk2 : k ≤ s.size := by rw [hk]; exact Nat.min_le_left _ _
  have hk3 : k ≤ 29 := by rw [hk]; exact Nat.min_le_right _ _
  have hsz : s.data.toList.length = s.size := rfl
  have hc : (cellsOf (List.replicate 29 0)).toArray.size = 29 := by simp [cellsOf_length]
  have hlen : (Lib.byteCells (s.data.toList.take k)).length = k := by rw [Lib.byteCells_length, List.length_take, hsz]; omega
  have hst := run_storeCells_at Tryz.prog g 0 5 (Lib.byteCells (s.data.toList.take k)) 0 _ w hg (by rw [hlen]; omega) (Lib.byteCells_one _)
  have hmin : Nat.min s.size 29 = k := hk.symm
  have htk : List.take k (List.map (fun b : UInt8 => Value.int IntKind.u8 (b.toNat : Int)) s.data.toList) = Lib.byteCells (s.data.toList.take k) := by
    rw [← List.map_take]
    rfl
  rw [hlen] at hst
  simp only [Nat.add_zero, List.take_zero, List.nil_append, Nat.zero_add] at hst
  have e : (Lib.byteCells (s.data.toList.take k) ++ (cellsOf (List.replicate 29 0)).drop k).toArray = (cellsOf (l.take 29 ++ List.replicate (29 - l.length) 0)).toArray := by
    congr 1
    have e1 : s.data.toList.take k = l.take 29 := by
      rw [hk, hl]
      have hll : l.length = s.size := by rw [← hl, hsz]
      by_cases h32 : s.size ≤ 29
      · rw [show Nat.min s.size 29 = s.size from Nat.min_eq_left h32, List.take_of_length_le (by omega), List.take_of_length_le (by omega)]
      · rw [show Nat.min s.size 29 = 29 from Nat.min_eq_right (by omega)]
    have hll : l.length = s.size := by rw [← hl, hsz]
    rw [e1]
    show List.map _ _ ++ List.drop k (List.map _ _) = List.map _ (_ ++ _)
    rw [List.map_append, ← List.map_drop, List.drop_replicate]
    congr 3
    rw [hk, hll]
    by_cases h32 : s.size ≤ 29
    · rw [show Nat.min s.size 29 = s.size from Nat.min_eq_left h32]
    · rw [show Nat.min s.size 29 = 29 from Nat.min_eq_right (by omega)]; omega
  have hinf : (Tryz.prog.info? 5).map (·.size) = some 1 := by kernel_rfl
  refine ⟨goInt k, w.setRow g (cellsOf (l.take 29 ++ List.replicate (29 - l.length) 0)).toArray, ?_, wrote_row hg⟩
  rw [← e]
  clear hk
  cases hq : Tryz.prog.info? 5 with
  | none => simp [hq] at hinf
  | some i =>
    simp [Builtin.copy_, run_underlying Tryz.underlying34, Builtin.lenOf, Builtin.firstCells, sizeOf, typeInfo, hq, hmin]
    rw [htk, hst]
    simp [Result.andThen]
theorem name_text (f r : Nat) : ((⟨#[101, 115, 116, 114, 101, 97, 116, 32, 119, 97, 108, 32]⟩ : ByteArray) ++ ⟨(Lib.itoa f).toArray⟩ ++ ⟨#[32]⟩ ++ ⟨(Lib.itoa r).toArray⟩).data.toList = nameT f r := by
  unfold nameT
  simp [ByteArray.append_eq]
set_option maxHeartbeats 4000000 in
theorem bName (w : World) (q p f r : Nat) (V : VW) (T : Nat → Prop) (h : WM w q p f r V T) (hf : f ≤ 1000000) (hr : r ≤ 1000000) (tb : TabW w) :
    Calls Tryz.prog 45 #[ptr q] w fun e w' => ∃ g, e = .returned (.slice (some ⟨g, 0, none⟩) 29 29) ∧ w.heap.size ≤ g ∧ w'.heap[g]? = some (.cells (cellsOf (nameB f r)).toArray 5 (0, 0)) ∧ Below w.heap.size w w' := by
  obtain ⟨c0, c1, c2, c3, c4, c5⟩ := h.c
  have hq := h.lt
  have HC := hidd c1
  have HC2 := hidd c2
  have HTB := hidd tb
  clear h c0 c1 c2 c3 c4 c5 tb
  unfold ptr
  go_enter Tryz.func45, Tryz.ntmps45
  go_wp2_with (first
    | ((with_reducible show aD 4 _ _ _ _ _ _ _ _ _ _ _); refine wpList_make_row rfl _ _ rfl 29 rfl rfl (by decide) ?_; intro g1 w1 HM; try simp only [Act.put, pS1, pS2, pS3])
    | fail)
  have HB1 := hidd HM.out.below
  have HR1 := hidd HM.out.row
  have hg1 : w.heap.size ≤ g1 := Nat.le_of_eq HM.out.new.symm
  have HC1 := hidd ((HB1.out.cell (p := ⟨q, 1, none⟩) hq).trans HC.out)
  have HC12 := hidd ((HB1.out.cell (p := ⟨q, 2, none⟩) hq).trans HC2.out)
  have hqs : q < w1.heap.size := Nat.lt_of_lt_of_le hq HB1.out.size
  have hgs : g1 < w1.heap.size := heap_lt HR1.out
  have HTB1 := hidd (HTB.out.on HB1.out)
  obtain ⟨F, HF⟩ : ∃ F : ByteArray, Hid (F = ⟨(Lib.itoa f).toArray⟩) := ⟨_, hidd rfl⟩
  obtain ⟨G, HG⟩ : ∃ G : ByteArray, Hid (G = ⟨(Lib.itoa r).toArray⟩) := ⟨_, hidd rfl⟩
  obtain ⟨T1, HT1⟩ : ∃ T : ByteArray, Hid ((⟨#[101, 115, 116, 114, 101, 97, 116, 32, 119, 97, 108, 32]⟩ : ByteArray) ++ F = T) := ⟨_, hidd rfl⟩
  obtain ⟨T2, HT2⟩ : ∃ T : ByteArray, Hid (T1 ++ (⟨#[32]⟩ : ByteArray) = T) := ⟨_, hidd rfl⟩
  obtain ⟨T3, HT3⟩ : ∃ T : ByteArray, Hid (T2 ++ G = T) := ⟨_, hidd rfl⟩
  have hF : F.size ≤ 21 := by rw [HF.out]; show (Lib.itoa f).toArray.size ≤ 21; rw [List.size_toArray]; exact Lib.itoa_length_le f (by omega) (by omega)
  have hG : G.size ≤ 21 := by rw [HG.out]; show (Lib.itoa r).toArray.size ≤ 21; rw [List.size_toArray]; exact Lib.itoa_length_le r (by omega) (by omega)
  have hT1 : T1.size ≤ 40 := by rw [← HT1.out, ByteArray.size_append]; show 12 + F.size ≤ 40; omega
  have hT2 : T2.size ≤ 50 := by rw [← HT2.out, ByteArray.size_append]; show T1.size + 1 ≤ 50; omega
  have HTX : Hid (T3.data.toList = nameT f r) := by show _ = _; rw [← HT3.out, ← HT2.out, ← HT1.out, HF.out, HG.out]; exact name_text f r
  have IT1 := hidd (itoa_any f hf w1.drew (HTB1.out.on (Below.refl _ _).drew))
  rw [← HF.out] at IT1
  have IT2 : Hid (∀ W, Below w1.heap.size w1 W → Calls Tryz.prog 72 #[.int .i64 (r : Int)] W fun e w' => e = .returned (.string G) ∧ Below W.heap.size W w') := fun W hW => by rw [HG.out]; exact itoa_any r hr W (HTB1.out.on hW)
  clear HM HC HC2 HTB HTB1 HF HG
  refine wp_region_held_drew (S := (fun W => W.cell? ⟨q, 1, none⟩ = some (.int .i64 (f : Int)) ∧ W.cell? ⟨q, 2, none⟩ = some (.int .i64 (r : Int)))) (by kernel_rfl) ⟨HC1.out, HC12.out⟩ (fun hHeld => ?_)
  refine zX 0 (.slice (some ⟨g1, 0, none⟩) 29 29) rfl hHeld ?_
  try simp only [Act.put, pS1, pS2, pS3]
  refine zX 1 (.pointer (some ⟨q, 0, none⟩)) rfl hHeld ?_
  try simp only [Act.put, pS1, pS2, pS3]
  refine zX 2 (.pointer (some ⟨q, 0, none⟩)) rfl hHeld ?_
  try simp only [Act.put, pS1, pS2, pS3]
  refine zX 3 (.pointer (some ⟨q, 1, none⟩)) rfl hHeld ?_
  try simp only [Act.put, pS1, pS2, pS3]
  refine zW 4 (.int .i64 (f : Int)) rfl (Or.inl ⟨by rfl, by intro W hSw; have h1 := hSw.1; go_simp⟩) hHeld ?_
  try simp only [Act.put, pS1, pS2, pS3]
  refine zX 8 (.pointer (some ⟨q, 0, none⟩)) rfl hHeld ?_
  try simp only [Act.put, pS1, pS2, pS3]
  refine zX 9 (.pointer (some ⟨q, 0, none⟩)) rfl hHeld ?_
  try simp only [Act.put, pS1, pS2, pS3]
  refine zX 10 (.pointer (some ⟨q, 2, none⟩)) rfl hHeld ?_
  try simp only [Act.put, pS1, pS2, pS3]
  refine zW 11 (.int .i64 (r : Int)) rfl (Or.inl ⟨by rfl, by intro W hSw; have h1 := hSw.2; go_simp⟩) hHeld ?_
  try simp only [Act.put, pS1, pS2, pS3]
  refine wpAnyH_ready (rs := [5]) (by kernel_rfl) (by simp) ?_
  refine (AllReadyH.cons (o := { dst := some 10, op := .call { callee := .value (.func 72), args := #[.tmp 9], argTypes := #[3] }, type := 9, pos := "wal.go:162", after := #[zD 4], guard := none }) rfl (fun K hK => ?_) AllReadyH.nil)
  go_simp
  refine IT1.out.mono ?_
  rintro e w2 ⟨rfl, hb2⟩
  have HB2 := hidd ((Below.refl w1.heap.size w1).drew.trans hb2)
  go_wp2_with fail
  refine hK.out _ _ ⟨(hb2.cell (p := ⟨q, 1, none⟩) hqs).trans hHeld.1, (hb2.cell (p := ⟨q, 2, none⟩) hqs).trans hHeld.2⟩ (fun hHeld => ?_)
  clear hK K
  try simp only [Act.put, pS1, pS2, pS3]
  refine zW 6 (.string T1) rfl (Or.inl ⟨by rfl, by intro W hSw; go_simp; first | done | (rw [HT1.out, if_neg (by omega)])⟩) hHeld ?_
  try simp only [Act.put, pS1, pS2, pS3]
  refine zW 7 (.string T2) rfl (Or.inl ⟨by rfl, by intro W hSw; go_simp; first | done | (rw [HT2.out, if_neg (by omega)])⟩) hHeld ?_
  try simp only [Act.put, pS1, pS2, pS3]
  refine wpAnyH_ready (rs := [12]) (by kernel_rfl) (by simp) ?_
  refine (AllReadyH.cons (o := { dst := some 17, op := .call { callee := .value (.func 72), args := #[.tmp 16], argTypes := #[3] }, type := 9, pos := "wal.go:162", after := #[zD 11, zC 5], guard := none }) rfl (fun K hK => ?_) AllReadyH.nil)
  go_simp
  refine (IT2.out _ HB2.out).mono ?_
  rintro e w3 ⟨rfl, hb3⟩
  have HB3 := hidd (HB2.out.trans (hb3.mono HB2.out.size))
  have HR3 := hidd ((HB3.out.block g1 hgs).trans HR1.out)
  obtain ⟨vc, w4, hcp, hwr⟩ := run_copy_name w3 g1 T3 HR3.out _ HTX.out
  have HCP := hidd hcp
  have HWR := hidd hwr
  go_wp2_with fail
  refine hK.out _ _ ⟨(hb3.cell (p := ⟨q, 1, none⟩) (Nat.lt_of_lt_of_le hqs HB2.out.size)).trans hHeld.1, (hb3.cell (p := ⟨q, 2, none⟩) (Nat.lt_of_lt_of_le hqs HB2.out.size)).trans hHeld.2⟩ (fun hHeld => ?_)
  clear hK K
  try simp only [Act.put, pS1, pS2, pS3]
  refine zW 13 (.string T3) rfl (Or.inl ⟨by rfl, by intro W hSw; go_simp; first | done | (rw [HT3.out, if_neg (by omega)])⟩) hHeld ?_
  try simp only [Act.put, pS1, pS2, pS3]
  refine wpAnyH_ready (rs := [14]) (by kernel_rfl) (by simp) ?_
  refine (AllReadyH.cons (o := { dst := some 19, op := .call { callee := .builtin Builtin.copy, args := #[.tmp 5, .tmp 18], argTypes := #[34, 9] }, type := 3, pos := "wal.go:162", after := #[zD 0, zD 13, zC 12], guard := none }) rfl (fun K hK => ?_) AllReadyH.nil)
  refine step_copy_run9 rfl (.tmp 5) (.tmp 18) 34 9 rfl _ _ _ w4 rfl rfl HCP.out ?_
  refine hK.out _ _ ⟨(World.cell?_of_block (a := ⟨q, 1, none⟩) (HWR.out.other q (by omega))).trans hHeld.1, (World.cell?_of_block (a := ⟨q, 2, none⟩) (HWR.out.other q (by omega))).trans hHeld.2⟩ (fun hHeld => ?_)
  clear hK K
  try simp only [Act.put, pS1, pS2, pS3]
  refine wpAnyH_done (by kernel_rfl) ?_ _
  clear hHeld
  go_wp2
  go_ret
  exact ⟨g1, rfl, hg1, HWR.out.row, HWR.out.below _ _ (HB1.out.trans (HB3.out.mono HB1.out.size)) hg1⟩
set_option maxHeartbeats 1000000 in
theorem bNonZero (w : World) : Calls Tryz.prog 71 #[.int .u8 0] w fun e w' => e = .returned (.bool false) ∧ w' = w := by
  go_enter Tryz.func71, Tryz.ntmps71
  go_wp2
  go_ret
  exact ⟨rfl, rfl⟩
set_option maxHeartbeats 2000000 in
theorem bIndexNone (a : Option Addr) (len cap : Nat) (l : List UInt8) (w : World) (hR : Reads w a len cap l) (hl : len ≤ 1000000) (hz : ∀ i, i < len → l[i]? = some 0) :
    Calls Tryz.prog 91 #[.slice a len cap, .func (.func 71) #[] #[]] w fun e w' => e = .returned (.int .i64 (-1)) ∧ w' = w := by
  have HR := hidd hR
  have HZ := hidd hz
  have hmx : len ≤ 9223372036854775807 := by omega
  clear hR hz
  go_enter Tryz.func91, Tryz.ntmps91
  go_wp2
  go_loop [5, 8] (fun x i => ∃ k : Nat, k ≤ len ∧ i = .int .i64 k) (fun _ i => len - (intOf i).toNat)
  case atStart => exact ⟨0, by omega, rfl⟩
  case round =>
    obtain ⟨k, hk, rfl⟩ := hrel
    by_cases hlt : k < len
    · obtain ⟨b, off, x, rfl, hc, hx⟩ := HR.out.byte k hlt
      have hx0 : x = 0 := by rw [HZ.out k hlt] at hx; exact (Option.some.inj hx).symm
      subst hx0
      have hc0 : w.cell? ⟨b, off + k, none⟩ = some (.int .u8 0) := hc
      have hd : decide ((k : Int) < (len : Int)) = true := by rw [decide_eq_true_eq]; omega
      have hw1 := wrap_int ((k : Int) + 1) (by omega) (by omega)
      have NZ := hidd (bNonZero w)
      clear hx hc
      go_wp2_with fail
      refine NZ.out.mono ?_
      rintro e w1 ⟨rfl, rfl⟩
      clear NZ
      go_wp2
      go_round
      case rel => exact ⟨k + 1, by omega, by go_num⟩
      case measure => simp [intOf]; omega
    · obtain rfl : len = k := by omega
      have hd : decide ((len : Int) < (len : Int)) = false := by rw [decide_eq_false_iff_not]; omega
      go_wp2
      go_ret
      exact ⟨rfl, rfl⟩
set_option maxHeartbeats 1000000 in
theorem bContainsNone (a : Option Addr) (len cap : Nat) (l : List UInt8) (w : World) (hR : Reads w a len cap l) (hl : len ≤ 1000000) (hz : ∀ i, i < len → l[i]? = some 0) :
    Calls Tryz.prog 70 #[.slice a len cap, .func (.func 71) #[] #[]] w fun e w' => e = .returned (.bool false) ∧ w' = w := by
  have IX := hidd (bIndexNone a len cap l w hR hl hz)
  clear hR hz
  go_enter Tryz.func70, Tryz.ntmps70
  go_wp2_with fail
  refine IX.out.mono ?_
  rintro e w1 ⟨rfl, rfl⟩
  clear IX
  go_wp2
  go_ret
  exact ⟨rfl, rfl⟩
theorem row_byte {w : World} {g : Nat} {l : List UInt8} (h : w.heap[g]? = some (.cells (cellsOf l).toArray 5 (0, 0))) (k : Nat) (x : UInt8) (hx : l[k]? = some x) : w.cell? ⟨g, k, none⟩ = some (.int .u8 ((x.toNat : Nat) : Int)) := by
  rw [cell_of_row w g k _ 5 (0, 0) h]
  simp [cellsOf, hx]
theorem NewP.rest {f r : Nat} {P : List UInt8} (H : NewP f r P) (k : Nat) (hk : k = 30 ∨ P[k]? ≠ (nameB f r)[k - 1]?) (h1 : 1 ≤ k) (h30 : k ≤ 30) : ∀ i, k ≤ i → i < r → P[i]? = some 0 := by
  obtain ⟨k0, h2, h3, h4⟩ := H.name
  intro i hi hir
  refine h4 i ?_ hir
  rcases hk with rfl | hk
  · omega
  · by_cases h5 : k - 1 < k0
    · have := h3 (k - 1) h5
      rw [show 1 + (k - 1) = k by omega] at this
      exact absurd this hk
    · omega
def NewB (f r : Nat) (P : List UInt8) (b : Bool) : Prop := (NewP f r P ∧ b = true) ∨ (∃ x : UInt8, P[0]? = some x ∧ x ≠ 0 ∧ b = false)
set_option maxHeartbeats 8000000 in
theorem bIsNew (w : World) (q p f r : Nat) (V : VW) (T : Nat → Prop) (h : WM w q p f r V T) (hf : f ≤ 1000000) (hr : 64 ≤ r ∧ r ≤ 1000000) (tb : TabW w) (a : Option Addr) (cap : Nat) (P : List UInt8) (hR : Reads w a r cap P) (b : Bool) (hN : NewB f r P b) :
    Calls Tryz.prog 44 #[ptr q, .slice a r cap] w fun e w' => e = .returned (.bool b) ∧ Below w.heap.size w w' := by
  have NM := hidd (bName w q p f r V T h hf hr.2 tb)
  have HR := hidd hR
  have HN := hidd hN
  have hcap := hR.2.1
  obtain ⟨hr1, hr2⟩ := hr
  have hmx : r ≤ 9223372036854775807 := by omega
  have hnl := nameB_length f r
  clear h tb hR hN
  unfold ptr
  unfold ptr at NM
  go_enter Tryz.func44, Tryz.ntmps44
  go_wp2_with fail
  refine NM.out.mono ?_
  rintro e w1 ⟨g, rfl, hg, hrow, hb1⟩
  have HROW := hidd hrow
  have HB1 := hidd hb1
  have hgl : g < w1.heap.size := heap_lt hrow
  clear NM hrow hb1
  go_wp2
  go_loopw [6] (fun n wr => ∃ k : Nat, 1 ≤ k ∧ k ≤ 30 ∧ n = .int .i64 k ∧ Hid (Below w1.heap.size w1 wr)) (fun n _ => 30 - (intOf n).toNat)
  case atStart => exact ⟨1, by omega, by omega, rfl, Below.refl _ _⟩
  case round =>
    obtain ⟨k, h1k, hk30, rfl, HBW⟩ := hrel
    have hb0w : Below w.heap.size w wr := HB1.out.trans (HBW.out.mono HB1.out.size)
    have HBA := hidd hb0w
    have HRr := hidd (HR.out.below hb0w)
    clear hb0w
    obtain ⟨bb, off, x, ea, hc, hx⟩ := HRr.out.byte (if k < r then k else 0) (by split <;> omega)
    rw [if_pos (by omega)] at hc hx
    subst ea
    have HCX := hidd hc
    have HX := hidd hx
    clear hc hx
    by_cases hlt : k ≤ 29
    · have hgx : (nameB f r)[k - 1]? = some ((nameB f r)[k - 1]'(by omega)) := List.getElem?_eq_getElem _
      obtain ⟨y, Hy⟩ : ∃ y : UInt8, Hid (y = (nameB f r)[k - 1]'(by omega)) := ⟨_, hidd rfl⟩
      rw [← Hy.out] at hgx
      have HGX := hidd hgx
      have HCY := hidd (row_byte ((HBW.out.block g hgl).trans HROW.out) (k - 1) y hgx)
      have HXY : Hid (decide ((((x.toNat : Nat) : Int)) = ((y.toNat : Nat) : Int)) = decide (x = y)) := by
        show _ = _
        by_cases e : x = y
        · subst e; simp
        · have : ¬ (((x.toNat : Nat) : Int)) = ((y.toNat : Nat) : Int) := fun e2 => e (UInt8.toNat_inj.1 (by omega))
          rw [decide_eq_false this, decide_eq_false e]
      obtain ⟨xn, HXN⟩ : ∃ xn : Int, Hid (xn = ((x.toNat : Nat) : Int)) := ⟨_, hidd rfl⟩
      obtain ⟨yn, HYN⟩ : ∃ yn : Int, Hid (yn = ((y.toNat : Nat) : Int)) := ⟨_, hidd rfl⟩
      rw [← HXN.out] at HCX HXY
      rw [← HYN.out] at HCY HXY
      have hd : decide ((k : Int) ≤ 29) = true := by rw [decide_eq_true_eq]; omega
      have wk := wrap_int (((k - 1 : Nat) : Int)) (by omega) (by omega)
      have wk1 := wrap_int ((k : Int) + 1) (by omega) (by omega)
      have hk1 : ((k : Int) - 1) = ((k - 1 : Nat) : Int) := by omega
      have hkr : k < r := by omega
      clear hgx Hy HXN HYN
      by_cases e : x = y
      · have hbe : (xn == yn) = true := by
          have := HXY.out
          rw [decide_eq_true e, decide_eq_true_eq] at this
          rw [this]; simp
        clear HXY HGX
        go_wp2
        refine wp_region_held_drew (S := (fun W => W.cell? ⟨bb, off + k, none⟩ = some (.int .u8 xn) ∧ W.cell? ⟨g, k - 1, none⟩ = some (.int .u8 yn))) (by kernel_rfl) ⟨HCX.out, HCY.out⟩ (fun hHeld => ?_)
        refine zX 0 (.int .i64 (k : Int)) rfl hHeld ?_
        try simp only [Act.put, pS1, pS2, pS3]
        refine zX 1 (.slice (some ⟨g, 0, none⟩) 29 29) rfl hHeld ?_
        try simp only [Act.put, pS1, pS2, pS3]
        refine zX 2 (.int .i64 29) rfl hHeld ?_
        try simp only [Act.put, pS1, pS2, pS3]
        refine zX 3 (.bool true) rfl hHeld ?_
        try simp only [Act.put, pS1, pS2, pS3]
        refine zX 4 (.bool true) rfl hHeld ?_
        try simp only [Act.put, pS1, pS2, pS3]
        refine zX 5 (.slice (some ⟨bb, off, none⟩) r cap) rfl hHeld ?_
        try simp only [Act.put, pS1, pS2, pS3]
        refine zX 6 (.int .i64 (k : Int)) rfl hHeld ?_
        try simp only [Act.put, pS1, pS2, pS3]
        refine zX 7 (.pointer (some ⟨bb, off + k, none⟩)) rfl hHeld ?_
        try simp only [Act.put, pS1, pS2, pS3]
        refine zW 8 (.int .u8 xn) rfl (Or.inl ⟨by rfl, by intro W hSw; have h1 := hSw.1; go_simp⟩) hHeld ?_
        try simp only [Act.put, pS1, pS2, pS3]
        refine zX 9 (.slice (some ⟨g, 0, none⟩) 29 29) rfl hHeld ?_
        try simp only [Act.put, pS1, pS2, pS3]
        refine zX 10 (.int .i64 (k : Int)) rfl hHeld ?_
        try simp only [Act.put, pS1, pS2, pS3]
        refine zX 11 (.int .i64 ((k - 1 : Nat) : Int)) rfl hHeld ?_
        try simp only [Act.put, pS1, pS2, pS3]
        refine zW 12 (.pointer (some ⟨g, k - 1, none⟩)) rfl (Or.inl ⟨by rfl, by intro W hSw; go_simp; try omega⟩) hHeld ?_
        try simp only [Act.put, pS1, pS2, pS3]
        refine zW 13 (.int .u8 yn) rfl (Or.inl ⟨by rfl, by intro W hSw; have h1 := hSw.2; go_simp⟩) hHeld ?_
        try simp only [Act.put, pS1, pS2, pS3]
        refine zX 14 (.bool true) rfl hHeld ?_
        try simp only [Act.put, pS1, pS2, pS3]
        refine zX 15 (.bool true) rfl hHeld ?_
        try simp only [Act.put, pS1, pS2, pS3]
        refine wpAnyH_done (by kernel_rfl) ?_ _
        clear hHeld
        go_wp2
        go_roundw
        case rel => exact ⟨k + 1, by omega, by omega, by go_num, HBW.out.drew⟩
        case measure => simp [intOf]; omega
      · have hbe : (xn == yn) = false := by
          have := HXY.out
          rw [decide_eq_false e, decide_eq_false_iff_not] at this
          rw [beq_eq_false_iff_ne]; exact this
        have HNE : Hid (P[k]? ≠ (nameB f r)[k - 1]?) := by
          intro e2
          rw [HX.out, HGX.out] at e2
          exact e (Option.some.inj e2)
        clear HXY
        go_wp2
        refine wp_region_held_drew (S := (fun W => W.cell? ⟨bb, off + k, none⟩ = some (.int .u8 xn) ∧ W.cell? ⟨g, k - 1, none⟩ = some (.int .u8 yn))) (by kernel_rfl) ⟨HCX.out, HCY.out⟩ (fun hHeld => ?_)
        refine zX 0 (.int .i64 (k : Int)) rfl hHeld ?_
        try simp only [Act.put, pS1, pS2, pS3]
        refine zX 1 (.slice (some ⟨g, 0, none⟩) 29 29) rfl hHeld ?_
        try simp only [Act.put, pS1, pS2, pS3]
        refine zX 2 (.int .i64 29) rfl hHeld ?_
        try simp only [Act.put, pS1, pS2, pS3]
        refine zX 3 (.bool true) rfl hHeld ?_
        try simp only [Act.put, pS1, pS2, pS3]
        refine zX 4 (.bool true) rfl hHeld ?_
        try simp only [Act.put, pS1, pS2, pS3]
        refine zX 5 (.slice (some ⟨bb, off, none⟩) r cap) rfl hHeld ?_
        try simp only [Act.put, pS1, pS2, pS3]
        refine zX 6 (.int .i64 (k : Int)) rfl hHeld ?_
        try simp only [Act.put, pS1, pS2, pS3]
        refine zX 7 (.pointer (some ⟨bb, off + k, none⟩)) rfl hHeld ?_
        try simp only [Act.put, pS1, pS2, pS3]
        refine zW 8 (.int .u8 xn) rfl (Or.inl ⟨by rfl, by intro W hSw; have h1 := hSw.1; go_simp⟩) hHeld ?_
        try simp only [Act.put, pS1, pS2, pS3]
        refine zX 9 (.slice (some ⟨g, 0, none⟩) 29 29) rfl hHeld ?_
        try simp only [Act.put, pS1, pS2, pS3]
        refine zX 10 (.int .i64 (k : Int)) rfl hHeld ?_
        try simp only [Act.put, pS1, pS2, pS3]
        refine zX 11 (.int .i64 ((k - 1 : Nat) : Int)) rfl hHeld ?_
        try simp only [Act.put, pS1, pS2, pS3]
        refine zW 12 (.pointer (some ⟨g, k - 1, none⟩)) rfl (Or.inl ⟨by rfl, by intro W hSw; go_simp; try omega⟩) hHeld ?_
        try simp only [Act.put, pS1, pS2, pS3]
        refine zW 13 (.int .u8 yn) rfl (Or.inl ⟨by rfl, by intro W hSw; have h1 := hSw.2; go_simp⟩) hHeld ?_
        try simp only [Act.put, pS1, pS2, pS3]
        refine zX 14 (.bool false) rfl hHeld ?_
        try simp only [Act.put, pS1, pS2, pS3]
        refine zX 15 (.bool false) rfl hHeld ?_
        try simp only [Act.put, pS1, pS2, pS3]
        refine wpAnyH_done (by kernel_rfl) ?_ _
        clear hHeld
        obtain ⟨b0, off0, x0, e0, hc0, hx0⟩ := HRr.out.byte 0 (by omega)
        cases e0
        rw [Nat.add_zero] at hc0
        have HBF := hidd (HBA.out.drew)
        clear HCX HX
        rcases HN.out with ⟨hnew, rfl⟩ | ⟨x1, h1, h2, rfl⟩
        · have hx00 : x0 = 0 := by rw [hnew.mark] at hx0; exact (Option.some.inj hx0).symm
          subst hx00
          have hc00 : wr.cell? ⟨bb, off, none⟩ = some (.int .u8 0) := hc0
          have CN := hidd (bContainsNone (subA (some ⟨bb, off, none⟩) cap k) (r - k) (cap - k) (P.drop k) wr.drew ((HRr.out.rest k (by omega)).drew) (by omega) (fun i hi => by rw [List.getElem?_drop]; exact hnew.rest k (.inr HNE.out) (by omega) (by omega) (k + i) (by omega) (by omega)))
          have SL : Hid (∀ W, (Instr.sliceAt 34 (.slice (some ⟨bb, off, none⟩) r cap) (some (.int .i64 (k : Nat))) none none).run Tryz.prog W = .ok (.slice (subA (some ⟨bb, off, none⟩) cap k) (r - k) (cap - k)) W) := fun W => slice_back W _ r cap k (by omega) hcap
          obtain ⟨a9, A9⟩ : ∃ z, Hid (z = subA (some ⟨bb, off, none⟩) cap k) := ⟨_, hidd rfl⟩
          obtain ⟨m9, M9⟩ : ∃ z, Hid (z = r - k) := ⟨_, hidd rfl⟩
          obtain ⟨c9, C9⟩ : ∃ z, Hid (z = cap - k) := ⟨_, hidd rfl⟩
          rw [← A9.out, ← M9.out, ← C9.out] at CN SL
          have SLo := SL.out
          clear hc0 hx0 A9 M9 C9 HRr hnew
          go_wp2_with fail
          refine CN.out.mono ?_
          rintro e w9 ⟨rfl, rfl⟩
          clear CN SL SLo
          go_wp2
          go_ret
          exact ⟨rfl, HBF.out⟩
        · have hx00 : x0 = x1 := by rw [h1] at hx0; exact (Option.some.inj hx0).symm
          subst hx00
          have hne0 : (((x0.toNat : Nat) : Int) == 0) = false := by
            rw [beq_eq_false_iff_ne]
            intro e2
            exact h2 (UInt8.toNat_inj.1 (by show x0.toNat = 0; omega))
          clear hx0 h1 HRr
          go_wp2
          go_ret
          exact ⟨rfl, HBF.out⟩
    · obtain rfl : k = 30 := by omega
      have HNE : Hid (30 = 30 ∨ P[30]? ≠ (nameB f r)[30 - 1]?) := .inl rfl
      have hd : decide ((30 : Int) ≤ 29) = false := by decide
      go_wp2
      refine wp_region_held_drew (S := (fun _ => True)) (by kernel_rfl) trivial (fun hHeld => ?_)
      refine zX 0 (.int .i64 30) rfl hHeld ?_
      try simp only [Act.put, pS1, pS2, pS3]
      refine zX 1 (.slice (some ⟨g, 0, none⟩) 29 29) rfl hHeld ?_
      try simp only [Act.put, pS1, pS2, pS3]
      refine zX 2 (.int .i64 29) rfl hHeld ?_
      try simp only [Act.put, pS1, pS2, pS3]
      refine zX 3 (.bool false) rfl hHeld ?_
      try simp only [Act.put, pS1, pS2, pS3]
      refine zX 4 (.bool false) rfl hHeld ?_
      try simp only [Act.put, pS1, pS2, pS3]
      refine zW 5 (undef) rfl (Or.inr ⟨by rfl, rfl⟩) hHeld ?_
      try simp only [Act.put, pS1, pS2, pS3]
      refine zW 6 (undef) rfl (Or.inr ⟨by rfl, rfl⟩) hHeld ?_
      try simp only [Act.put, pS1, pS2, pS3]
      refine zW 7 (undef) rfl (Or.inr ⟨by rfl, rfl⟩) hHeld ?_
      try simp only [Act.put, pS1, pS2, pS3]
      refine zW 8 (undef) rfl (Or.inr ⟨by rfl, rfl⟩) hHeld ?_
      try simp only [Act.put, pS1, pS2, pS3]
      refine zW 9 (undef) rfl (Or.inr ⟨by rfl, rfl⟩) hHeld ?_
      try simp only [Act.put, pS1, pS2, pS3]
      refine zW 10 (undef) rfl (Or.inr ⟨by rfl, rfl⟩) hHeld ?_
      try simp only [Act.put, pS1, pS2, pS3]
      refine zW 11 (undef) rfl (Or.inr ⟨by rfl, rfl⟩) hHeld ?_
      try simp only [Act.put, pS1, pS2, pS3]
      refine zW 12 (undef) rfl (Or.inr ⟨by rfl, rfl⟩) hHeld ?_
      try simp only [Act.put, pS1, pS2, pS3]
      refine zW 13 (undef) rfl (Or.inr ⟨by rfl, rfl⟩) hHeld ?_
      try simp only [Act.put, pS1, pS2, pS3]
      refine zW 14 (undef) rfl (Or.inr ⟨by rfl, rfl⟩) hHeld ?_
      try simp only [Act.put, pS1, pS2, pS3]
      refine zX 15 (.bool false) rfl hHeld ?_
      try simp only [Act.put, pS1, pS2, pS3]
      refine wpAnyH_done (by kernel_rfl) ?_ _
      clear hHeld
      obtain ⟨b0, off0, x0, e0, hc0, hx0⟩ := HRr.out.byte 0 (by omega)
      cases e0
      rw [Nat.add_zero] at hc0
      have HBF := hidd (HBA.out.drew)
      clear HCX HX
      rcases HN.out with ⟨hnew, rfl⟩ | ⟨x1, h1, h2, rfl⟩
      · have hx00 : x0 = 0 := by rw [hnew.mark] at hx0; exact (Option.some.inj hx0).symm
        subst hx00
        have hc00 : wr.cell? ⟨bb, off, none⟩ = some (.int .u8 0) := hc0
        have CN := hidd (bContainsNone (subA (some ⟨bb, off, none⟩) cap 30) (r - 30) (cap - 30) (P.drop 30) wr.drew ((HRr.out.rest 30 (by omega)).drew) (by omega) (fun i hi => by rw [List.getElem?_drop]; exact hnew.rest 30 (.inl rfl) (by omega) (by omega) (30 + i) (by omega) (by omega)))
        have SL : Hid (∀ W, (Instr.sliceAt 34 (.slice (some ⟨bb, off, none⟩) r cap) (some (.int .i64 (30 : Nat))) none none).run Tryz.prog W = .ok (.slice (subA (some ⟨bb, off, none⟩) cap 30) (r - 30) (cap - 30)) W) := fun W => slice_back W _ r cap 30 (by omega) hcap
        obtain ⟨a9, A9⟩ : ∃ z, Hid (z = subA (some ⟨bb, off, none⟩) cap 30) := ⟨_, hidd rfl⟩
        obtain ⟨m9, M9⟩ : ∃ z, Hid (z = r - 30) := ⟨_, hidd rfl⟩
        obtain ⟨c9, C9⟩ : ∃ z, Hid (z = cap - 30) := ⟨_, hidd rfl⟩
        rw [← A9.out, ← M9.out, ← C9.out] at CN SL
        have SLo := SL.out
        clear hc0 hx0 A9 M9 C9 HRr hnew
        simp only [Int.cast_ofNat_Int] at SLo
        go_wp2_with fail
        refine CN.out.mono ?_
        rintro e w9 ⟨rfl, rfl⟩
        clear CN SL SLo
        go_wp2
        go_ret
        exact ⟨rfl, HBF.out⟩
      · have hx00 : x0 = x1 := by rw [h1] at hx0; exact (Option.some.inj hx0).symm
        subst hx00
        have hne0 : (((x0.toNat : Nat) : Int) == 0) = false := by
          rw [beq_eq_false_iff_ne]
          intro e2
          exact h2 (UInt8.toNat_inj.1 (by show x0.toNat = 0; omega))
        clear hx0 h1 HRr
        go_wp2
        go_ret
        exact ⟨rfl, HBF.out⟩
set_option maxHeartbeats 1000000 in
theorem bEqual (a a' : Option Addr) (n n' cap cap' : Nat) (l : List UInt8) (w : World) (h1 : Reads w a n cap l) (h2 : Reads w a' n' cap' l) :
    Calls Tryz.prog 60 #[.slice a n cap, .slice a' n' cap'] w fun e w' => e = .returned (.bool true) ∧ w' = w := by
  have c1 := conv_reads h1
  have c2 := conv_reads h2
  obtain ⟨s, Hs⟩ : ∃ s : ByteArray, Hid (s = ⟨l.toArray⟩) := ⟨_, hidd rfl⟩
  rw [← Hs.out] at c1 c2
  clear h1 h2 Hs
  go_enter Tryz.func60, Tryz.ntmps60
  go_wp2
  go_ret
  exact ⟨rfl, rfl⟩
theorem row_reads {w : World} {g : Nat} {l : List UInt8} {n : Nat} (hl : l.length = n) (hn : n ≤ 1000000) (h : w.heap[g]? = some (.cells (cellsOf l).toArray 5 (0, 0))) : Reads w (some ⟨g, 0, none⟩) n n l := by
  refine ⟨hl, Nat.le_refl _, by omega, .inr (.inr ⟨g, 0, rfl, heap_lt h, fun i hi => ?_⟩)⟩
  rw [Nat.zero_add]
  exact row_byte h i _ (List.getElem?_eq_getElem hi)
theorem part_name {f r h : Nat} {bs : List (List ByteArray)} {P : List UInt8} (H : LaidP f r h bs P) (hr : 64 ≤ r) : (P.drop 1).take (30 - 1) = nameB f r := by
  have hn := nameB_length f r
  have hl := H.len
  apply List.ext_getElem?
  intro i
  by_cases hi : i < 29
  · rw [List.getElem?_take_of_lt hi, List.getElem?_drop, H.name i hi]
  · rw [List.getElem?_eq_none (by rw [List.length_take]; omega), List.getElem?_eq_none (by omega)]
set_option maxHeartbeats 4000000 in
theorem bInForce (w : World) (q p f r : Nat) (V : VW) (T : Nat → Prop) (hM : WM w q p f r V T) (hf : f ≤ 1000000) (hr : 64 ≤ r ∧ r ≤ 1000000) (tb : TabW w) (a : Option Addr) (cap : Nat) (P : List UInt8) (hR : Reads w a r cap P) (h : Nat) (bs : List (List ByteArray)) (hL : LaidP f r h bs P) :
    Calls Tryz.prog 47 #[ptr q, .slice a r cap] w fun e w' => e = .returned (.int .i64 h) ∧ Below w.heap.size w w' := by
  have NM := hidd (bName w.drew q p f r V T hM.drew hf hr.2 (tb.on (Below.refl _ _).drew))
  obtain ⟨b, off, x, ea, hc, hx⟩ := hR.byte 0 (by omega)
  have hh := hL.half
  have hcap := hR.2.1
  have hx1 : x = UInt8.ofNat (h + 1) := by rw [hL.mark] at hx; exact (Option.some.inj hx).symm
  have hxn : x.toNat = h + 1 := by rw [hx1, UInt8.toNat_ofNat']; omega
  rw [hxn, Nat.add_zero] at hc
  have hP := hR.part 1 30 (by omega) (by omega)
  rw [part_name hL hr.1] at hP
  subst ea
  have SL : Hid (∀ W, (Instr.sliceAt 34 (.slice (some ⟨b, off, none⟩) r cap) (some (.int .i64 1)) (some (.int .i64 30)) none).run Tryz.prog W = .ok (.slice (subA (some ⟨b, off, none⟩) cap 1) 29 (cap - 1)) W) := fun W => slice_mid W _ r cap 1 30 (by omega) (by omega)
  obtain ⟨a1, A1⟩ : ∃ z, Hid (z = subA (some ⟨b, off, none⟩) cap 1) := ⟨_, hidd rfl⟩
  obtain ⟨c1, C1⟩ : ∃ z, Hid (z = cap - 1) := ⟨_, hidd rfl⟩
  rw [← A1.out, ← C1.out] at SL hP
  have HP := hidd hP
  have hnl := nameB_length f r
  have hr0 : 0 < r := by omega
  obtain ⟨z, Hz⟩ : ∃ z : Int, Hid (z = ((h + 1 : Nat) : Int)) := ⟨_, hidd rfl⟩
  have hz1 : z - 1 = (h : Int) := by rw [Hz.out]; omega
  have hz2 : 0 ≤ z ∧ z ≤ 2 := by rw [Hz.out]; omega
  rw [← Hz.out] at hc
  have wz := wrap_int z (by omega) (by omega)
  have wz1 := wrap_int (z - 1) (by omega) (by omega)
  have wh := wrap_int (h : Int) (by omega) (by omega)
  have hd1 : decide ((h : Int) < 0) = false := by rw [decide_eq_false_iff_not]; omega
  have hd2 : decide ((1 : Int) < (h : Int)) = false := by rw [decide_eq_false_iff_not]; omega
  clear hM tb hR hL hx hx1 hxn hP A1 C1 Hz
  unfold ptr
  unfold ptr at NM
  go_enter Tryz.func47, Tryz.ntmps47
  go_wp2
  refine wp_region_held_drew (S := (fun _ => True)) (by kernel_rfl) trivial (fun hHeld => ?_)
  refine zX 0 (.int .i64 (h : Int)) rfl hHeld ?_
  try simp only [Act.put, pS1, pS2, pS3]
  refine zX 1 (.bool false) rfl hHeld ?_
  try simp only [Act.put, pS1, pS2, pS3]
  refine zX 2 (.bool false) rfl hHeld ?_
  try simp only [Act.put, pS1, pS2, pS3]
  refine zX 3 (.int .i64 (h : Int)) rfl hHeld ?_
  try simp only [Act.put, pS1, pS2, pS3]
  refine zX 4 (.bool false) rfl hHeld ?_
  try simp only [Act.put, pS1, pS2, pS3]
  refine zX 5 (.bool false) rfl hHeld ?_
  try simp only [Act.put, pS1, pS2, pS3]
  refine zX 6 (.bool false) rfl hHeld ?_
  try simp only [Act.put, pS1, pS2, pS3]
  refine zX 7 (.slice (some ⟨b, off, none⟩) r cap) rfl hHeld ?_
  try simp only [Act.put, pS1, pS2, pS3]
  refine zW 8 (.slice a1 29 c1) rfl (Or.inl ⟨by rfl, by intro W hSw; have h1 := SL.out W; go_simp⟩) hHeld ?_
  try simp only [Act.put, pS1, pS2, pS3]
  refine zX 9 (.pointer (some ⟨q, 0, none⟩)) rfl hHeld ?_
  try simp only [Act.put, pS1, pS2, pS3]
  refine wpAnyH_ready (rs := [10]) (by kernel_rfl) (by simp) ?_
  refine (AllReadyH.cons (o := { dst := some 21, op := .call { callee := .value (.func 45), args := #[.tmp 20], argTypes := #[30] }, type := 34, pos := "wal.go:153", after := #[zD 9, zC 6, zG 6], guard := some (6, false) }) rfl (fun K hK => ?_) AllReadyH.nil)
  go_simp
  refine NM.out.mono ?_
  rintro e w2 ⟨g, rfl, hg, hrow, hb2⟩
  have HB2 := hidd ((Below.refl w.heap.size w).drew.trans hb2)
  have EQ := hidd (bEqual a1 (some ⟨g, 0, none⟩) 29 29 c1 29 (nameB f r) w2 (HP.out.below HB2.out) (row_reads hnl (by omega) hrow))
  go_wp2_with fail
  refine hK.out _ _ trivial (fun hHeld => ?_)
  clear hK K
  try simp only [Act.put, pS1, pS2, pS3]
  refine wpAnyH_ready (rs := [11]) (by kernel_rfl) (by simp) ?_
  refine (AllReadyH.cons (o := { dst := some 22, op := .call { callee := .value (.func 60), args := #[.tmp 19, .tmp 21], argTypes := #[34, 34] }, type := 4, pos := "wal.go:153", after := #[zD 8, zD 10, zC 10, zG 6], guard := some (6, false) }) rfl (fun K hK => ?_) AllReadyH.nil)
  go_simp
  refine EQ.out.mono ?_
  rintro e w3 ⟨rfl, rfl⟩
  go_wp2_with fail
  refine hK.out _ _ trivial (fun hHeld => ?_)
  clear hK K
  try simp only [Act.put, pS1, pS2, pS3]
  refine zX 12 (.bool false) rfl hHeld ?_
  try simp only [Act.put, pS1, pS2, pS3]
  refine zX 13 (.bool false) rfl hHeld ?_
  try simp only [Act.put, pS1, pS2, pS3]
  refine wpAnyH_done (by kernel_rfl) ?_ _
  clear hHeld
  go_wp2
  go_ret
  exact ⟨rfl, HB2.out⟩
set_option maxHeartbeats 2000000 in
theorem bEnforceOk (w : World) (q p f r : Nat) (V : VW) (T : Nat → Prop) (D : DkT) (S : Nat → Prop) (h : WM w q p f r V T) (hA : OAt w p D S) (hp : D.puts.length ≤ 1000000) (hf : f ≤ 1000000) (hh : Nat) (h2 : hh < 2) (hE : writeE D (f : Int) [UInt8.ofNat (hh + 1)] = 0) :
    Calls Tryz.prog 46 #[ptr q, .int .i64 hh] w fun e w' => e = .returned (.tuple #[]) ∧ (∃ S', OAt w' p (markD f hh D) S' ∧ ∀ b, S' b → S b ∨ w.heap.size ≤ b) ∧ Away S w w' := by
  have hx : (UInt8.ofNat (hh + 1)).toNat = hh + 1 := by rw [UInt8.toNat_ofNat']; omega
  obtain ⟨c0, c1, c2, c3, c4, c5⟩ := h.c
  have hAw : Below w.heap.size w (w.alloc (.cells #[.int .u8 ((hh : Int) + 1)] 5)) := (Below.refl _ _).alloc (Nat.le_refl _) _
  have hrow := heap_alloc_new w (.cells #[.int .u8 ((hh : Int) + 1)] 5)
  have hRd : Reads (w.alloc (.cells #[.int .u8 ((hh : Int) + 1)] 5)) (some ⟨w.heap.size, 0, none⟩) 1 1 [UInt8.ofNat (hh + 1)] := by
    refine row_reads rfl (by omega) ?_
    rw [hrow]
    show some (Obj.cells #[.int .u8 ((hh : Int) + 1)] 5 (0, 0)) = some (Obj.cells #[.int .u8 (((UInt8.ofNat (hh + 1)).toNat : Nat) : Int)] 5 (0, 0))
    rw [hx]
    rfl
  have hA1 : OAt (w.alloc (.cells #[.int .u8 ((hh : Int) + 1)] 5)) p D S := hA.keep hAw.size fun b e => hAw.block b (hA.lt b e)
  have WR := hidd (bWriteOk (w.alloc (.cells #[.int .u8 ((hh : Int) + 1)] 5)) q p f r V T D S (h.below hAw) hA1 hp (f : Int) (by unfold In64; omega) (some ⟨w.heap.size, 0, none⟩) 1 1 [UInt8.ofNat (hh + 1)] hRd (by omega) (fun b off e _ e2 => by cases e; have := hA.lt _ e2; omega) hE)
  have HAW := hidd hAw
  have w1 := wrap_int ((hh : Int) + 1) (by omega) (by omega)
  have w2 : IntKind.u8.wrap ((hh : Int) + 1) = (hh : Int) + 1 := by rw [IntKind.wrap_u8]; omega
  clear h hA c0 c2 c3 c4 c5 hAw hrow hRd hA1
  unfold ptr
  unfold ptr at WR
  rcases (by omega : hh = 0 ∨ hh = 1) with rfl | rfl
  · simp only [Int.cast_ofNat_Int, Int.natCast_zero, Int.zero_add, Int.reduceAdd] at WR HAW
    go_enter Tryz.func46, Tryz.ntmps46
    go_wp2_with fail
    refine WR.out.mono ?_
    rintro e w3 ⟨rfl, ⟨S', k1, k2⟩, k3⟩
    have HF : Hid ((∃ S', OAt w3 p (markD f 0 D) S' ∧ ∀ b, S' b → S b ∨ w.heap.size ≤ b) ∧ Away S w w3) := ⟨⟨S', k1, fun b e => by
      rcases k2 b e with e | e
      · exact .inl e
      · have := HAW.out.size; exact .inr (by omega)⟩, (Away.of_below HAW.out).trans k3 fun b e => .inl e⟩
    clear WR k1 k2 k3
    go_wp2
    go_end0
    exact ⟨rfl, HF.out⟩
  · simp only [Int.cast_ofNat_Int, Int.natCast_zero, Int.zero_add, Int.reduceAdd] at WR HAW
    go_enter Tryz.func46, Tryz.ntmps46
    go_wp2_with fail
    refine WR.out.mono ?_
    rintro e w3 ⟨rfl, ⟨S', k1, k2⟩, k3⟩
    have HF : Hid ((∃ S', OAt w3 p (markD f 1 D) S' ∧ ∀ b, S' b → S b ∨ w.heap.size ≤ b) ∧ Away S w w3) := ⟨⟨S', k1, fun b e => by
      rcases k2 b e with e | e
      · exact .inl e
      · have := HAW.out.size; exact .inr (by omega)⟩, (Away.of_below HAW.out).trans k3 fun b e => .inl e⟩
    clear WR k1 k2 k3
    go_wp2
    go_end0
    exact ⟨rfl, HF.out⟩
set_option maxHeartbeats 2000000 in
theorem bEnforceNo (w : World) (q p f r : Nat) (V : VW) (T : Nat → Prop) (D : DkT) (S : Nat → Prop) (h : WM w q p f r V T) (hA : OAt w p D S) (hp : D.puts.length ≤ 1000000) (hf : f ≤ 1000000) (hh : Nat) (h2 : hh < 2) (hd : D.down = true) :
    Calls Tryz.prog 46 #[ptr q, .int .i64 hh] w fun e w' => e = gaveUp 80 ∧ (∃ S', OAt w' p D S' ∧ ∀ b, S' b → S b ∨ w.heap.size ≤ b) ∧ Away S w w' := by
  have hx : (UInt8.ofNat (hh + 1)).toNat = hh + 1 := by rw [UInt8.toNat_ofNat']; omega
  obtain ⟨c0, c1, c2, c3, c4, c5⟩ := h.c
  have hAw : Below w.heap.size w (w.alloc (.cells #[.int .u8 ((hh : Int) + 1)] 5)) := (Below.refl _ _).alloc (Nat.le_refl _) _
  have hrow := heap_alloc_new w (.cells #[.int .u8 ((hh : Int) + 1)] 5)
  have hRd : Reads (w.alloc (.cells #[.int .u8 ((hh : Int) + 1)] 5)) (some ⟨w.heap.size, 0, none⟩) 1 1 [UInt8.ofNat (hh + 1)] := by
    refine row_reads rfl (by omega) ?_
    rw [hrow]
    show some (Obj.cells #[.int .u8 ((hh : Int) + 1)] 5 (0, 0)) = some (Obj.cells #[.int .u8 (((UInt8.ofNat (hh + 1)).toNat : Nat) : Int)] 5 (0, 0))
    rw [hx]
    rfl
  have hA1 : OAt (w.alloc (.cells #[.int .u8 ((hh : Int) + 1)] 5)) p D S := hA.keep hAw.size fun b e => hAw.block b (hA.lt b e)
  have WR := hidd (bWriteNo (w.alloc (.cells #[.int .u8 ((hh : Int) + 1)] 5)) q p f r V T D S (h.below hAw) hA1 hp hd (f : Int) (by unfold In64; omega) (some ⟨w.heap.size, 0, none⟩) 1 1 [UInt8.ofNat (hh + 1)] hRd (by omega) (fun b off e _ e2 => by cases e; have := hA.lt _ e2; omega))
  have HAW := hidd hAw
  have w1 := wrap_int ((hh : Int) + 1) (by omega) (by omega)
  have w2 : IntKind.u8.wrap ((hh : Int) + 1) = (hh : Int) + 1 := by rw [IntKind.wrap_u8]; omega
  clear h hA c0 c2 c3 c4 c5 hAw hrow hRd hA1
  unfold ptr
  unfold ptr at WR
  rcases (by omega : hh = 0 ∨ hh = 1) with rfl | rfl
  · simp only [Int.cast_ofNat_Int, Int.natCast_zero, Int.zero_add, Int.reduceAdd] at WR HAW
    go_enter Tryz.func46, Tryz.ntmps46
    go_wp2_with fail
    refine WR.out.mono ?_
    rintro e w3 ⟨rfl, ⟨S', k1, k2⟩, k3⟩
    have HF : Hid ((∃ S', OAt w3 p D S' ∧ ∀ b, S' b → S b ∨ w.heap.size ≤ b) ∧ Away S w w3) := ⟨⟨S', k1, fun b e => by
      rcases k2 b e with e | e
      · exact .inl e
      · have := HAW.out.size; exact .inr (by omega)⟩, (Away.of_below HAW.out).trans k3 fun b e => .inl e⟩
    clear WR k1 k2 k3
    exact ⟨rfl, rfl, HF.out⟩
  · simp only [Int.cast_ofNat_Int, Int.natCast_zero, Int.zero_add, Int.reduceAdd] at WR HAW
    go_enter Tryz.func46, Tryz.ntmps46
    go_wp2_with fail
    refine WR.out.mono ?_
    rintro e w3 ⟨rfl, ⟨S', k1, k2⟩, k3⟩
    have HF : Hid ((∃ S', OAt w3 p D S' ∧ ∀ b, S' b → S b ∨ w.heap.size ≤ b) ∧ Away S w w3) := ⟨⟨S', k1, fun b e => by
      rcases k2 b e with e | e
      · exact .inl e
      · have := HAW.out.size; exact .inr (by omega)⟩, (Away.of_below HAW.out).trans k3 fun b e => .inl e⟩
    clear WR k1 k2 k3
    exact ⟨rfl, rfl, HF.out⟩
theorem rd_part {D : DkT} (ok : OkD D) {f r : Nat} (h : f + r ≤ D.safe.length) : rdB D f r = sub (nowB D) f r ∧ rdE D f r = 0 ∧ (rdB D f r).length = r := by
  have hi : inB D.safe.length (f : Int) (r : Int) = true := (inB_iff _ _ _).2 (by omega)
  have e : rdB D f r = sub (nowB D) f r := by unfold rdB sub; rw [if_pos hi, Int.toNat_natCast, Int.toNat_natCast]
  exact ⟨e, by unfold rdE; rw [if_pos hi], by rw [e]; exact sub_length (by rw [nowB_length ok]; exact h)⟩
theorem OAt.below {w w' : World} {p : Nat} {D : DkT} {S : Nat → Prop} (h : OAt w p D S) (hb : Below w.heap.size w w') : OAt w' p D S := h.keep hb.size fun b e => hb.block b (h.lt b e)
theorem WM.set3 {w : World} {q p f r : Nat} {V : VW} {T : Nat → Prop} (h : WM w q p f r V T) (n : Nat) : WM (w.setCell ⟨q, 3, none⟩ (.int .i64 n)) q p f r ⟨n, V.used, V.count⟩ T := ⟨(Go.heap_setCell_same w q 3 _ _ _ h.row).trans rfl, h.mem⟩
theorem WM.set4 {w : World} {q p f r : Nat} {V : VW} {T : Nat → Prop} (h : WM w q p f r V T) (n : Nat) : WM (w.setCell ⟨q, 4, none⟩ (.int .i64 n)) q p f r ⟨V.half, n, V.count⟩ T := ⟨(Go.heap_setCell_same w q 4 _ _ _ h.row).trans rfl, h.mem⟩
theorem WM.set5 {w : World} {q p f r : Nat} {V : VW} {T : Nat → Prop} (h : WM w q p f r V T) (n : Nat) : WM (w.setCell ⟨q, 5, none⟩ (.int .i64 n)) q p f r ⟨V.half, V.used, n⟩ T := ⟨(Go.heap_setCell_same w q 5 _ _ _ h.row).trans rfl, h.mem⟩
theorem away_set (w : World) (q i : Nat) (v : Value) : Away (fun b => b = q) w (w.setCell ⟨q, i, none⟩ v) := by
  have hb : Below 0 w (w.setCell ⟨q, i, none⟩ v) := (Below.refl 0 w).setCell (Nat.zero_le _) v
  exact ⟨hb.os, hb.tape, hb.output, hb.size, fun k hk hn => Below.heap_setCell _ _ _ _ hn⟩
theorem Away.wide {S S' : Nat → Prop} {w w' : World} (h : Away S w w') (hS : ∀ b, S b → S' b) : Away S' w w' := ⟨h.os, h.tape, h.output, h.size, fun k hk hn => h.block k hk fun e => hn (hS k e)⟩
theorem oat_set {w : World} {p q i : Nat} {v : Value} {D : DkT} {S : Nat → Prop} (h : OAt w p D S) (hq : ¬ S q) : OAt (w.setCell ⟨q, i, none⟩ v) p D S :=
  h.keep (away_set w q i v).size fun b e => (away_set w q i v).block b (h.lt b e) (fun e2 => hq (by rw [← e2]; exact e))
set_option maxHeartbeats 8000000 in
theorem bBeginNd (w : World) (tb : TabW w) (q p f r : Nat) (T : Nat → Prop) (D : DkT) (S : Nat → Prop) (hM : WM w q p f r ⟨0, 0, 0⟩ T) (hA : OAt w p D S) (hp : D.puts.length ≤ 500000) (hTS : ¬ S q) (hr : 64 ≤ r ∧ r ≤ 1000000) (hf : f + r ≤ D.safe.length) (hN : NewP f r (sub (nowB D) f r)) (hd : D.down = true) :
    Calls Tryz.prog 20 #[ptr q] w fun e w' => e = gaveUp 80 ∧ (∃ S', OAt w' p D S' ∧ (∀ b, S' b → S b ∨ w.heap.size ≤ b)) ∧ Away S w w' := by
  have ok := hA.ok
  have hrm := ok.room
  obtain ⟨hrb, hre, hrl⟩ := rd_part ok hf
  obtain ⟨hr1, hr2⟩ := hr
  have hlim := limN_room hr1
  have hf6 : f ≤ 1000000 := by omega
  have RD := hidd (diskC.read w.drew p D S (hA.below (Below.refl _ _).drew) (f : Int) (r : Int) (by unfold In64; omega) (by unfold In64; omega))
  rw [hrl, hre] at RD
  have HRB := hidd hrb
  have HA := hidd hA
  have HM := hidd hM
  have HTB := hidd tb
  have HTS := hidd hTS
  have HOK := hidd ok
  have HHF := hidd hf
  have MO : Hid (∀ W, Calls Tryz.prog 43 #[.int .i64 0] W fun e w' => e = .returned (.tuple #[]) ∧ w' = W) := fun W => bMustOk W
  obtain ⟨c0, c1, c2, c3, c4, c5⟩ := hM.c
  have HC := hidd (And.intro c0 (And.intro c1 c2))
  clear hM hA tb hTS ok hrb hre hrl c0 c1 c2 c3 c4 c5 hf
  unfold ptr
  unfold ptr at RD
  go_enter Tryz.func20, Tryz.ntmps20
  go_wp2
  refine wp_region_held_drew (S := (fun W => W.cell? ⟨q, 0, none⟩ = some (.pointer (some ⟨p, 0, none⟩)) ∧ W.cell? ⟨q, 1, none⟩ = some (.int .i64 (f : Int)) ∧ W.cell? ⟨q, 2, none⟩ = some (.int .i64 (r : Int)))) (by kernel_rfl) HC.out (fun hHeld => ?_)
  refine zX 0 (.pointer (some ⟨q, 0, none⟩)) rfl hHeld ?_
  try simp only [Act.put, pS1, pS2, pS3]
  refine zX 1 (.pointer (some ⟨q, 0, none⟩)) rfl hHeld ?_
  try simp only [Act.put, pS1, pS2, pS3]
  refine zX 2 (.pointer (some ⟨q, 0, none⟩)) rfl hHeld ?_
  try simp only [Act.put, pS1, pS2, pS3]
  refine zW 3 (.pointer (some ⟨p, 0, none⟩)) rfl (Or.inl ⟨by rfl, by intro W hSw; have h1 := hSw.1; go_simp⟩) hHeld ?_
  try simp only [Act.put, pS1, pS2, pS3]
  refine zX 4 (.pointer (some ⟨q, 0, none⟩)) rfl hHeld ?_
  try simp only [Act.put, pS1, pS2, pS3]
  refine zX 5 (.pointer (some ⟨q, 0, none⟩)) rfl hHeld ?_
  try simp only [Act.put, pS1, pS2, pS3]
  refine zX 6 (.pointer (some ⟨q, 1, none⟩)) rfl hHeld ?_
  try simp only [Act.put, pS1, pS2, pS3]
  refine zW 7 (.int .i64 (f : Int)) rfl (Or.inl ⟨by rfl, by intro W hSw; have h1 := hSw.2.1; go_simp⟩) hHeld ?_
  try simp only [Act.put, pS1, pS2, pS3]
  refine zX 8 (.pointer (some ⟨q, 0, none⟩)) rfl hHeld ?_
  try simp only [Act.put, pS1, pS2, pS3]
  refine zX 9 (.pointer (some ⟨q, 0, none⟩)) rfl hHeld ?_
  try simp only [Act.put, pS1, pS2, pS3]
  refine zX 10 (.pointer (some ⟨q, 2, none⟩)) rfl hHeld ?_
  try simp only [Act.put, pS1, pS2, pS3]
  refine zW 11 (.int .i64 (r : Int)) rfl (Or.inl ⟨by rfl, by intro W hSw; have h1 := hSw.2.2; go_simp⟩) hHeld ?_
  try simp only [Act.put, pS1, pS2, pS3]
  refine wpAnyH_ready (rs := [12]) (by kernel_rfl) (by simp) ?_
  refine (AllReadyH.cons (o := { dst := some 20, op := .call { callee := .value (.func 42), args := #[.tmp 11, .tmp 15, .tmp 19], argTypes := #[27, 3, 3] }, type := 35, pos := "wal.go:125", after := #[zD 3, zD 7, zD 11], guard := none }) rfl (fun K hK => ?_) AllReadyH.nil)
  go_simp
  refine RD.out.mono ?_
  rintro e w1 ⟨⟨a1, cap1, rfl, ho1⟩, hb1⟩
  have HB1 := hidd ((Below.refl w.heap.size w).drew.trans hb1)
  have hrd1 := ho1.1
  rw [HRB.out] at hrd1
  have hsl := sub_length (f := f) (r := r) (s := nowB D) (by rw [nowB_length HOK.out]; exact HHF.out)
  rw [hsl] at hrd1
  have HR1 := hidd hrd1
  have HRD := hidd RD
  clear ho1 hrd1 hsl RD
  go_wp2_with fail
  refine hK.out _ _ ⟨(hb1.cell (p := ⟨q, 0, none⟩) HM.out.lt).trans hHeld.1, (hb1.cell (p := ⟨q, 1, none⟩) HM.out.lt).trans hHeld.2.1, (hb1.cell (p := ⟨q, 2, none⟩) HM.out.lt).trans hHeld.2.2⟩ (fun hHeld => ?_)
  clear hK K
  try simp only [Act.put, pS1, pS2, pS3]
  refine zX 13 (.tuple #[.slice a1 r cap1, .int .i64 0]) rfl hHeld ?_
  try simp only [Act.put, pS1, pS2, pS3]
  refine zX 14 (.slice a1 r cap1) rfl hHeld ?_
  try simp only [Act.put, pS1, pS2, pS3]
  refine zX 15 (.int .i64 0) rfl hHeld ?_
  try simp only [Act.put, pS1, pS2, pS3]
  refine zX 16 (.slice a1 r cap1) rfl hHeld ?_
  try simp only [Act.put, pS1, pS2, pS3]
  refine zX 17 (.int .i64 0) rfl hHeld ?_
  try simp only [Act.put, pS1, pS2, pS3]
  refine wpAnyH_done (by kernel_rfl) ?_ _
  clear hHeld HC
  go_wp2_with fail
  refine (MO.out _).mono ?_
  rintro e w1b ⟨rfl, rfl⟩
  have HM1 := hidd (HM.out.below HB1.out)
  have HA1 := hidd (HA.out.below HB1.out)
  have HTB1 := hidd (HTB.out.on HB1.out)
  have IN := hidd (bIsNew w1b q p f r _ T HM1.out hf6 ⟨hr1, hr2⟩ HTB1.out a1 cap1 _ HR1.out true (.inl ⟨hN, rfl⟩))
  unfold ptr at IN
  go_wp2_with fail
  refine IN.out.mono ?_
  rintro e w2 ⟨rfl, hb2⟩
  have HB2 := hidd (HB1.out.trans (hb2.mono HB1.out.size))
  have HM2 := hidd (HM1.out.below hb2)
  have HA2 := hidd (HA1.out.below hb2)
  have HTB2 := hidd (HTB1.out.on hb2)
  have HR2 := hidd (HR1.out.below hb2)
  clear IN hb2 HM1 HA1 HTB1 HR1
  obtain ⟨c0, c1, c2, c3, c4, c5⟩ := HM2.out.c
  have HC1 := hidd c1
  have NM := hidd (bName w2.drew q p f r _ T HM2.out.drew hf6 hr2 (HTB2.out.on (Below.refl _ _).drew))
  unfold ptr at NM
  have wf1 := wrap_int ((f : Int) + 1) (by omega) (by omega)
  clear c0 c1 c2 c3 c4 c5
  go_wp2
  refine wp_region_held_drew (S := (fun W => W.cell? ⟨q, 1, none⟩ = some (.int .i64 (f : Int)))) (by kernel_rfl) HC1.out (fun hHeld => ?_)
  refine zX 0 (.pointer (some ⟨q, 0, none⟩)) rfl hHeld ?_
  try simp only [Act.put, pS1, pS2, pS3]
  refine zX 1 (.pointer (some ⟨q, 0, none⟩)) rfl hHeld ?_
  try simp only [Act.put, pS1, pS2, pS3]
  refine zX 2 (.pointer (some ⟨q, 0, none⟩)) rfl hHeld ?_
  try simp only [Act.put, pS1, pS2, pS3]
  refine zX 3 (.pointer (some ⟨q, 1, none⟩)) rfl hHeld ?_
  try simp only [Act.put, pS1, pS2, pS3]
  refine zW 4 (.int .i64 (f : Int)) rfl (Or.inl ⟨by rfl, by intro W hSw; have h1 : W.cell? ⟨q, 1, none⟩ = _ := hSw; go_simp⟩) hHeld ?_
  try simp only [Act.put, pS1, pS2, pS3]
  refine zX 5 (.int .i64 ((f : Int) + 1)) rfl hHeld ?_
  try simp only [Act.put, pS1, pS2, pS3]
  refine zX 6 (.pointer (some ⟨q, 0, none⟩)) rfl hHeld ?_
  try simp only [Act.put, pS1, pS2, pS3]
  refine wpAnyH_ready (rs := [7]) (by kernel_rfl) (by simp) ?_
  refine (AllReadyH.cons (o := { dst := some 35, op := .call { callee := .value (.func 45), args := #[.tmp 34], argTypes := #[30] }, type := 34, pos := "wal.go:129", after := #[zD 6], guard := none }) rfl (fun K hK => ?_) AllReadyH.nil)
  go_simp
  refine NM.out.mono ?_
  rintro e w3 ⟨g, rfl, hg, hrow, hb3⟩
  have hb23 := (Below.refl w2.heap.size w2).drew.trans hb3
  have HB3 := hidd (HB2.out.trans (hb23.mono HB2.out.size))
  have HM3 := hidd (HM2.out.below hb23)
  have HA3 := hidd (HA2.out.below hb23)
  have hgS : ∀ b off, (some ⟨g, 0, none⟩ : Option Addr) = some ⟨b, off, none⟩ → 0 < 29 → ¬ S b := (fun b off e _ e2 => by cases e; have := HA2.out.lt _ e2; have hg2 : w2.heap.size ≤ g := hg; omega)
  have WR := hidd (bWriteNo w3 q p f r _ T D S HM3.out HA3.out (by omega) hd ((f + 1 : Nat) : Int) (by unfold In64; omega) (some ⟨g, 0, none⟩) 29 29 (nameB f r) (row_reads (nameB_length f r) (by omega) hrow) (by omega) hgS)
  unfold ptr at WR
  have ef1 : ((f + 1 : Nat) : Int) = (f : Int) + 1 := by omega
  rw [ef1] at WR
  clear hrow hgS NM
  go_wp2_with fail
  refine hK.out _ _ ((hb3.cell (p := ⟨q, 1, none⟩) HM2.out.lt).trans hHeld) (fun hHeld => ?_)
  clear hK K
  try simp only [Act.put, pS1, pS2, pS3]
  refine wpAnyH_ready (rs := [8]) (by kernel_rfl) (by simp) ?_
  refine (AllReadyH.cons (o := { dst := some 36, op := .call { callee := .value (.func 31), args := #[.tmp 28, .tmp 33, .tmp 35], argTypes := #[30, 3, 34] }, type := 0, pos := "wal.go:129", after := #[zD 0, zD 5, zD 7, zC 7], guard := none }) rfl (fun K hK => ?_) AllReadyH.nil)
  go_simp
  refine WR.out.mono ?_
  rintro e w4 ⟨rfl, ⟨S4, k1, k2⟩, k3⟩
  refine ⟨rfl, rfl, ⟨S4, k1, fun b e => ?_⟩, (Away.of_below HB3.out).trans k3 fun b e => .inl e⟩
  rcases k2 b e with e | e
  · exact .inl e
  · have := HB3.out.size; exact .inr (by omega)
set_option maxHeartbeats 8000000 in
theorem bBeginN1 (w : World) (tb : TabW w) (q p f r : Nat) (T : Nat → Prop) (D : DkT) (S : Nat → Prop) (hM : WM w q p f r ⟨0, 0, 0⟩ T) (hA : OAt w p D S) (hp : D.puts.length ≤ 500000) (hTS : ¬ S q) (hr : 64 ≤ r ∧ r ≤ 1000000) (hf : f + r ≤ D.safe.length) (hN : NewP f r (sub (nowB D) f r)) (hE1 : writeE D ((f + 1 : Nat) : Int) (nameB f r) = 0) (hd1 : (nameD f r D).down = true) :
    Calls Tryz.prog 20 #[ptr q] w fun e w' => e = gaveUp 80 ∧ (∃ S', OAt w' p (nameD f r D) S' ∧ (∀ b, S' b → S b ∨ w.heap.size ≤ b)) ∧ Away S w w' := by
  have ok := hA.ok
  have hrm := ok.room
  obtain ⟨hrb, hre, hrl⟩ := rd_part ok hf
  obtain ⟨hr1, hr2⟩ := hr
  have hlim := limN_room hr1
  have hf6 : f ≤ 1000000 := by omega
  have RD := hidd (diskC.read w.drew p D S (hA.below (Below.refl _ _).drew) (f : Int) (r : Int) (by unfold In64; omega) (by unfold In64; omega))
  rw [hrl, hre] at RD
  have HRB := hidd hrb
  have HA := hidd hA
  have HM := hidd hM
  have HTB := hidd tb
  have HTS := hidd hTS
  have HOK := hidd ok
  have HHF := hidd hf
  have MO : Hid (∀ W, Calls Tryz.prog 43 #[.int .i64 0] W fun e w' => e = .returned (.tuple #[]) ∧ w' = W) := fun W => bMustOk W
  obtain ⟨c0, c1, c2, c3, c4, c5⟩ := hM.c
  have HC := hidd (And.intro c0 (And.intro c1 c2))
  clear hM hA tb hTS ok hrb hre hrl c0 c1 c2 c3 c4 c5 hf
  unfold ptr
  unfold ptr at RD
  go_enter Tryz.func20, Tryz.ntmps20
  go_wp2
  refine wp_region_held_drew (S := (fun W => W.cell? ⟨q, 0, none⟩ = some (.pointer (some ⟨p, 0, none⟩)) ∧ W.cell? ⟨q, 1, none⟩ = some (.int .i64 (f : Int)) ∧ W.cell? ⟨q, 2, none⟩ = some (.int .i64 (r : Int)))) (by kernel_rfl) HC.out (fun hHeld => ?_)
  refine zX 0 (.pointer (some ⟨q, 0, none⟩)) rfl hHeld ?_
  try simp only [Act.put, pS1, pS2, pS3]
  refine zX 1 (.pointer (some ⟨q, 0, none⟩)) rfl hHeld ?_
  try simp only [Act.put, pS1, pS2, pS3]
  refine zX 2 (.pointer (some ⟨q, 0, none⟩)) rfl hHeld ?_
  try simp only [Act.put, pS1, pS2, pS3]
  refine zW 3 (.pointer (some ⟨p, 0, none⟩)) rfl (Or.inl ⟨by rfl, by intro W hSw; have h1 := hSw.1; go_simp⟩) hHeld ?_
  try simp only [Act.put, pS1, pS2, pS3]
  refine zX 4 (.pointer (some ⟨q, 0, none⟩)) rfl hHeld ?_
  try simp only [Act.put, pS1, pS2, pS3]
  refine zX 5 (.pointer (some ⟨q, 0, none⟩)) rfl hHeld ?_
  try simp only [Act.put, pS1, pS2, pS3]
  refine zX 6 (.pointer (some ⟨q, 1, none⟩)) rfl hHeld ?_
  try simp only [Act.put, pS1, pS2, pS3]
  refine zW 7 (.int .i64 (f : Int)) rfl (Or.inl ⟨by rfl, by intro W hSw; have h1 := hSw.2.1; go_simp⟩) hHeld ?_
  try simp only [Act.put, pS1, pS2, pS3]
  refine zX 8 (.pointer (some ⟨q, 0, none⟩)) rfl hHeld ?_
  try simp only [Act.put, pS1, pS2, pS3]
  refine zX 9 (.pointer (some ⟨q, 0, none⟩)) rfl hHeld ?_
  try simp only [Act.put, pS1, pS2, pS3]
  refine zX 10 (.pointer (some ⟨q, 2, none⟩)) rfl hHeld ?_
  try simp only [Act.put, pS1, pS2, pS3]
  refine zW 11 (.int .i64 (r : Int)) rfl (Or.inl ⟨by rfl, by intro W hSw; have h1 := hSw.2.2; go_simp⟩) hHeld ?_
  try simp only [Act.put, pS1, pS2, pS3]
  refine wpAnyH_ready (rs := [12]) (by kernel_rfl) (by simp) ?_
  refine (AllReadyH.cons (o := { dst := some 20, op := .call { callee := .value (.func 42), args := #[.tmp 11, .tmp 15, .tmp 19], argTypes := #[27, 3, 3] }, type := 35, pos := "wal.go:125", after := #[zD 3, zD 7, zD 11], guard := none }) rfl (fun K hK => ?_) AllReadyH.nil)
  go_simp
  refine RD.out.mono ?_
  rintro e w1 ⟨⟨a1, cap1, rfl, ho1⟩, hb1⟩
  have HB1 := hidd ((Below.refl w.heap.size w).drew.trans hb1)
  have hrd1 := ho1.1
  rw [HRB.out] at hrd1
  have hsl := sub_length (f := f) (r := r) (s := nowB D) (by rw [nowB_length HOK.out]; exact HHF.out)
  rw [hsl] at hrd1
  have HR1 := hidd hrd1
  have HRD := hidd RD
  clear ho1 hrd1 hsl RD
  go_wp2_with fail
  refine hK.out _ _ ⟨(hb1.cell (p := ⟨q, 0, none⟩) HM.out.lt).trans hHeld.1, (hb1.cell (p := ⟨q, 1, none⟩) HM.out.lt).trans hHeld.2.1, (hb1.cell (p := ⟨q, 2, none⟩) HM.out.lt).trans hHeld.2.2⟩ (fun hHeld => ?_)
  clear hK K
  try simp only [Act.put, pS1, pS2, pS3]
  refine zX 13 (.tuple #[.slice a1 r cap1, .int .i64 0]) rfl hHeld ?_
  try simp only [Act.put, pS1, pS2, pS3]
  refine zX 14 (.slice a1 r cap1) rfl hHeld ?_
  try simp only [Act.put, pS1, pS2, pS3]
  refine zX 15 (.int .i64 0) rfl hHeld ?_
  try simp only [Act.put, pS1, pS2, pS3]
  refine zX 16 (.slice a1 r cap1) rfl hHeld ?_
  try simp only [Act.put, pS1, pS2, pS3]
  refine zX 17 (.int .i64 0) rfl hHeld ?_
  try simp only [Act.put, pS1, pS2, pS3]
  refine wpAnyH_done (by kernel_rfl) ?_ _
  clear hHeld HC
  go_wp2_with fail
  refine (MO.out _).mono ?_
  rintro e w1b ⟨rfl, rfl⟩
  have HM1 := hidd (HM.out.below HB1.out)
  have HA1 := hidd (HA.out.below HB1.out)
  have HTB1 := hidd (HTB.out.on HB1.out)
  have IN := hidd (bIsNew w1b q p f r _ T HM1.out hf6 ⟨hr1, hr2⟩ HTB1.out a1 cap1 _ HR1.out true (.inl ⟨hN, rfl⟩))
  unfold ptr at IN
  go_wp2_with fail
  refine IN.out.mono ?_
  rintro e w2 ⟨rfl, hb2⟩
  have HB2 := hidd (HB1.out.trans (hb2.mono HB1.out.size))
  have HM2 := hidd (HM1.out.below hb2)
  have HA2 := hidd (HA1.out.below hb2)
  have HTB2 := hidd (HTB1.out.on hb2)
  have HR2 := hidd (HR1.out.below hb2)
  clear IN hb2 HM1 HA1 HTB1 HR1
  obtain ⟨c0, c1, c2, c3, c4, c5⟩ := HM2.out.c
  have HC1 := hidd c1
  have NM := hidd (bName w2.drew q p f r _ T HM2.out.drew hf6 hr2 (HTB2.out.on (Below.refl _ _).drew))
  unfold ptr at NM
  have wf1 := wrap_int ((f : Int) + 1) (by omega) (by omega)
  clear c0 c1 c2 c3 c4 c5
  go_wp2
  refine wp_region_held_drew (S := (fun W => W.cell? ⟨q, 1, none⟩ = some (.int .i64 (f : Int)))) (by kernel_rfl) HC1.out (fun hHeld => ?_)
  refine zX 0 (.pointer (some ⟨q, 0, none⟩)) rfl hHeld ?_
  try simp only [Act.put, pS1, pS2, pS3]
  refine zX 1 (.pointer (some ⟨q, 0, none⟩)) rfl hHeld ?_
  try simp only [Act.put, pS1, pS2, pS3]
  refine zX 2 (.pointer (some ⟨q, 0, none⟩)) rfl hHeld ?_
  try simp only [Act.put, pS1, pS2, pS3]
  refine zX 3 (.pointer (some ⟨q, 1, none⟩)) rfl hHeld ?_
  try simp only [Act.put, pS1, pS2, pS3]
  refine zW 4 (.int .i64 (f : Int)) rfl (Or.inl ⟨by rfl, by intro W hSw; have h1 : W.cell? ⟨q, 1, none⟩ = _ := hSw; go_simp⟩) hHeld ?_
  try simp only [Act.put, pS1, pS2, pS3]
  refine zX 5 (.int .i64 ((f : Int) + 1)) rfl hHeld ?_
  try simp only [Act.put, pS1, pS2, pS3]
  refine zX 6 (.pointer (some ⟨q, 0, none⟩)) rfl hHeld ?_
  try simp only [Act.put, pS1, pS2, pS3]
  refine wpAnyH_ready (rs := [7]) (by kernel_rfl) (by simp) ?_
  refine (AllReadyH.cons (o := { dst := some 35, op := .call { callee := .value (.func 45), args := #[.tmp 34], argTypes := #[30] }, type := 34, pos := "wal.go:129", after := #[zD 6], guard := none }) rfl (fun K hK => ?_) AllReadyH.nil)
  go_simp
  refine NM.out.mono ?_
  rintro e w3 ⟨g, rfl, hg, hrow, hb3⟩
  have hb23 := (Below.refl w2.heap.size w2).drew.trans hb3
  have HB3 := hidd (HB2.out.trans (hb23.mono HB2.out.size))
  have HM3 := hidd (HM2.out.below hb23)
  have HA3 := hidd (HA2.out.below hb23)
  have hgS : ∀ b off, (some ⟨g, 0, none⟩ : Option Addr) = some ⟨b, off, none⟩ → 0 < 29 → ¬ S b := (fun b off e _ e2 => by cases e; have := HA2.out.lt _ e2; have hg2 : w2.heap.size ≤ g := hg; omega)
  have WR := hidd (bWriteOk w3 q p f r _ T D S HM3.out HA3.out (by omega) ((f + 1 : Nat) : Int) (by unfold In64; omega) (some ⟨g, 0, none⟩) 29 29 (nameB f r) (row_reads (nameB_length f r) (by omega) hrow) (by omega) hgS hE1)
  unfold ptr at WR
  have ef1 : ((f + 1 : Nat) : Int) = (f : Int) + 1 := by omega
  rw [ef1] at WR
  clear hrow hgS NM
  go_wp2_with fail
  refine hK.out _ _ ((hb3.cell (p := ⟨q, 1, none⟩) HM2.out.lt).trans hHeld) (fun hHeld => ?_)
  clear hK K
  try simp only [Act.put, pS1, pS2, pS3]
  refine wpAnyH_ready (rs := [8]) (by kernel_rfl) (by simp) ?_
  refine (AllReadyH.cons (o := { dst := some 36, op := .call { callee := .value (.func 31), args := #[.tmp 28, .tmp 33, .tmp 35], argTypes := #[30, 3, 34] }, type := 0, pos := "wal.go:129", after := #[zD 0, zD 5, zD 7, zC 7], guard := none }) rfl (fun K hK => ?_) AllReadyH.nil)
  go_simp
  refine WR.out.mono ?_
  rintro e w4 ⟨rfl, ⟨S4, k1, k2⟩, k3⟩
  have HA4 := hidd k1
  have HS4 := hidd k2
  have HW4 := hidd k3
  go_wp2_with fail
  refine hK.out _ _ ((World.cell?_of_block (a := ⟨q, 1, none⟩) (HW4.out.block q HM3.out.lt HTS.out)).trans hHeld) (fun hHeld => ?_)
  clear hK K
  try simp only [Act.put, pS1, pS2, pS3]
  refine wpAnyH_done (by kernel_rfl) ?_ _
  clear hHeld HC1
  have hqs4 := HM3.out.lt
  have HM4 := hidd (HM3.out.away HW4.out HTS.out)
  have hB34 := HB3.out.size
  have HS4b : Hid (∀ b, S4 b → S b ∨ w.heap.size ≤ b) := fun b e => by
    rcases HS4.out b e with e | e
    · exact .inl e
    · exact .inr (by omega)
  have HW4b := hidd ((Away.of_below (S := S) HB3.out).trans HW4.out fun b e => .inl e)
  have HTS4 : Hid (¬ S4 q) := fun e => by
    rcases HS4.out q e with e | e
    · exact HTS.out e
    · omega
  obtain ⟨D1, H1⟩ : ∃ D1, Hid (D1 = nameD f r D) := ⟨_, hidd rfl⟩
  have HA4' : Hid (OAt w4 p D1 S4) := by rw [H1.out]; exact HA4.out
  have hp1 : D1.puts.length ≤ 500001 := by rw [H1.out]; have := writeD_puts D ((f + 1 : Nat) : Int) (nameB f r); exact Nat.le_trans this (by omega)
  obtain ⟨c0, c1, c2, c3, c4, c5⟩ := HM4.out.c
  clear HA4 HS4 HW4 HM3 HA3 HM2 HA2 HB3 hb3 hb23 c0 c1 c2 c4 c5
  rw [← H1.out] at hd1
  have EN := hidd (bEnforceNo w4 q p f r _ T D1 S4 HM4.out HA4'.out (by omega) hf6 0 (by omega) hd1)
  unfold ptr at EN
  simp only [Int.cast_ofNat_Int] at EN c3
  go_wp2_with fail
  refine EN.out.mono ?_
  rintro e w5 ⟨rfl, ⟨S5, k1, k2⟩, k3⟩
  refine ⟨rfl, rfl, ⟨S5, by rw [← H1.out]; exact k1, fun b e => ?_⟩, HW4b.out.trans k3 fun b e => HS4b.out b e⟩
  rcases k2 b e with e | e
  · exact HS4b.out b e
  · have := HW4b.out.size; exact .inr (by omega)
set_option maxHeartbeats 8000000 in
theorem bBeginN2 (w : World) (tb : TabW w) (q p f r : Nat) (T : Nat → Prop) (D : DkT) (S : Nat → Prop) (hM : WM w q p f r ⟨0, 0, 0⟩ T) (hA : OAt w p D S) (hp : D.puts.length ≤ 500000) (hTS : ¬ S q) (hr : 64 ≤ r ∧ r ≤ 1000000) (hf : f + r ≤ D.safe.length) (hN : NewP f r (sub (nowB D) f r)) (hE1 : writeE D ((f + 1 : Nat) : Int) (nameB f r) = 0) (hE2 : writeE (nameD f r D) (f : Int) [UInt8.ofNat (0 + 1)] = 0) (hd2 : (markD f 0 (nameD f r D)).down = true) :
    Calls Tryz.prog 20 #[ptr q] w fun e w' => e = gaveUp 80 ∧ (∃ S', OAt w' p (markD f 0 (nameD f r D)) S' ∧ (∀ b, S' b → S b ∨ w.heap.size ≤ b)) ∧ Away S w w' := by
  have ok := hA.ok
  have hrm := ok.room
  obtain ⟨hrb, hre, hrl⟩ := rd_part ok hf
  obtain ⟨hr1, hr2⟩ := hr
  have hlim := limN_room hr1
  have hf6 : f ≤ 1000000 := by omega
  have RD := hidd (diskC.read w.drew p D S (hA.below (Below.refl _ _).drew) (f : Int) (r : Int) (by unfold In64; omega) (by unfold In64; omega))
  rw [hrl, hre] at RD
  have HRB := hidd hrb
  have HA := hidd hA
  have HM := hidd hM
  have HTB := hidd tb
  have HTS := hidd hTS
  have HOK := hidd ok
  have HHF := hidd hf
  have MO : Hid (∀ W, Calls Tryz.prog 43 #[.int .i64 0] W fun e w' => e = .returned (.tuple #[]) ∧ w' = W) := fun W => bMustOk W
  obtain ⟨c0, c1, c2, c3, c4, c5⟩ := hM.c
  have HC := hidd (And.intro c0 (And.intro c1 c2))
  clear hM hA tb hTS ok hrb hre hrl c0 c1 c2 c3 c4 c5 hf
  unfold ptr
  unfold ptr at RD
  go_enter Tryz.func20, Tryz.ntmps20
  go_wp2
  refine wp_region_held_drew (S := (fun W => W.cell? ⟨q, 0, none⟩ = some (.pointer (some ⟨p, 0, none⟩)) ∧ W.cell? ⟨q, 1, none⟩ = some (.int .i64 (f : Int)) ∧ W.cell? ⟨q, 2, none⟩ = some (.int .i64 (r : Int)))) (by kernel_rfl) HC.out (fun hHeld => ?_)
  refine zX 0 (.pointer (some ⟨q, 0, none⟩)) rfl hHeld ?_
  try simp only [Act.put, pS1, pS2, pS3]
  refine zX 1 (.pointer (some ⟨q, 0, none⟩)) rfl hHeld ?_
  try simp only [Act.put, pS1, pS2, pS3]
  refine zX 2 (.pointer (some ⟨q, 0, none⟩)) rfl hHeld ?_
  try simp only [Act.put, pS1, pS2, pS3]
  refine zW 3 (.pointer (some ⟨p, 0, none⟩)) rfl (Or.inl ⟨by rfl, by intro W hSw; have h1 := hSw.1; go_simp⟩) hHeld ?_
  try simp only [Act.put, pS1, pS2, pS3]
  refine zX 4 (.pointer (some ⟨q, 0, none⟩)) rfl hHeld ?_
  try simp only [Act.put, pS1, pS2, pS3]
  refine zX 5 (.pointer (some ⟨q, 0, none⟩)) rfl hHeld ?_
  try simp only [Act.put, pS1, pS2, pS3]
  refine zX 6 (.pointer (some ⟨q, 1, none⟩)) rfl hHeld ?_
  try simp only [Act.put, pS1, pS2, pS3]
  refine zW 7 (.int .i64 (f : Int)) rfl (Or.inl ⟨by rfl, by intro W hSw; have h1 := hSw.2.1; go_simp⟩) hHeld ?_
  try simp only [Act.put, pS1, pS2, pS3]
  refine zX 8 (.pointer (some ⟨q, 0, none⟩)) rfl hHeld ?_
  try simp only [Act.put, pS1, pS2, pS3]
  refine zX 9 (.pointer (some ⟨q, 0, none⟩)) rfl hHeld ?_
  try simp only [Act.put, pS1, pS2, pS3]
  refine zX 10 (.pointer (some ⟨q, 2, none⟩)) rfl hHeld ?_
  try simp only [Act.put, pS1, pS2, pS3]
  refine zW 11 (.int .i64 (r : Int)) rfl (Or.inl ⟨by rfl, by intro W hSw; have h1 := hSw.2.2; go_simp⟩) hHeld ?_
  try simp only [Act.put, pS1, pS2, pS3]
  refine wpAnyH_ready (rs := [12]) (by kernel_rfl) (by simp) ?_
  refine (AllReadyH.cons (o := { dst := some 20, op := .call { callee := .value (.func 42), args := #[.tmp 11, .tmp 15, .tmp 19], argTypes := #[27, 3, 3] }, type := 35, pos := "wal.go:125", after := #[zD 3, zD 7, zD 11], guard := none }) rfl (fun K hK => ?_) AllReadyH.nil)
  go_simp
  refine RD.out.mono ?_
  rintro e w1 ⟨⟨a1, cap1, rfl, ho1⟩, hb1⟩
  have HB1 := hidd ((Below.refl w.heap.size w).drew.trans hb1)
  have hrd1 := ho1.1
  rw [HRB.out] at hrd1
  have hsl := sub_length (f := f) (r := r) (s := nowB D) (by rw [nowB_length HOK.out]; exact HHF.out)
  rw [hsl] at hrd1
  have HR1 := hidd hrd1
  have HRD := hidd RD
  clear ho1 hrd1 hsl RD
  go_wp2_with fail
  refine hK.out _ _ ⟨(hb1.cell (p := ⟨q, 0, none⟩) HM.out.lt).trans hHeld.1, (hb1.cell (p := ⟨q, 1, none⟩) HM.out.lt).trans hHeld.2.1, (hb1.cell (p := ⟨q, 2, none⟩) HM.out.lt).trans hHeld.2.2⟩ (fun hHeld => ?_)
  clear hK K
  try simp only [Act.put, pS1, pS2, pS3]
  refine zX 13 (.tuple #[.slice a1 r cap1, .int .i64 0]) rfl hHeld ?_
  try simp only [Act.put, pS1, pS2, pS3]
  refine zX 14 (.slice a1 r cap1) rfl hHeld ?_
  try simp only [Act.put, pS1, pS2, pS3]
  refine zX 15 (.int .i64 0) rfl hHeld ?_
  try simp only [Act.put, pS1, pS2, pS3]
  refine zX 16 (.slice a1 r cap1) rfl hHeld ?_
  try simp only [Act.put, pS1, pS2, pS3]
  refine zX 17 (.int .i64 0) rfl hHeld ?_
  try simp only [Act.put, pS1, pS2, pS3]
  refine wpAnyH_done (by kernel_rfl) ?_ _
  clear hHeld HC
  go_wp2_with fail
  refine (MO.out _).mono ?_
  rintro e w1b ⟨rfl, rfl⟩
  have HM1 := hidd (HM.out.below HB1.out)
  have HA1 := hidd (HA.out.below HB1.out)
  have HTB1 := hidd (HTB.out.on HB1.out)
  have IN := hidd (bIsNew w1b q p f r _ T HM1.out hf6 ⟨hr1, hr2⟩ HTB1.out a1 cap1 _ HR1.out true (.inl ⟨hN, rfl⟩))
  unfold ptr at IN
  go_wp2_with fail
  refine IN.out.mono ?_
  rintro e w2 ⟨rfl, hb2⟩
  have HB2 := hidd (HB1.out.trans (hb2.mono HB1.out.size))
  have HM2 := hidd (HM1.out.below hb2)
  have HA2 := hidd (HA1.out.below hb2)
  have HTB2 := hidd (HTB1.out.on hb2)
  have HR2 := hidd (HR1.out.below hb2)
  clear IN hb2 HM1 HA1 HTB1 HR1
  obtain ⟨c0, c1, c2, c3, c4, c5⟩ := HM2.out.c
  have HC1 := hidd c1
  have NM := hidd (bName w2.drew q p f r _ T HM2.out.drew hf6 hr2 (HTB2.out.on (Below.refl _ _).drew))
  unfold ptr at NM
  have wf1 := wrap_int ((f : Int) + 1) (by omega) (by omega)
  clear c0 c1 c2 c3 c4 c5
  go_wp2
  refine wp_region_held_drew (S := (fun W => W.cell? ⟨q, 1, none⟩ = some (.int .i64 (f : Int)))) (by kernel_rfl) HC1.out (fun hHeld => ?_)
  refine zX 0 (.pointer (some ⟨q, 0, none⟩)) rfl hHeld ?_
  try simp only [Act.put, pS1, pS2, pS3]
  refine zX 1 (.pointer (some ⟨q, 0, none⟩)) rfl hHeld ?_
  try simp only [Act.put, pS1, pS2, pS3]
  refine zX 2 (.pointer (some ⟨q, 0, none⟩)) rfl hHeld ?_
  try simp only [Act.put, pS1, pS2, pS3]
  refine zX 3 (.pointer (some ⟨q, 1, none⟩)) rfl hHeld ?_
  try simp only [Act.put, pS1, pS2, pS3]
  refine zW 4 (.int .i64 (f : Int)) rfl (Or.inl ⟨by rfl, by intro W hSw; have h1 : W.cell? ⟨q, 1, none⟩ = _ := hSw; go_simp⟩) hHeld ?_
  try simp only [Act.put, pS1, pS2, pS3]
  refine zX 5 (.int .i64 ((f : Int) + 1)) rfl hHeld ?_
  try simp only [Act.put, pS1, pS2, pS3]
  refine zX 6 (.pointer (some ⟨q, 0, none⟩)) rfl hHeld ?_
  try simp only [Act.put, pS1, pS2, pS3]
  refine wpAnyH_ready (rs := [7]) (by kernel_rfl) (by simp) ?_
  refine (AllReadyH.cons (o := { dst := some 35, op := .call { callee := .value (.func 45), args := #[.tmp 34], argTypes := #[30] }, type := 34, pos := "wal.go:129", after := #[zD 6], guard := none }) rfl (fun K hK => ?_) AllReadyH.nil)
  go_simp
  refine NM.out.mono ?_
  rintro e w3 ⟨g, rfl, hg, hrow, hb3⟩
  have hb23 := (Below.refl w2.heap.size w2).drew.trans hb3
  have HB3 := hidd (HB2.out.trans (hb23.mono HB2.out.size))
  have HM3 := hidd (HM2.out.below hb23)
  have HA3 := hidd (HA2.out.below hb23)
  have hgS : ∀ b off, (some ⟨g, 0, none⟩ : Option Addr) = some ⟨b, off, none⟩ → 0 < 29 → ¬ S b := (fun b off e _ e2 => by cases e; have := HA2.out.lt _ e2; have hg2 : w2.heap.size ≤ g := hg; omega)
  have WR := hidd (bWriteOk w3 q p f r _ T D S HM3.out HA3.out (by omega) ((f + 1 : Nat) : Int) (by unfold In64; omega) (some ⟨g, 0, none⟩) 29 29 (nameB f r) (row_reads (nameB_length f r) (by omega) hrow) (by omega) hgS hE1)
  unfold ptr at WR
  have ef1 : ((f + 1 : Nat) : Int) = (f : Int) + 1 := by omega
  rw [ef1] at WR
  clear hrow hgS NM
  go_wp2_with fail
  refine hK.out _ _ ((hb3.cell (p := ⟨q, 1, none⟩) HM2.out.lt).trans hHeld) (fun hHeld => ?_)
  clear hK K
  try simp only [Act.put, pS1, pS2, pS3]
  refine wpAnyH_ready (rs := [8]) (by kernel_rfl) (by simp) ?_
  refine (AllReadyH.cons (o := { dst := some 36, op := .call { callee := .value (.func 31), args := #[.tmp 28, .tmp 33, .tmp 35], argTypes := #[30, 3, 34] }, type := 0, pos := "wal.go:129", after := #[zD 0, zD 5, zD 7, zC 7], guard := none }) rfl (fun K hK => ?_) AllReadyH.nil)
  go_simp
  refine WR.out.mono ?_
  rintro e w4 ⟨rfl, ⟨S4, k1, k2⟩, k3⟩
  have HA4 := hidd k1
  have HS4 := hidd k2
  have HW4 := hidd k3
  go_wp2_with fail
  refine hK.out _ _ ((World.cell?_of_block (a := ⟨q, 1, none⟩) (HW4.out.block q HM3.out.lt HTS.out)).trans hHeld) (fun hHeld => ?_)
  clear hK K
  try simp only [Act.put, pS1, pS2, pS3]
  refine wpAnyH_done (by kernel_rfl) ?_ _
  clear hHeld HC1
  have hqs4 := HM3.out.lt
  have HM4 := hidd (HM3.out.away HW4.out HTS.out)
  have hB34 := HB3.out.size
  have HS4b : Hid (∀ b, S4 b → S b ∨ w.heap.size ≤ b) := fun b e => by
    rcases HS4.out b e with e | e
    · exact .inl e
    · exact .inr (by omega)
  have HW4b := hidd ((Away.of_below (S := S) HB3.out).trans HW4.out fun b e => .inl e)
  have HTS4 : Hid (¬ S4 q) := fun e => by
    rcases HS4.out q e with e | e
    · exact HTS.out e
    · omega
  obtain ⟨D1, H1⟩ : ∃ D1, Hid (D1 = nameD f r D) := ⟨_, hidd rfl⟩
  have HA4' : Hid (OAt w4 p D1 S4) := by rw [H1.out]; exact HA4.out
  have hp1 : D1.puts.length ≤ 500001 := by rw [H1.out]; have := writeD_puts D ((f + 1 : Nat) : Int) (nameB f r); exact Nat.le_trans this (by omega)
  obtain ⟨c0, c1, c2, c3, c4, c5⟩ := HM4.out.c
  clear HA4 HS4 HW4 HM3 HA3 HM2 HA2 HB3 hb3 hb23 c0 c1 c2 c4 c5
  rw [← H1.out] at hE2 hd2
  have EN := hidd (bEnforceOk w4 q p f r _ T D1 S4 HM4.out HA4'.out (by omega) hf6 0 (by omega) hE2)
  unfold ptr at EN
  simp only [Int.cast_ofNat_Int] at EN c3
  go_wp2_with fail
  refine EN.out.mono ?_
  rintro e w5 ⟨rfl, ⟨S5, k1, k2⟩, k3⟩
  have HM5 := hidd (HM4.out.away k3 HTS4.out)
  have HA5 := hidd k1
  have HTS5 : Hid (¬ S5 q) := fun e => by
    rcases k2 q e with e | e
    · exact HTS4.out e
    · have := HM4.out.lt; omega
  have HS5b : Hid (∀ b, S5 b → S b ∨ w.heap.size ≤ b) := fun b e => by
    rcases k2 b e with e | e
    · exact HS4b.out b e
    · have := HW4b.out.size; exact .inr (by omega)
  have HW5b := hidd (HW4b.out.trans k3 fun b e => HS4b.out b e)
  obtain ⟨D2, H2⟩ : ∃ D2, Hid (D2 = markD f 0 D1) := ⟨_, hidd rfl⟩
  rw [← H2.out] at HA5 hd2
  obtain ⟨c0, c1, c2, c3, c4, c5⟩ := HM5.out.c
  have SY := hidd (diskC.sync w5 p D2 S5 HA5.out)
  unfold ptr at SY
  clear EN k1 k2 k3 HM4 HA4' HS4b HW4b c1 c2 c3 c4
  rw [(sync_no hd2).1, (sync_no hd2).2] at SY
  go_wp2_with fail
  refine SY.out.mono ?_
  rintro e w6 ⟨rfl, ⟨S6, k1, k2⟩, k3⟩
  have HF : Hid ((∃ S', OAt w6 p D2 S' ∧ (∀ b, S' b → S b ∨ w.heap.size ≤ b)) ∧ Away S w w6) := ⟨⟨S6, k1, fun b e => by
    rcases k2 b e with e | e
    · exact HS5b.out b e
    · have := HW5b.out.size; exact .inr (by omega)⟩, HW5b.out.trans k3 fun b e => HS5b.out b e⟩
  have MN := hidd (bMustNo w6)
  clear SY k1 k2 k3
  go_wp2_with fail
  refine MN.out.mono ?_
  rintro e w7 ⟨rfl, rfl⟩
  refine ⟨rfl, rfl, ?_⟩
  rw [← H1.out, ← H2.out]
  exact HF.out
set_option maxHeartbeats 8000000 in
theorem bBeginN3 (w : World) (tb : TabW w) (q p f r : Nat) (T : Nat → Prop) (D : DkT) (S : Nat → Prop) (hM : WM w q p f r ⟨0, 0, 0⟩ T) (hA : OAt w p D S) (hp : D.puts.length ≤ 500000) (hTS : ¬ S q) (hr : 64 ≤ r ∧ r ≤ 1000000) (hf : f + r ≤ D.safe.length) (hN : NewP f r (sub (nowB D) f r)) (hE1 : writeE D ((f + 1 : Nat) : Int) (nameB f r) = 0) (hE2 : writeE (nameD f r D) (f : Int) [UInt8.ofNat (0 + 1)] = 0) (hd2 : (markD f 0 (nameD f r D)).down = false) :
    Calls Tryz.prog 20 #[ptr q] w fun e w' => e = .returned (.slice none 0 0) ∧ (∃ S', OAt w' p (syncD (markD f 0 (nameD f r D))) S' ∧ (∀ b, S' b → S b ∨ w.heap.size ≤ b)) ∧ WM w' q p f r ⟨0, 0, 0⟩ T ∧ Away (fun b => S b ∨ b = q) w w' := by
  have ok := hA.ok
  have hrm := ok.room
  obtain ⟨hrb, hre, hrl⟩ := rd_part ok hf
  obtain ⟨hr1, hr2⟩ := hr
  have hlim := limN_room hr1
  have hf6 : f ≤ 1000000 := by omega
  have RD := hidd (diskC.read w.drew p D S (hA.below (Below.refl _ _).drew) (f : Int) (r : Int) (by unfold In64; omega) (by unfold In64; omega))
  rw [hrl, hre] at RD
  have HRB := hidd hrb
  have HA := hidd hA
  have HM := hidd hM
  have HTB := hidd tb
  have HTS := hidd hTS
  have HOK := hidd ok
  have HHF := hidd hf
  have MO : Hid (∀ W, Calls Tryz.prog 43 #[.int .i64 0] W fun e w' => e = .returned (.tuple #[]) ∧ w' = W) := fun W => bMustOk W
  obtain ⟨c0, c1, c2, c3, c4, c5⟩ := hM.c
  have HC := hidd (And.intro c0 (And.intro c1 c2))
  clear hM hA tb hTS ok hrb hre hrl c0 c1 c2 c3 c4 c5 hf
  unfold ptr
  unfold ptr at RD
  go_enter Tryz.func20, Tryz.ntmps20
  go_wp2
  refine wp_region_held_drew (S := (fun W => W.cell? ⟨q, 0, none⟩ = some (.pointer (some ⟨p, 0, none⟩)) ∧ W.cell? ⟨q, 1, none⟩ = some (.int .i64 (f : Int)) ∧ W.cell? ⟨q, 2, none⟩ = some (.int .i64 (r : Int)))) (by kernel_rfl) HC.out (fun hHeld => ?_)
  refine zX 0 (.pointer (some ⟨q, 0, none⟩)) rfl hHeld ?_
  try simp only [Act.put, pS1, pS2, pS3]
  refine zX 1 (.pointer (some ⟨q, 0, none⟩)) rfl hHeld ?_
  try simp only [Act.put, pS1, pS2, pS3]
  refine zX 2 (.pointer (some ⟨q, 0, none⟩)) rfl hHeld ?_
  try simp only [Act.put, pS1, pS2, pS3]
  refine zW 3 (.pointer (some ⟨p, 0, none⟩)) rfl (Or.inl ⟨by rfl, by intro W hSw; have h1 := hSw.1; go_simp⟩) hHeld ?_
  try simp only [Act.put, pS1, pS2, pS3]
  refine zX 4 (.pointer (some ⟨q, 0, none⟩)) rfl hHeld ?_
  try simp only [Act.put, pS1, pS2, pS3]
  refine zX 5 (.pointer (some ⟨q, 0, none⟩)) rfl hHeld ?_
  try simp only [Act.put, pS1, pS2, pS3]
  refine zX 6 (.pointer (some ⟨q, 1, none⟩)) rfl hHeld ?_
  try simp only [Act.put, pS1, pS2, pS3]
  refine zW 7 (.int .i64 (f : Int)) rfl (Or.inl ⟨by rfl, by intro W hSw; have h1 := hSw.2.1; go_simp⟩) hHeld ?_
  try simp only [Act.put, pS1, pS2, pS3]
  refine zX 8 (.pointer (some ⟨q, 0, none⟩)) rfl hHeld ?_
  try simp only [Act.put, pS1, pS2, pS3]
  refine zX 9 (.pointer (some ⟨q, 0, none⟩)) rfl hHeld ?_
  try simp only [Act.put, pS1, pS2, pS3]
  refine zX 10 (.pointer (some ⟨q, 2, none⟩)) rfl hHeld ?_
  try simp only [Act.put, pS1, pS2, pS3]
  refine zW 11 (.int .i64 (r : Int)) rfl (Or.inl ⟨by rfl, by intro W hSw; have h1 := hSw.2.2; go_simp⟩) hHeld ?_
  try simp only [Act.put, pS1, pS2, pS3]
  refine wpAnyH_ready (rs := [12]) (by kernel_rfl) (by simp) ?_
  refine (AllReadyH.cons (o := { dst := some 20, op := .call { callee := .value (.func 42), args := #[.tmp 11, .tmp 15, .tmp 19], argTypes := #[27, 3, 3] }, type := 35, pos := "wal.go:125", after := #[zD 3, zD 7, zD 11], guard := none }) rfl (fun K hK => ?_) AllReadyH.nil)
  go_simp
  refine RD.out.mono ?_
  rintro e w1 ⟨⟨a1, cap1, rfl, ho1⟩, hb1⟩
  have HB1 := hidd ((Below.refl w.heap.size w).drew.trans hb1)
  have hrd1 := ho1.1
  rw [HRB.out] at hrd1
  have hsl := sub_length (f := f) (r := r) (s := nowB D) (by rw [nowB_length HOK.out]; exact HHF.out)
  rw [hsl] at hrd1
  have HR1 := hidd hrd1
  have HRD := hidd RD
  clear ho1 hrd1 hsl RD
  go_wp2_with fail
  refine hK.out _ _ ⟨(hb1.cell (p := ⟨q, 0, none⟩) HM.out.lt).trans hHeld.1, (hb1.cell (p := ⟨q, 1, none⟩) HM.out.lt).trans hHeld.2.1, (hb1.cell (p := ⟨q, 2, none⟩) HM.out.lt).trans hHeld.2.2⟩ (fun hHeld => ?_)
  clear hK K
  try simp only [Act.put, pS1, pS2, pS3]
  refine zX 13 (.tuple #[.slice a1 r cap1, .int .i64 0]) rfl hHeld ?_
  try simp only [Act.put, pS1, pS2, pS3]
  refine zX 14 (.slice a1 r cap1) rfl hHeld ?_
  try simp only [Act.put, pS1, pS2, pS3]
  refine zX 15 (.int .i64 0) rfl hHeld ?_
  try simp only [Act.put, pS1, pS2, pS3]
  refine zX 16 (.slice a1 r cap1) rfl hHeld ?_
  try simp only [Act.put, pS1, pS2, pS3]
  refine zX 17 (.int .i64 0) rfl hHeld ?_
  try simp only [Act.put, pS1, pS2, pS3]
  refine wpAnyH_done (by kernel_rfl) ?_ _
  clear hHeld HC
  go_wp2_with fail
  refine (MO.out _).mono ?_
  rintro e w1b ⟨rfl, rfl⟩
  have HM1 := hidd (HM.out.below HB1.out)
  have HA1 := hidd (HA.out.below HB1.out)
  have HTB1 := hidd (HTB.out.on HB1.out)
  have IN := hidd (bIsNew w1b q p f r _ T HM1.out hf6 ⟨hr1, hr2⟩ HTB1.out a1 cap1 _ HR1.out true (.inl ⟨hN, rfl⟩))
  unfold ptr at IN
  go_wp2_with fail
  refine IN.out.mono ?_
  rintro e w2 ⟨rfl, hb2⟩
  have HB2 := hidd (HB1.out.trans (hb2.mono HB1.out.size))
  have HM2 := hidd (HM1.out.below hb2)
  have HA2 := hidd (HA1.out.below hb2)
  have HTB2 := hidd (HTB1.out.on hb2)
  have HR2 := hidd (HR1.out.below hb2)
  clear IN hb2 HM1 HA1 HTB1 HR1
  obtain ⟨c0, c1, c2, c3, c4, c5⟩ := HM2.out.c
  have HC1 := hidd c1
  have NM := hidd (bName w2.drew q p f r _ T HM2.out.drew hf6 hr2 (HTB2.out.on (Below.refl _ _).drew))
  unfold ptr at NM
  have wf1 := wrap_int ((f : Int) + 1) (by omega) (by omega)
  clear c0 c1 c2 c3 c4 c5
  go_wp2
  refine wp_region_held_drew (S := (fun W => W.cell? ⟨q, 1, none⟩ = some (.int .i64 (f : Int)))) (by kernel_rfl) HC1.out (fun hHeld => ?_)
  refine zX 0 (.pointer (some ⟨q, 0, none⟩)) rfl hHeld ?_
  try simp only [Act.put, pS1, pS2, pS3]
  refine zX 1 (.pointer (some ⟨q, 0, none⟩)) rfl hHeld ?_
  try simp only [Act.put, pS1, pS2, pS3]
  refine zX 2 (.pointer (some ⟨q, 0, none⟩)) rfl hHeld ?_
  try simp only [Act.put, pS1, pS2, pS3]
  refine zX 3 (.pointer (some ⟨q, 1, none⟩)) rfl hHeld ?_
  try simp only [Act.put, pS1, pS2, pS3]
  refine zW 4 (.int .i64 (f : Int)) rfl (Or.inl ⟨by rfl, by intro W hSw; have h1 : W.cell? ⟨q, 1, none⟩ = _ := hSw; go_simp⟩) hHeld ?_
  try simp only [Act.put, pS1, pS2, pS3]
  refine zX 5 (.int .i64 ((f : Int) + 1)) rfl hHeld ?_
  try simp only [Act.put, pS1, pS2, pS3]
  refine zX 6 (.pointer (some ⟨q, 0, none⟩)) rfl hHeld ?_
  try simp only [Act.put, pS1, pS2, pS3]
  refine wpAnyH_ready (rs := [7]) (by kernel_rfl) (by simp) ?_
  refine (AllReadyH.cons (o := { dst := some 35, op := .call { callee := .value (.func 45), args := #[.tmp 34], argTypes := #[30] }, type := 34, pos := "wal.go:129", after := #[zD 6], guard := none }) rfl (fun K hK => ?_) AllReadyH.nil)
  go_simp
  refine NM.out.mono ?_
  rintro e w3 ⟨g, rfl, hg, hrow, hb3⟩
  have hb23 := (Below.refl w2.heap.size w2).drew.trans hb3
  have HB3 := hidd (HB2.out.trans (hb23.mono HB2.out.size))
  have HM3 := hidd (HM2.out.below hb23)
  have HA3 := hidd (HA2.out.below hb23)
  have hgS : ∀ b off, (some ⟨g, 0, none⟩ : Option Addr) = some ⟨b, off, none⟩ → 0 < 29 → ¬ S b := (fun b off e _ e2 => by cases e; have := HA2.out.lt _ e2; have hg2 : w2.heap.size ≤ g := hg; omega)
  have WR := hidd (bWriteOk w3 q p f r _ T D S HM3.out HA3.out (by omega) ((f + 1 : Nat) : Int) (by unfold In64; omega) (some ⟨g, 0, none⟩) 29 29 (nameB f r) (row_reads (nameB_length f r) (by omega) hrow) (by omega) hgS hE1)
  unfold ptr at WR
  have ef1 : ((f + 1 : Nat) : Int) = (f : Int) + 1 := by omega
  rw [ef1] at WR
  clear hrow hgS NM
  go_wp2_with fail
  refine hK.out _ _ ((hb3.cell (p := ⟨q, 1, none⟩) HM2.out.lt).trans hHeld) (fun hHeld => ?_)
  clear hK K
  try simp only [Act.put, pS1, pS2, pS3]
  refine wpAnyH_ready (rs := [8]) (by kernel_rfl) (by simp) ?_
  refine (AllReadyH.cons (o := { dst := some 36, op := .call { callee := .value (.func 31), args := #[.tmp 28, .tmp 33, .tmp 35], argTypes := #[30, 3, 34] }, type := 0, pos := "wal.go:129", after := #[zD 0, zD 5, zD 7, zC 7], guard := none }) rfl (fun K hK => ?_) AllReadyH.nil)
  go_simp
  refine WR.out.mono ?_
  rintro e w4 ⟨rfl, ⟨S4, k1, k2⟩, k3⟩
  have HA4 := hidd k1
  have HS4 := hidd k2
  have HW4 := hidd k3
  go_wp2_with fail
  refine hK.out _ _ ((World.cell?_of_block (a := ⟨q, 1, none⟩) (HW4.out.block q HM3.out.lt HTS.out)).trans hHeld) (fun hHeld => ?_)
  clear hK K
  try simp only [Act.put, pS1, pS2, pS3]
  refine wpAnyH_done (by kernel_rfl) ?_ _
  clear hHeld HC1
  have hqs4 := HM3.out.lt
  have HM4 := hidd (HM3.out.away HW4.out HTS.out)
  have hB34 := HB3.out.size
  have HS4b : Hid (∀ b, S4 b → S b ∨ w.heap.size ≤ b) := fun b e => by
    rcases HS4.out b e with e | e
    · exact .inl e
    · exact .inr (by omega)
  have HW4b := hidd ((Away.of_below (S := S) HB3.out).trans HW4.out fun b e => .inl e)
  have HTS4 : Hid (¬ S4 q) := fun e => by
    rcases HS4.out q e with e | e
    · exact HTS.out e
    · omega
  obtain ⟨D1, H1⟩ : ∃ D1, Hid (D1 = nameD f r D) := ⟨_, hidd rfl⟩
  have HA4' : Hid (OAt w4 p D1 S4) := by rw [H1.out]; exact HA4.out
  have hp1 : D1.puts.length ≤ 500001 := by rw [H1.out]; have := writeD_puts D ((f + 1 : Nat) : Int) (nameB f r); exact Nat.le_trans this (by omega)
  obtain ⟨c0, c1, c2, c3, c4, c5⟩ := HM4.out.c
  clear HA4 HS4 HW4 HM3 HA3 HM2 HA2 HB3 hb3 hb23 c0 c1 c2 c4 c5
  rw [← H1.out] at hE2 hd2
  have EN := hidd (bEnforceOk w4 q p f r _ T D1 S4 HM4.out HA4'.out (by omega) hf6 0 (by omega) hE2)
  unfold ptr at EN
  simp only [Int.cast_ofNat_Int] at EN c3
  go_wp2_with fail
  refine EN.out.mono ?_
  rintro e w5 ⟨rfl, ⟨S5, k1, k2⟩, k3⟩
  have HM5 := hidd (HM4.out.away k3 HTS4.out)
  have HA5 := hidd k1
  have HTS5 : Hid (¬ S5 q) := fun e => by
    rcases k2 q e with e | e
    · exact HTS4.out e
    · have := HM4.out.lt; omega
  have HS5b : Hid (∀ b, S5 b → S b ∨ w.heap.size ≤ b) := fun b e => by
    rcases k2 b e with e | e
    · exact HS4b.out b e
    · have := HW4b.out.size; exact .inr (by omega)
  have HW5b := hidd (HW4b.out.trans k3 fun b e => HS4b.out b e)
  obtain ⟨D2, H2⟩ : ∃ D2, Hid (D2 = markD f 0 D1) := ⟨_, hidd rfl⟩
  rw [← H2.out] at HA5 hd2
  obtain ⟨c0, c1, c2, c3, c4, c5⟩ := HM5.out.c
  have SY := hidd (diskC.sync w5 p D2 S5 HA5.out)
  unfold ptr at SY
  clear EN k1 k2 k3 HM4 HA4' HS4b HW4b c1 c2 c3 c4
  rw [sync_ok hd2] at SY
  go_wp2_with fail
  refine SY.out.mono ?_
  rintro e w6 ⟨rfl, ⟨S6, k1, k2⟩, k3⟩
  have HM6 := hidd (HM5.out.away k3 HTS5.out)
  have HA6 := hidd k1
  have HTS6 : Hid (¬ S6 q) := fun e => by
    rcases k2 q e with e | e
    · exact HTS5.out e
    · have := HM5.out.lt; omega
  have HS6b : Hid (∀ b, S6 b → S b ∨ w.heap.size ≤ b) := fun b e => by
    rcases k2 b e with e | e
    · exact HS5b.out b e
    · have := HW5b.out.size; exact .inr (by omega)
  have HW6b := hidd (HW5b.out.trans k3 fun b e => HS5b.out b e)
  clear SY k1 k2 k3 HM5 HA5 HS5b HW5b c0 c5
  go_wp2_with fail
  refine (MO.out _).mono ?_
  rintro e w7 ⟨rfl, rfl⟩
  obtain ⟨c0, c1, c2, c3, c4, c5⟩ := HM6.out.c
  have z5 := HM6.out.fz 5
  clear c0 c1 c2 c3 c4
  have HMZ : Hid (WM (w7.setCell ⟨q, 5, none⟩ (.int .i64 0)) q p f r ⟨0, 0, 0⟩ T) := HM6.out.set5 0
  have HAZ := hidd (oat_set (i := 5) (v := .int .i64 0) HA6.out HTS6.out)
  have HWZ := hidd ((HW6b.out.wide (S' := fun b => S b ∨ b = q) fun b e => .inl e).trans (away_set w7 q 5 (.int .i64 0)) fun b e => .inl (.inr e))
  go_wp2
  go_ret
  refine ⟨rfl, ⟨S6, ?_, HS6b.out⟩, HMZ.out, HWZ.out⟩
  rw [← H1.out, ← H2.out]
  exact HAZ.out
theorem laid_half {f r h : Nat} {bs : List (List ByteArray)} {P : List UInt8} (H : LaidP f r h bs P) (hr : 64 ≤ r) : ∃ rest, (P.drop (offN r h)).take (offN r h + limN r + 1 - offN r h) = layB bs ++ 0 :: rest := by
  have ho := off_room hr H.half
  have hl := H.len
  have hfit := H.fits
  obtain ⟨X, hX⟩ : ∃ X, (P.drop (offN r h)).take (offN r h + limN r + 1 - offN r h) = X := ⟨_, rfl⟩
  have hXl : X.length = limN r + 1 := by rw [← hX, List.length_take, List.length_drop]; omega
  have hXg : ∀ i, i < limN r + 1 → X[i]? = P[offN r h + i]? := fun i hi => by rw [← hX, List.getElem?_take_of_lt (by omega), List.getElem?_drop]
  have h1 : X.take (sumC bs) = layB bs := by
    apply List.ext_getElem?
    intro i
    by_cases hi : i < sumC bs
    · rw [List.getElem?_take_of_lt hi, hXg i (by omega), H.lies i hi]
    · rw [List.getElem?_eq_none (by rw [List.length_take]; omega), List.getElem?_eq_none (by rw [lay_length]; omega)]
  have h2 : X.drop (sumC bs) = 0 :: X.drop (sumC bs + 1) := by
    rw [List.drop_eq_getElem_cons (by omega)]
    congr 1
    have := hXg (sumC bs) (by omega)
    rw [H.zero, List.getElem?_eq_getElem (by omega)] at this
    exact Option.some.inj this
  refine ⟨X.drop (sumC bs + 1), ?_⟩
  rw [hX]
  have e := List.take_append_drop (sumC bs) X
  rw [h1, h2] at e
  exact e.symm
theorem out_new {base : Nat} {w : World} {a : Option Addr} {cap q : Nat} {l : List UInt8} (h : OutB base w a cap l) (hl : 0 < l.length) (hq : q < base) : ∀ b off, a = some ⟨b, off, none⟩ → b ≠ q := by
  intro b off e e2
  rcases h.2 with h0 | ⟨g, o, h1, h2, _⟩
  · rw [h0] at hl; cases hl
  · rw [h1] at e; cases e; omega
set_option maxHeartbeats 8000000 in
theorem bBeginLd (w : World) (tb : TabW w) (q p f r : Nat) (T : Nat → Prop) (D : DkT) (S : Nat → Prop) (hM : WM w q p f r ⟨0, 0, 0⟩ T) (hA : OAt w p D S) (hp : D.puts.length ≤ 500000) (hTS : ¬ S q) (hr : 64 ≤ r ∧ r ≤ 1000000) (hf : f + r ≤ D.safe.length) (h : Nat) (bs : List (List ByteArray)) (hLd : LaidP f r h bs (sub (nowB D) f r)) (hd : D.down = true) :
    Calls Tryz.prog 20 #[ptr q] w fun e w' => e = gaveUp 80 ∧ (∃ S', OAt w' p D S' ∧ (∀ b, S' b → S b ∨ w.heap.size ≤ b)) ∧ Away (fun b => S b ∨ b = q) w w' := by
  have ok := hA.ok
  have hrm := ok.room
  obtain ⟨hrb, hre, hrl⟩ := rd_part ok hf
  obtain ⟨hr1, hr2⟩ := hr
  have hlim := limN_room hr1
  have hf6 : f ≤ 1000000 := by omega
  have RD := hidd (diskC.read w.drew p D S (hA.below (Below.refl _ _).drew) (f : Int) (r : Int) (by unfold In64; omega) (by unfold In64; omega))
  rw [hrl, hre] at RD
  have HRB := hidd hrb
  have hrl0 := hrl
  have HA := hidd hA
  have HM := hidd hM
  have HTB := hidd tb
  have HTS := hidd hTS
  have HOK := hidd ok
  have HHF := hidd hf
  have MO : Hid (∀ W, Calls Tryz.prog 43 #[.int .i64 0] W fun e w' => e = .returned (.tuple #[]) ∧ w' = W) := fun W => bMustOk W
  obtain ⟨c0, c1, c2, c3, c4, c5⟩ := hM.c
  have HC := hidd (And.intro c0 (And.intro c1 c2))
  clear hM hA tb hTS ok hrb hre hrl c0 c1 c2 c3 c4 c5 hf
  unfold ptr
  unfold ptr at RD
  go_enter Tryz.func20, Tryz.ntmps20
  go_wp2
  refine wp_region_held_drew (S := (fun W => W.cell? ⟨q, 0, none⟩ = some (.pointer (some ⟨p, 0, none⟩)) ∧ W.cell? ⟨q, 1, none⟩ = some (.int .i64 (f : Int)) ∧ W.cell? ⟨q, 2, none⟩ = some (.int .i64 (r : Int)))) (by kernel_rfl) HC.out (fun hHeld => ?_)
  refine zX 0 (.pointer (some ⟨q, 0, none⟩)) rfl hHeld ?_
  try simp only [Act.put, pS1, pS2, pS3]
  refine zX 1 (.pointer (some ⟨q, 0, none⟩)) rfl hHeld ?_
  try simp only [Act.put, pS1, pS2, pS3]
  refine zX 2 (.pointer (some ⟨q, 0, none⟩)) rfl hHeld ?_
  try simp only [Act.put, pS1, pS2, pS3]
  refine zW 3 (.pointer (some ⟨p, 0, none⟩)) rfl (Or.inl ⟨by rfl, by intro W hSw; have h1 := hSw.1; go_simp⟩) hHeld ?_
  try simp only [Act.put, pS1, pS2, pS3]
  refine zX 4 (.pointer (some ⟨q, 0, none⟩)) rfl hHeld ?_
  try simp only [Act.put, pS1, pS2, pS3]
  refine zX 5 (.pointer (some ⟨q, 0, none⟩)) rfl hHeld ?_
  try simp only [Act.put, pS1, pS2, pS3]
  refine zX 6 (.pointer (some ⟨q, 1, none⟩)) rfl hHeld ?_
  try simp only [Act.put, pS1, pS2, pS3]
  refine zW 7 (.int .i64 (f : Int)) rfl (Or.inl ⟨by rfl, by intro W hSw; have h1 := hSw.2.1; go_simp⟩) hHeld ?_
  try simp only [Act.put, pS1, pS2, pS3]
  refine zX 8 (.pointer (some ⟨q, 0, none⟩)) rfl hHeld ?_
  try simp only [Act.put, pS1, pS2, pS3]
  refine zX 9 (.pointer (some ⟨q, 0, none⟩)) rfl hHeld ?_
  try simp only [Act.put, pS1, pS2, pS3]
  refine zX 10 (.pointer (some ⟨q, 2, none⟩)) rfl hHeld ?_
  try simp only [Act.put, pS1, pS2, pS3]
  refine zW 11 (.int .i64 (r : Int)) rfl (Or.inl ⟨by rfl, by intro W hSw; have h1 := hSw.2.2; go_simp⟩) hHeld ?_
  try simp only [Act.put, pS1, pS2, pS3]
  refine wpAnyH_ready (rs := [12]) (by kernel_rfl) (by simp) ?_
  refine (AllReadyH.cons (o := { dst := some 20, op := .call { callee := .value (.func 42), args := #[.tmp 11, .tmp 15, .tmp 19], argTypes := #[27, 3, 3] }, type := 35, pos := "wal.go:125", after := #[zD 3, zD 7, zD 11], guard := none }) rfl (fun K hK => ?_) AllReadyH.nil)
  go_simp
  refine RD.out.mono ?_
  rintro e w1 ⟨⟨a1, cap1, rfl, ho1⟩, hb1⟩
  have HB1 := hidd ((Below.refl w.heap.size w).drew.trans hb1)
  have HNQ : Hid (∀ b off, a1 = some ⟨b, off, none⟩ → b ≠ q) := out_new ho1 (by rw [hrl0]; omega) HM.out.lt
  have hrd1 := ho1.1
  rw [HRB.out] at hrd1
  have hsl := sub_length (f := f) (r := r) (s := nowB D) (by rw [nowB_length HOK.out]; exact HHF.out)
  rw [hsl] at hrd1
  have HR1 := hidd hrd1
  have HRD := hidd RD
  clear ho1 hrd1 hsl RD
  go_wp2_with fail
  refine hK.out _ _ ⟨(hb1.cell (p := ⟨q, 0, none⟩) HM.out.lt).trans hHeld.1, (hb1.cell (p := ⟨q, 1, none⟩) HM.out.lt).trans hHeld.2.1, (hb1.cell (p := ⟨q, 2, none⟩) HM.out.lt).trans hHeld.2.2⟩ (fun hHeld => ?_)
  clear hK K
  try simp only [Act.put, pS1, pS2, pS3]
  refine zX 13 (.tuple #[.slice a1 r cap1, .int .i64 0]) rfl hHeld ?_
  try simp only [Act.put, pS1, pS2, pS3]
  refine zX 14 (.slice a1 r cap1) rfl hHeld ?_
  try simp only [Act.put, pS1, pS2, pS3]
  refine zX 15 (.int .i64 0) rfl hHeld ?_
  try simp only [Act.put, pS1, pS2, pS3]
  refine zX 16 (.slice a1 r cap1) rfl hHeld ?_
  try simp only [Act.put, pS1, pS2, pS3]
  refine zX 17 (.int .i64 0) rfl hHeld ?_
  try simp only [Act.put, pS1, pS2, pS3]
  refine wpAnyH_done (by kernel_rfl) ?_ _
  clear hHeld HC
  go_wp2_with fail
  refine (MO.out _).mono ?_
  rintro e w1b ⟨rfl, rfl⟩
  have HM1 := hidd (HM.out.below HB1.out)
  have HA1 := hidd (HA.out.below HB1.out)
  have HTB1 := hidd (HTB.out.on HB1.out)
  have IN := hidd (bIsNew w1b q p f r _ T HM1.out hf6 ⟨hr1, hr2⟩ HTB1.out a1 cap1 _ HR1.out false (.inr ⟨_, hLd.mark, (by intro e; have h2 := congrArg UInt8.toNat e; rw [UInt8.toNat_ofNat] at h2; have h3 := hLd.half; have h4 : (h + 1) % 256 = 0 := h2; omega), rfl⟩))
  unfold ptr at IN
  go_wp2_with fail
  refine IN.out.mono ?_
  rintro e w2 ⟨rfl, hb2⟩
  have HB2 := hidd (HB1.out.trans (hb2.mono HB1.out.size))
  have HM2 := hidd (HM1.out.below hb2)
  have HA2 := hidd (HA1.out.below hb2)
  have HTB2 := hidd (HTB1.out.on hb2)
  have HR2 := hidd (HR1.out.below hb2)
  clear IN hb2 HM1 HA1 HTB1 HR1
  have IF := hidd (bInForce w2 q p f r _ T HM2.out hf6 ⟨hr1, hr2⟩ HTB2.out a1 cap1 _ HR2.out h bs hLd)
  unfold ptr at IF
  have hhb := hLd.half
  go_wp2_with fail
  refine IF.out.mono ?_
  rintro e w3 ⟨rfl, hb3⟩
  have HM3 := hidd (HM2.out.below hb3)
  have HA3 := hidd (HA2.out.below hb3)
  have HR3 := hidd (HR2.out.below hb3)
  have HB3 := hidd (HB2.out.trans (hb3.mono HB2.out.size))
  obtain ⟨c0, c1, c2, c3, c4, c5⟩ := HM3.out.c
  have z3 := HM3.out.fz 3
  have HM4 : Hid (WM (w3.setCell ⟨q, 3, none⟩ (.int .i64 h)) q p f r ⟨h, 0, 0⟩ T) := HM3.out.set3 h
  have HA4 := hidd (oat_set (i := 3) (v := .int .i64 h) HA3.out HTS.out)
  have HW4 := hidd ((Away.of_below (S := fun b => S b ∨ b = q) HB3.out).trans (away_set w3 q 3 (.int .i64 h)) fun b e => .inl (.inr e))
  have HR4 : Hid (Reads (w3.setCell ⟨q, 3, none⟩ (.int .i64 h)) a1 r cap1 (sub (nowB D) f r)) := HR3.out.away (away_set w3 q 3 (.int .i64 h)) fun b off e h0 e2 => by
    have := HNQ.out b off e
    exact this e2
  clear IF hb3 HM2 HA2 HR2 HTB2 HB2 c0 c1 c2 c4 c5
  go_wp2
  obtain ⟨w4, H4⟩ : ∃ w4, Hid (w4 = w3.setCell ⟨q, 3, none⟩ (.int .i64 h)) := ⟨_, hidd rfl⟩
  rw [← H4.out] at HM4 HA4 HW4 HR4
  rw [← H4.out]
  have PL := hidd (bPlace w4.drew q p f r _ T HM4.out.drew ⟨hr1, hr2⟩ hf6 h 0 hhb (by omega))
  unfold ptr at PL
  have hoff := off_room hr1 hhb
  have HPE : Hid ((((f + (offN r h + 0) : Nat)) : Int) - (f : Int) = (offN r h : Int)) := by show _ = _; omega
  have HPF : Hid ((((f + (offN r h + 0) : Nat)) : Int) ≤ 2000000 ∧ 0 ≤ (((f + (offN r h + 0) : Nat)) : Int)) := ⟨by omega, by omega⟩
  obtain ⟨fo, Hfo⟩ : ∃ z : Int, Hid (z = (((f + (offN r h + 0) : Nat)) : Int)) := ⟨_, hidd rfl⟩
  rw [← Hfo.out] at PL HPE HPF
  have hpf := HPF.out
  have wfo := wrap_int (fo - (f : Int)) (by omega) (by omega)
  obtain ⟨c0, c1, c2, c3, c4, c5⟩ := HM4.out.c
  have HC8 : Hid (w4.cell? ⟨q, 1, none⟩ = some (.int .i64 (f : Int)) ∧ w4.cell? ⟨q, 3, none⟩ = some (.int .i64 (h : Int))) := ⟨c1, c3⟩
  clear c0 c1 c2 c3 c4 c5 HM3 HA3 HR3 HB3 z3 H4
  have HM5 : Hid (WM w4.drew.drew q p f r ⟨h, 0, 0⟩ T) := HM4.out.drew.drew
  have HA5 : Hid (OAt w4.drew.drew p D S) := (HA4.out.below (Below.refl _ _).drew).below (Below.refl _ _).drew
  have HW5 : Hid (Away (fun b => S b ∨ b = q) w w4.drew.drew) := ⟨HW4.out.os, HW4.out.tape, HW4.out.output, HW4.out.size, HW4.out.block⟩
  have HR5 : Hid (Reads w4.drew.drew a1 r cap1 (sub (nowB D) f r)) := HR4.out.drew.drew
  obtain ⟨w5, H5⟩ : ∃ w5, Hid (w5 = w4.drew.drew) := ⟨_, hidd rfl⟩
  rw [← H5.out] at HM5 HA5 HW5 HR5 PL
  refine wp_region_held_drew (S := (fun W => W.cell? ⟨q, 1, none⟩ = some (.int .i64 (f : Int)) ∧ W.cell? ⟨q, 3, none⟩ = some (.int .i64 (h : Int)))) (by kernel_rfl) HC8.out (fun hHeld => ?_)
  refine zX 0 (.pointer (some ⟨q, 0, none⟩)) rfl hHeld ?_
  try simp only [Act.put, pS1, pS2, pS3]
  refine zX 1 (.pointer (some ⟨q, 0, none⟩)) rfl hHeld ?_
  try simp only [Act.put, pS1, pS2, pS3]
  refine zX 2 (.pointer (some ⟨q, 0, none⟩)) rfl hHeld ?_
  try simp only [Act.put, pS1, pS2, pS3]
  refine zX 3 (.pointer (some ⟨q, 3, none⟩)) rfl hHeld ?_
  try simp only [Act.put, pS1, pS2, pS3]
  refine zW 4 (.int .i64 (h : Int)) rfl (Or.inl ⟨by rfl, by intro W hSw; have h1 := hSw.2; go_simp⟩) hHeld ?_
  try simp only [Act.put, pS1, pS2, pS3]
  refine zX 6 (.pointer (some ⟨q, 0, none⟩)) rfl hHeld ?_
  try simp only [Act.put, pS1, pS2, pS3]
  refine zX 7 (.pointer (some ⟨q, 0, none⟩)) rfl hHeld ?_
  try simp only [Act.put, pS1, pS2, pS3]
  refine zX 8 (.pointer (some ⟨q, 1, none⟩)) rfl hHeld ?_
  try simp only [Act.put, pS1, pS2, pS3]
  refine zW 9 (.int .i64 (f : Int)) rfl (Or.inl ⟨by rfl, by intro W hSw; have h1 := hSw.1; go_simp⟩) hHeld ?_
  try simp only [Act.put, pS1, pS2, pS3]
  refine wpAnyH_ready (rs := [5]) (by kernel_rfl) (by simp) ?_
  refine (AllReadyH.cons (o := { dst := some 54, op := .call { callee := .value (.func 29), args := #[.tmp 49, .tmp 53, .const (.int .i64 0)], argTypes := #[30, 3, 3] }, type := 3, pos := "wal.go:133", after := #[zD 0, zD 4], guard := none }) rfl (fun K hK => ?_) AllReadyH.nil)
  go_simp
  refine PL.out.mono ?_
  rintro e w9 ⟨rfl, e9⟩
  replace e9 := e9.symm
  subst e9
  go_wp2_with fail
  refine hK.out _ _ (by rw [H5.out]; exact hHeld) (fun hHeld => ?_)
  clear hK K
  try simp only [Act.put, pS1, pS2, pS3]
  refine zW 10 (.int .i64 ((offN r h : Nat) : Int)) rfl (Or.inl ⟨by rfl, by intro W hSw; go_simp; exact HPE.out⟩) hHeld ?_
  try simp only [Act.put, pS1, pS2, pS3]
  refine zX 11 (.int .i64 ((offN r h : Nat) : Int)) rfl hHeld ?_
  try simp only [Act.put, pS1, pS2, pS3]
  refine wpAnyH_done (by kernel_rfl) ?_ _
  clear hHeld HC8
  obtain ⟨o, Ho⟩ : ∃ o, Hid (o = offN r h) := ⟨_, hidd rfl⟩
  obtain ⟨m, Hm⟩ : ∃ m, Hid (m = limN r) := ⟨_, hidd rfl⟩
  have hor : 30 ≤ o ∧ o + m + 1 ≤ r := by rw [Ho.out, Hm.out]; exact off_room hr1 hhb
  obtain ⟨rest, hrest⟩ := laid_half hLd hr1
  have hcap1 : r ≤ cap1 := HR5.out.2.1
  have hpart := HR5.out.part (offN r h) (offN r h + limN r + 1) (by omega) (by rw [← Ho.out, ← Hm.out]; omega)
  rw [hrest] at hpart
  have SL : Hid (∀ W, (Instr.sliceAt 34 (.slice a1 r cap1) (some (.int .i64 (o : Nat))) (some (.int .i64 ((o : Int) + (m : Int) + 1))) none).run Tryz.prog W = .ok (.slice (subA a1 cap1 (offN r h)) (offN r h + limN r + 1 - offN r h) (cap1 - offN r h)) W) := fun W => by
    have e1 : ((o : Int) + (m : Int) + 1) = ((o + m + 1 : Nat) : Int) := by omega
    rw [e1, ← Ho.out, ← Hm.out]
    exact slice_mid W a1 r cap1 o (o + m + 1) (by omega) (by omega)
  have LM := hidd (bLimit w5 q p f r _ T HM5.out ⟨hr1, hr2⟩)
  rw [← Hm.out] at LM
  have BT := hidd (bBatches _ _ _ bs rest w5 hpart hLd.ok (by rw [← Ho.out, ← Hm.out]; omega))
  obtain ⟨a6, A6⟩ : ∃ z, Hid (z = subA a1 cap1 (offN r h)) := ⟨_, hidd rfl⟩
  obtain ⟨m6, M6⟩ : ∃ z, Hid (z = offN r h + limN r + 1 - offN r h) := ⟨_, hidd rfl⟩
  obtain ⟨c6, C6⟩ : ∃ z, Hid (z = cap1 - offN r h) := ⟨_, hidd rfl⟩
  rw [← A6.out, ← M6.out, ← C6.out] at SL BT
  have wo1 := wrap_int ((o : Int) + (m : Int)) (by omega) (by omega)
  have wo2 := wrap_int ((o : Int) + (m : Int) + 1) (by omega) (by omega)
  have SLo := SL.out
  unfold ptr at LM
  rw [← Ho.out]
  clear hpart hrest A6 M6 C6
  go_wp2_with fail
  refine LM.out.mono ?_
  rintro e w6 ⟨rfl, e6⟩
  replace e6 := e6.symm
  subst e6
  go_wp2_with fail
  refine BT.out.mono ?_
  rintro e w7 ⟨v7, rfl, ho7, hb7⟩
  obtain ⟨F, HF⟩ : ∃ F, Hid (F = bs.flatten) := ⟨_, hidd rfl⟩
  rw [← HF.out] at ho7
  have HO7 := hidd ho7
  obtain ⟨a7, c7, e7, hc7⟩ := own_slice ho7
  subst e7
  have hFl : F.length ≤ 1000000 := by rw [HF.out]; have h1 := flat_count bs; have h2 := hLd.fits; have h3 := hor.2; rw [Hm.out] at h3; omega
  have hFm : F.length ≤ 9223372036854775807 := by omega
  have HM7 := hidd (HM5.out.below hb7)
  have HA7 := hidd (HA5.out.below hb7)
  have HW7 := hidd (HW5.out.trans (Away.of_below (S := fun b => b = q) hb7) fun b e => .inl (.inr e))
  have hq7 : ∀ b, (Value.slice a7 F.length c7).ownBlock = some b → ¬ S b ∧ b ≠ q ∧ w.heap.size ≤ b := fun b e => by
    have h1 := row_lowT ho7 b e
    refine ⟨fun e2 => ?_, fun e2 => ?_, ?_⟩
    · have := HA5.out.lt b e2; omega
    · have := HM5.out.lt; omega
    · have := HW5.out.size; omega
  have HQ7 := hidd hq7
  obtain ⟨u, Hu⟩ : ∃ u, Hid (u = sumC bs) := ⟨_, hidd rfl⟩
  rw [← Hu.out]
  obtain ⟨c0, c1, c2, c3, c4, c5⟩ := HM7.out.c
  have z4 := HM7.out.fz 4
  have HM8 : Hid (WM (w7.setCell ⟨q, 4, none⟩ (.int .i64 u)) q p f r ⟨h, u, 0⟩ T) := HM7.out.set4 u
  have HA8 := hidd (oat_set (i := 4) (v := .int .i64 u) HA7.out HTS.out)
  have HO8 : Hid ((w7.setCell ⟨q, 4, none⟩ (.int .i64 u)).ownsRow w5.heap.size 9 1 (.slice a7 F.length c7) F.length (strL F)) := own_keepT HO7.out fun b e => (away_set w7 q 4 (.int .i64 u)).block b (own_inT HO7.out b e) (HQ7.out b e).2.1
  have HW8 := hidd (HW7.out.trans (away_set w7 q 4 (.int .i64 u)) fun b e => .inl (.inr e))
  obtain ⟨w8, H8⟩ : ∃ w8, Hid (w8 = w7.setCell ⟨q, 4, none⟩ (.int .i64 u)) := ⟨_, hidd rfl⟩
  have hs5 : w.heap.size ≤ w5.heap.size := HW5.out.size
  clear LM BT SL SLo ho7 hb7 hq7 c1 c2 c3 c5 HM5 HA5 HW5 HM7 HA7 HW7 HO7 HR5 hcap1 H8
  have SY := hidd (diskC.sync (w7.setCell ⟨q, 4, none⟩ (.int .i64 u)) p D S HA8.out)
  unfold ptr at SY
  rw [(sync_no hd).1, (sync_no hd).2] at SY
  go_wp2_with fail
  refine SY.out.mono ?_
  rintro e w9 ⟨rfl, ⟨S9, k1, k2⟩, k3⟩
  have HFF : Hid ((∃ S', OAt w9 p D S' ∧ (∀ b, S' b → S b ∨ w.heap.size ≤ b)) ∧ Away (fun b => S b ∨ b = q) w w9) := ⟨⟨S9, k1, fun b e => by
    rcases k2 b e with e | e
    · exact .inl e
    · have := HW8.out.size; exact .inr (by omega)⟩, HW8.out.trans k3 fun b e => .inl (.inl e)⟩
  have MN := hidd (bMustNo w9)
  clear SY k1 k2 k3
  go_wp2_with fail
  refine MN.out.mono ?_
  rintro e w10 ⟨rfl, rfl⟩
  exact ⟨rfl, rfl, HFF.out⟩
  
set_option maxHeartbeats 8000000 in
theorem bBeginLo (w : World) (tb : TabW w) (q p f r : Nat) (T : Nat → Prop) (D : DkT) (S : Nat → Prop) (hM : WM w q p f r ⟨0, 0, 0⟩ T) (hA : OAt w p D S) (hp : D.puts.length ≤ 500000) (hTS : ¬ S q) (hr : 64 ≤ r ∧ r ≤ 1000000) (hf : f + r ≤ D.safe.length) (h : Nat) (bs : List (List ByteArray)) (hLd : LaidP f r h bs (sub (nowB D) f r)) (hd : D.down = false) :
    Calls Tryz.prog 20 #[ptr q] w fun e w' => ∃ v, e = .returned v ∧ w'.ownsRow w.heap.size 9 1 v bs.flatten.length (strL bs.flatten) ∧ (∃ S', OAt w' p (syncD D) S' ∧ (∀ b, S' b → S b ∨ w.heap.size ≤ b) ∧ (∀ b, v.ownBlock = some b → ¬ S' b)) ∧ WM w' q p f r ⟨h, sumC bs, bs.flatten.length⟩ T ∧ Away (fun b => S b ∨ b = q) w w' := by
  have ok := hA.ok
  have hrm := ok.room
  obtain ⟨hrb, hre, hrl⟩ := rd_part ok hf
  obtain ⟨hr1, hr2⟩ := hr
  have hlim := limN_room hr1
  have hf6 : f ≤ 1000000 := by omega
  have RD := hidd (diskC.read w.drew p D S (hA.below (Below.refl _ _).drew) (f : Int) (r : Int) (by unfold In64; omega) (by unfold In64; omega))
  rw [hrl, hre] at RD
  have HRB := hidd hrb
  have hrl0 := hrl
  have HA := hidd hA
  have HM := hidd hM
  have HTB := hidd tb
  have HTS := hidd hTS
  have HOK := hidd ok
  have HHF := hidd hf
  have MO : Hid (∀ W, Calls Tryz.prog 43 #[.int .i64 0] W fun e w' => e = .returned (.tuple #[]) ∧ w' = W) := fun W => bMustOk W
  obtain ⟨c0, c1, c2, c3, c4, c5⟩ := hM.c
  have HC := hidd (And.intro c0 (And.intro c1 c2))
  clear hM hA tb hTS ok hrb hre hrl c0 c1 c2 c3 c4 c5 hf
  unfold ptr
  unfold ptr at RD
  go_enter Tryz.func20, Tryz.ntmps20
  go_wp2
  refine wp_region_held_drew (S := (fun W => W.cell? ⟨q, 0, none⟩ = some (.pointer (some ⟨p, 0, none⟩)) ∧ W.cell? ⟨q, 1, none⟩ = some (.int .i64 (f : Int)) ∧ W.cell? ⟨q, 2, none⟩ = some (.int .i64 (r : Int)))) (by kernel_rfl) HC.out (fun hHeld => ?_)
  refine zX 0 (.pointer (some ⟨q, 0, none⟩)) rfl hHeld ?_
  try simp only [Act.put, pS1, pS2, pS3]
  refine zX 1 (.pointer (some ⟨q, 0, none⟩)) rfl hHeld ?_
  try simp only [Act.put, pS1, pS2, pS3]
  refine zX 2 (.pointer (some ⟨q, 0, none⟩)) rfl hHeld ?_
  try simp only [Act.put, pS1, pS2, pS3]
  refine zW 3 (.pointer (some ⟨p, 0, none⟩)) rfl (Or.inl ⟨by rfl, by intro W hSw; have h1 := hSw.1; go_simp⟩) hHeld ?_
  try simp only [Act.put, pS1, pS2, pS3]
  refine zX 4 (.pointer (some ⟨q, 0, none⟩)) rfl hHeld ?_
  try simp only [Act.put, pS1, pS2, pS3]
  refine zX 5 (.pointer (some ⟨q, 0, none⟩)) rfl hHeld ?_
  try simp only [Act.put, pS1, pS2, pS3]
  refine zX 6 (.pointer (some ⟨q, 1, none⟩)) rfl hHeld ?_
  try simp only [Act.put, pS1, pS2, pS3]
  refine zW 7 (.int .i64 (f : Int)) rfl (Or.inl ⟨by rfl, by intro W hSw; have h1 := hSw.2.1; go_simp⟩) hHeld ?_
  try simp only [Act.put, pS1, pS2, pS3]
  refine zX 8 (.pointer (some ⟨q, 0, none⟩)) rfl hHeld ?_
  try simp only [Act.put, pS1, pS2, pS3]
  refine zX 9 (.pointer (some ⟨q, 0, none⟩)) rfl hHeld ?_
  try simp only [Act.put, pS1, pS2, pS3]
  refine zX 10 (.pointer (some ⟨q, 2, none⟩)) rfl hHeld ?_
  try simp only [Act.put, pS1, pS2, pS3]
  refine zW 11 (.int .i64 (r : Int)) rfl (Or.inl ⟨by rfl, by intro W hSw; have h1 := hSw.2.2; go_simp⟩) hHeld ?_
  try simp only [Act.put, pS1, pS2, pS3]
  refine wpAnyH_ready (rs := [12]) (by kernel_rfl) (by simp) ?_
  refine (AllReadyH.cons (o := { dst := some 20, op := .call { callee := .value (.func 42), args := #[.tmp 11, .tmp 15, .tmp 19], argTypes := #[27, 3, 3] }, type := 35, pos := "wal.go:125", after := #[zD 3, zD 7, zD 11], guard := none }) rfl (fun K hK => ?_) AllReadyH.nil)
  go_simp
  refine RD.out.mono ?_
  rintro e w1 ⟨⟨a1, cap1, rfl, ho1⟩, hb1⟩
  have HB1 := hidd ((Below.refl w.heap.size w).drew.trans hb1)
  have HNQ : Hid (∀ b off, a1 = some ⟨b, off, none⟩ → b ≠ q) := out_new ho1 (by rw [hrl0]; omega) HM.out.lt
  have hrd1 := ho1.1
  rw [HRB.out] at hrd1
  have hsl := sub_length (f := f) (r := r) (s := nowB D) (by rw [nowB_length HOK.out]; exact HHF.out)
  rw [hsl] at hrd1
  have HR1 := hidd hrd1
  have HRD := hidd RD
  clear ho1 hrd1 hsl RD
  go_wp2_with fail
  refine hK.out _ _ ⟨(hb1.cell (p := ⟨q, 0, none⟩) HM.out.lt).trans hHeld.1, (hb1.cell (p := ⟨q, 1, none⟩) HM.out.lt).trans hHeld.2.1, (hb1.cell (p := ⟨q, 2, none⟩) HM.out.lt).trans hHeld.2.2⟩ (fun hHeld => ?_)
  clear hK K
  try simp only [Act.put, pS1, pS2, pS3]
  refine zX 13 (.tuple #[.slice a1 r cap1, .int .i64 0]) rfl hHeld ?_
  try simp only [Act.put, pS1, pS2, pS3]
  refine zX 14 (.slice a1 r cap1) rfl hHeld ?_
  try simp only [Act.put, pS1, pS2, pS3]
  refine zX 15 (.int .i64 0) rfl hHeld ?_
  try simp only [Act.put, pS1, pS2, pS3]
  refine zX 16 (.slice a1 r cap1) rfl hHeld ?_
  try simp only [Act.put, pS1, pS2, pS3]
  refine zX 17 (.int .i64 0) rfl hHeld ?_
  try simp only [Act.put, pS1, pS2, pS3]
  refine wpAnyH_done (by kernel_rfl) ?_ _
  clear hHeld HC
  go_wp2_with fail
  refine (MO.out _).mono ?_
  rintro e w1b ⟨rfl, rfl⟩
  have HM1 := hidd (HM.out.below HB1.out)
  have HA1 := hidd (HA.out.below HB1.out)
  have HTB1 := hidd (HTB.out.on HB1.out)
  have IN := hidd (bIsNew w1b q p f r _ T HM1.out hf6 ⟨hr1, hr2⟩ HTB1.out a1 cap1 _ HR1.out false (.inr ⟨_, hLd.mark, (by intro e; have h2 := congrArg UInt8.toNat e; rw [UInt8.toNat_ofNat] at h2; have h3 := hLd.half; have h4 : (h + 1) % 256 = 0 := h2; omega), rfl⟩))
  unfold ptr at IN
  go_wp2_with fail
  refine IN.out.mono ?_
  rintro e w2 ⟨rfl, hb2⟩
  have HB2 := hidd (HB1.out.trans (hb2.mono HB1.out.size))
  have HM2 := hidd (HM1.out.below hb2)
  have HA2 := hidd (HA1.out.below hb2)
  have HTB2 := hidd (HTB1.out.on hb2)
  have HR2 := hidd (HR1.out.below hb2)
  clear IN hb2 HM1 HA1 HTB1 HR1
  have IF := hidd (bInForce w2 q p f r _ T HM2.out hf6 ⟨hr1, hr2⟩ HTB2.out a1 cap1 _ HR2.out h bs hLd)
  unfold ptr at IF
  have hhb := hLd.half
  go_wp2_with fail
  refine IF.out.mono ?_
  rintro e w3 ⟨rfl, hb3⟩
  have HM3 := hidd (HM2.out.below hb3)
  have HA3 := hidd (HA2.out.below hb3)
  have HR3 := hidd (HR2.out.below hb3)
  have HB3 := hidd (HB2.out.trans (hb3.mono HB2.out.size))
  obtain ⟨c0, c1, c2, c3, c4, c5⟩ := HM3.out.c
  have z3 := HM3.out.fz 3
  have HM4 : Hid (WM (w3.setCell ⟨q, 3, none⟩ (.int .i64 h)) q p f r ⟨h, 0, 0⟩ T) := HM3.out.set3 h
  have HA4 := hidd (oat_set (i := 3) (v := .int .i64 h) HA3.out HTS.out)
  have HW4 := hidd ((Away.of_below (S := fun b => S b ∨ b = q) HB3.out).trans (away_set w3 q 3 (.int .i64 h)) fun b e => .inl (.inr e))
  have HR4 : Hid (Reads (w3.setCell ⟨q, 3, none⟩ (.int .i64 h)) a1 r cap1 (sub (nowB D) f r)) := HR3.out.away (away_set w3 q 3 (.int .i64 h)) fun b off e h0 e2 => by
    have := HNQ.out b off e
    exact this e2
  clear IF hb3 HM2 HA2 HR2 HTB2 HB2 c0 c1 c2 c4 c5
  go_wp2
  obtain ⟨w4, H4⟩ : ∃ w4, Hid (w4 = w3.setCell ⟨q, 3, none⟩ (.int .i64 h)) := ⟨_, hidd rfl⟩
  rw [← H4.out] at HM4 HA4 HW4 HR4
  rw [← H4.out]
  have PL := hidd (bPlace w4.drew q p f r _ T HM4.out.drew ⟨hr1, hr2⟩ hf6 h 0 hhb (by omega))
  unfold ptr at PL
  have hoff := off_room hr1 hhb
  have HPE : Hid ((((f + (offN r h + 0) : Nat)) : Int) - (f : Int) = (offN r h : Int)) := by show _ = _; omega
  have HPF : Hid ((((f + (offN r h + 0) : Nat)) : Int) ≤ 2000000 ∧ 0 ≤ (((f + (offN r h + 0) : Nat)) : Int)) := ⟨by omega, by omega⟩
  obtain ⟨fo, Hfo⟩ : ∃ z : Int, Hid (z = (((f + (offN r h + 0) : Nat)) : Int)) := ⟨_, hidd rfl⟩
  rw [← Hfo.out] at PL HPE HPF
  have hpf := HPF.out
  have wfo := wrap_int (fo - (f : Int)) (by omega) (by omega)
  obtain ⟨c0, c1, c2, c3, c4, c5⟩ := HM4.out.c
  have HC8 : Hid (w4.cell? ⟨q, 1, none⟩ = some (.int .i64 (f : Int)) ∧ w4.cell? ⟨q, 3, none⟩ = some (.int .i64 (h : Int))) := ⟨c1, c3⟩
  clear c0 c1 c2 c3 c4 c5 HM3 HA3 HR3 HB3 z3 H4
  have HM5 : Hid (WM w4.drew.drew q p f r ⟨h, 0, 0⟩ T) := HM4.out.drew.drew
  have HA5 : Hid (OAt w4.drew.drew p D S) := (HA4.out.below (Below.refl _ _).drew).below (Below.refl _ _).drew
  have HW5 : Hid (Away (fun b => S b ∨ b = q) w w4.drew.drew) := ⟨HW4.out.os, HW4.out.tape, HW4.out.output, HW4.out.size, HW4.out.block⟩
  have HR5 : Hid (Reads w4.drew.drew a1 r cap1 (sub (nowB D) f r)) := HR4.out.drew.drew
  obtain ⟨w5, H5⟩ : ∃ w5, Hid (w5 = w4.drew.drew) := ⟨_, hidd rfl⟩
  rw [← H5.out] at HM5 HA5 HW5 HR5 PL
  refine wp_region_held_drew (S := (fun W => W.cell? ⟨q, 1, none⟩ = some (.int .i64 (f : Int)) ∧ W.cell? ⟨q, 3, none⟩ = some (.int .i64 (h : Int)))) (by kernel_rfl) HC8.out (fun hHeld => ?_)
  refine zX 0 (.pointer (some ⟨q, 0, none⟩)) rfl hHeld ?_
  try simp only [Act.put, pS1, pS2, pS3]
  refine zX 1 (.pointer (some ⟨q, 0, none⟩)) rfl hHeld ?_
  try simp only [Act.put, pS1, pS2, pS3]
  refine zX 2 (.pointer (some ⟨q, 0, none⟩)) rfl hHeld ?_
  try simp only [Act.put, pS1, pS2, pS3]
  refine zX 3 (.pointer (some ⟨q, 3, none⟩)) rfl hHeld ?_
  try simp only [Act.put, pS1, pS2, pS3]
  refine zW 4 (.int .i64 (h : Int)) rfl (Or.inl ⟨by rfl, by intro W hSw; have h1 := hSw.2; go_simp⟩) hHeld ?_
  try simp only [Act.put, pS1, pS2, pS3]
  refine zX 6 (.pointer (some ⟨q, 0, none⟩)) rfl hHeld ?_
  try simp only [Act.put, pS1, pS2, pS3]
  refine zX 7 (.pointer (some ⟨q, 0, none⟩)) rfl hHeld ?_
  try simp only [Act.put, pS1, pS2, pS3]
  refine zX 8 (.pointer (some ⟨q, 1, none⟩)) rfl hHeld ?_
  try simp only [Act.put, pS1, pS2, pS3]
  refine zW 9 (.int .i64 (f : Int)) rfl (Or.inl ⟨by rfl, by intro W hSw; have h1 := hSw.1; go_simp⟩) hHeld ?_
  try simp only [Act.put, pS1, pS2, pS3]
  refine wpAnyH_ready (rs := [5]) (by kernel_rfl) (by simp) ?_
  refine (AllReadyH.cons (o := { dst := some 54, op := .call { callee := .value (.func 29), args := #[.tmp 49, .tmp 53, .const (.int .i64 0)], argTypes := #[30, 3, 3] }, type := 3, pos := "wal.go:133", after := #[zD 0, zD 4], guard := none }) rfl (fun K hK => ?_) AllReadyH.nil)
  go_simp
  refine PL.out.mono ?_
  rintro e w9 ⟨rfl, e9⟩
  replace e9 := e9.symm
  subst e9
  go_wp2_with fail
  refine hK.out _ _ (by rw [H5.out]; exact hHeld) (fun hHeld => ?_)
  clear hK K
  try simp only [Act.put, pS1, pS2, pS3]
  refine zW 10 (.int .i64 ((offN r h : Nat) : Int)) rfl (Or.inl ⟨by rfl, by intro W hSw; go_simp; exact HPE.out⟩) hHeld ?_
  try simp only [Act.put, pS1, pS2, pS3]
  refine zX 11 (.int .i64 ((offN r h : Nat) : Int)) rfl hHeld ?_
  try simp only [Act.put, pS1, pS2, pS3]
  refine wpAnyH_done (by kernel_rfl) ?_ _
  clear hHeld HC8
  obtain ⟨o, Ho⟩ : ∃ o, Hid (o = offN r h) := ⟨_, hidd rfl⟩
  obtain ⟨m, Hm⟩ : ∃ m, Hid (m = limN r) := ⟨_, hidd rfl⟩
  have hor : 30 ≤ o ∧ o + m + 1 ≤ r := by rw [Ho.out, Hm.out]; exact off_room hr1 hhb
  obtain ⟨rest, hrest⟩ := laid_half hLd hr1
  have hcap1 : r ≤ cap1 := HR5.out.2.1
  have hpart := HR5.out.part (offN r h) (offN r h + limN r + 1) (by omega) (by rw [← Ho.out, ← Hm.out]; omega)
  rw [hrest] at hpart
  have SL : Hid (∀ W, (Instr.sliceAt 34 (.slice a1 r cap1) (some (.int .i64 (o : Nat))) (some (.int .i64 ((o : Int) + (m : Int) + 1))) none).run Tryz.prog W = .ok (.slice (subA a1 cap1 (offN r h)) (offN r h + limN r + 1 - offN r h) (cap1 - offN r h)) W) := fun W => by
    have e1 : ((o : Int) + (m : Int) + 1) = ((o + m + 1 : Nat) : Int) := by omega
    rw [e1, ← Ho.out, ← Hm.out]
    exact slice_mid W a1 r cap1 o (o + m + 1) (by omega) (by omega)
  have LM := hidd (bLimit w5 q p f r _ T HM5.out ⟨hr1, hr2⟩)
  rw [← Hm.out] at LM
  have BT := hidd (bBatches _ _ _ bs rest w5 hpart hLd.ok (by rw [← Ho.out, ← Hm.out]; omega))
  obtain ⟨a6, A6⟩ : ∃ z, Hid (z = subA a1 cap1 (offN r h)) := ⟨_, hidd rfl⟩
  obtain ⟨m6, M6⟩ : ∃ z, Hid (z = offN r h + limN r + 1 - offN r h) := ⟨_, hidd rfl⟩
  obtain ⟨c6, C6⟩ : ∃ z, Hid (z = cap1 - offN r h) := ⟨_, hidd rfl⟩
  rw [← A6.out, ← M6.out, ← C6.out] at SL BT
  have wo1 := wrap_int ((o : Int) + (m : Int)) (by omega) (by omega)
  have wo2 := wrap_int ((o : Int) + (m : Int) + 1) (by omega) (by omega)
  have SLo := SL.out
  unfold ptr at LM
  rw [← Ho.out]
  clear hpart hrest A6 M6 C6
  go_wp2_with fail
  refine LM.out.mono ?_
  rintro e w6 ⟨rfl, e6⟩
  replace e6 := e6.symm
  subst e6
  go_wp2_with fail
  refine BT.out.mono ?_
  rintro e w7 ⟨v7, rfl, ho7, hb7⟩
  obtain ⟨F, HF⟩ : ∃ F, Hid (F = bs.flatten) := ⟨_, hidd rfl⟩
  rw [← HF.out] at ho7
  have HO7 := hidd ho7
  obtain ⟨a7, c7, e7, hc7⟩ := own_slice ho7
  subst e7
  have hFl : F.length ≤ 1000000 := by rw [HF.out]; have h1 := flat_count bs; have h2 := hLd.fits; have h3 := hor.2; rw [Hm.out] at h3; omega
  have hFm : F.length ≤ 9223372036854775807 := by omega
  have HM7 := hidd (HM5.out.below hb7)
  have HA7 := hidd (HA5.out.below hb7)
  have HW7 := hidd (HW5.out.trans (Away.of_below (S := fun b => b = q) hb7) fun b e => .inl (.inr e))
  have hq7 : ∀ b, (Value.slice a7 F.length c7).ownBlock = some b → ¬ S b ∧ b ≠ q ∧ w.heap.size ≤ b := fun b e => by
    have h1 := row_lowT ho7 b e
    refine ⟨fun e2 => ?_, fun e2 => ?_, ?_⟩
    · have := HA5.out.lt b e2; omega
    · have := HM5.out.lt; omega
    · have := HW5.out.size; omega
  have HQ7 := hidd hq7
  obtain ⟨u, Hu⟩ : ∃ u, Hid (u = sumC bs) := ⟨_, hidd rfl⟩
  rw [← Hu.out]
  obtain ⟨c0, c1, c2, c3, c4, c5⟩ := HM7.out.c
  have z4 := HM7.out.fz 4
  have HM8 : Hid (WM (w7.setCell ⟨q, 4, none⟩ (.int .i64 u)) q p f r ⟨h, u, 0⟩ T) := HM7.out.set4 u
  have HA8 := hidd (oat_set (i := 4) (v := .int .i64 u) HA7.out HTS.out)
  have HO8 : Hid ((w7.setCell ⟨q, 4, none⟩ (.int .i64 u)).ownsRow w5.heap.size 9 1 (.slice a7 F.length c7) F.length (strL F)) := own_keepT HO7.out fun b e => (away_set w7 q 4 (.int .i64 u)).block b (own_inT HO7.out b e) (HQ7.out b e).2.1
  have HW8 := hidd (HW7.out.trans (away_set w7 q 4 (.int .i64 u)) fun b e => .inl (.inr e))
  obtain ⟨w8, H8⟩ : ∃ w8, Hid (w8 = w7.setCell ⟨q, 4, none⟩ (.int .i64 u)) := ⟨_, hidd rfl⟩
  have hs5 : w.heap.size ≤ w5.heap.size := HW5.out.size
  clear LM BT SL SLo ho7 hb7 hq7 c1 c2 c3 c5 HM5 HA5 HW5 HM7 HA7 HW7 HO7 HR5 hcap1 H8
  have SY := hidd (diskC.sync (w7.setCell ⟨q, 4, none⟩ (.int .i64 u)) p D S HA8.out)
  unfold ptr at SY
  rw [sync_ok hd] at SY
  go_wp2_with fail
  refine SY.out.mono ?_
  rintro e w9 ⟨rfl, ⟨S9, k1, k2⟩, k3⟩
  have hs8 := HW8.out.size
  have HM9 := hidd (HM8.out.away k3 HTS.out)
  have HA9 := hidd k1
  have HTS9 : Hid (¬ S9 q) := fun e => by
    rcases k2 q e with e | e
    · exact HTS.out e
    · have := HM8.out.lt; omega
  have HS9b : Hid (∀ b, S9 b → S b ∨ w.heap.size ≤ b) := fun b e => by
    rcases k2 b e with e | e
    · exact .inl e
    · exact .inr (by omega)
  have HW9 := hidd (HW8.out.trans k3 fun b e => .inl (.inl e))
  have HO9 : Hid (w9.ownsRow w5.heap.size 9 1 (.slice a7 F.length c7) F.length (strL F)) := own_keepT HO8.out fun b e => k3.block b (own_inT HO8.out b e) (HQ7.out b e).1
  have HN9 : Hid (∀ b, (Value.slice a7 F.length c7).ownBlock = some b → ¬ S9 b) := fun b e e2 => by
    rcases k2 b e2 with e3 | e3
    · exact (HQ7.out b e).1 e3
    · have := own_inT HO8.out b e; omega
  clear SY k1 k2 k3 HM8 HA8 HW8 HO8 c0 c4 z4
  go_wp2_with fail
  refine (MO.out _).mono ?_
  rintro e w10 ⟨rfl, rfl⟩
  obtain ⟨c0, c1, c2, c3, c4, c5⟩ := HM9.out.c
  have z5 := HM9.out.fz 5
  have HMZ : Hid (WM (w10.setCell ⟨q, 5, none⟩ (.int .i64 F.length)) q p f r ⟨h, u, F.length⟩ T) := HM9.out.set5 F.length
  have HAZ := hidd (oat_set (i := 5) (v := .int .i64 F.length) HA9.out HTS9.out)
  have HWZ := hidd (HW9.out.trans (away_set w10 q 5 (.int .i64 F.length)) fun b e => .inl (.inr e))
  have HOZ : Hid ((w10.setCell ⟨q, 5, none⟩ (.int .i64 F.length)).ownsRow w.heap.size 9 1 (.slice a7 F.length c7) F.length (strL F)) := own_lower (own_keepT HO9.out fun b e => (away_set w10 q 5 (.int .i64 F.length)).block b (own_inT HO9.out b e) (HQ7.out b e).2.1) hs5
  clear c0 c1 c2 c3 c4 HM9 HA9 HW9 HO9
  go_wp2
  go_ret
  refine ⟨.slice a7 F.length c7, rfl, ?_, ⟨S9, HAZ.out, HS9b.out, HN9.out⟩, ?_, HWZ.out⟩
  · rw [← HF.out]; exact HOZ.out
  · rw [← HF.out, ← Hu.out]; exact HMZ.out
  
structure BegK (w : World) (p q f r : Nat) (D : DkT) (S : Nat → Prop) (L : LgT) (c : Bool) (T : Nat → Prop) (v : Value) (w' : World) : Prop where
  away : Away (fun b => S b ∨ b = q) w w'
  rest : ∃ D' S' rs V, OAt w' p D' S' ∧ (∀ b, S' b → S b ∨ w.heap.size ≤ b) ∧ WentD D D' ∧ FrD f r D D' ∧ w'.ownsRow w.heap.size 9 1 v rs.length (strL rs) ∧ (∀ b, v.ownBlock = some b → ¬ S' b) ∧ rs.length ≤ 1000000 ∧ opensB L rs c = true ∧ WM w' q p f r V T ∧ WP f r V D' (opensL L rs c)
structure BegF (w : World) (p q f r : Nat) (D : DkT) (S : Nat → Prop) (L : LgT) (c : Bool) (w' : World) : Prop where
  away : Away (fun b => S b ∨ b = q) w w'
  rest : ∃ D' S', OAt w' p D' S' ∧ (∀ b, S' b → S b ∨ w.heap.size ≤ b) ∧ WentD D D' ∧ FrD f r D D' ∧ D'.down = true ∧ PA f r D' L c
theorem bBegin (w : World) (tb : TabW w) (q p f r : Nat) (T : Nat → Prop) (D : DkT) (S : Nat → Prop) (hM : WM w q p f r ⟨0, 0, 0⟩ T) (hA : OAt w p D S) (hp : D.puts.length ≤ 500000) (hTS : ¬ S q) (hr : 64 ≤ r ∧ r ≤ 1000000) (hf : f + r ≤ D.safe.length) (L : LgT) (c : Bool) (hP : PA f r D L c) :
    (Calls Tryz.prog 20 #[ptr q] w fun e w' => ∃ v, e = .returned v ∧ BegK w p q f r D S L c T v w') ∨ (Calls Tryz.prog 20 #[ptr q] w fun e w' => e = gaveUp 80 ∧ BegF w p q f r D S L c w') := by
  have ok := hA.ok
  have wide : ∀ {w' : World}, Away S w w' → Away (fun b => S b ∨ b = q) w w' := fun h => h.wide fun b e => .inl e
  obtain ⟨x, hT, hI, hC⟩ := hP.told
  by_cases hd : D.down = true
  · right
    rcases hT with ⟨hN, rfl⟩ | ⟨h, bs, hLd, rfl⟩
    · refine (bBeginNd w tb q p f r T D S hM hA hp hTS hr hf hN hd).mono ?_
      rintro e w' ⟨rfl, ⟨S', k1, k2⟩, k3⟩
      exact ⟨rfl, wide k3, D, S', k1, k2, ⟨rfl, rfl, by omega⟩, FrD.refl _ _ _, hd, hP⟩
    · refine (bBeginLd w tb q p f r T D S hM hA hp hTS hr hf h bs hLd hd).mono ?_
      rintro e w' ⟨rfl, ⟨S', k1, k2⟩, k3⟩
      exact ⟨rfl, k3, D, S', k1, k2, ⟨rfl, rfl, by omega⟩, FrD.refl _ _ _, hd, hP⟩
  · have hd : D.down = false := by simpa using hd
    rcases hT with ⟨hN, rfl⟩ | ⟨h, bs, hLd, rfl⟩
    · obtain ⟨e1, ok1, f1, p1, l1, n1, s1, hx⟩ := open_new ok hP hd hN hI (fun e => (hC e hd).1)
      by_cases hd1 : (nameD f r D).down = true
      · right
        refine (bBeginN1 w tb q p f r T D S hM hA hp hTS hr hf hN e1 hd1).mono ?_
        rintro e w' ⟨rfl, ⟨S', k1, k2⟩, k3⟩
        exact ⟨rfl, wide k3, _, S', k1, k2, ⟨l1, s1, by omega⟩, f1, hd1, p1⟩
      · have hd1 : (nameD f r D).down = false := by simpa using hd1
        obtain ⟨e2, ok2, f2, p2, l2, n2, s2, hLd⟩ := hx hd1
        by_cases hd2 : (markD f 0 (nameD f r D)).down = true
        · right
          refine (bBeginN2 w tb q p f r T D S hM hA hp hTS hr hf hN e1 e2 hd2).mono ?_
          rintro e w' ⟨rfl, ⟨S', k1, k2⟩, k3⟩
          exact ⟨rfl, wide k3, _, S', k1, k2, ⟨l2, s2, by omega⟩, f2, hd2, p2⟩
        · left
          have hd2 : (markD f 0 (nameD f r D)).down = false := by simpa using hd2
          obtain ⟨t1, t2⟩ := open_through (L := L) (c := c) ok2 hd2 (by rw [l2]; exact hP.room) hLd hI (fun e => ⟨(hC e hd).1, Nat.zero_le _⟩)
          refine (bBeginN3 w tb q p f r T D S hM hA hp hTS hr hf hN e1 e2 hd2).mono ?_
          rintro e w' ⟨rfl, ⟨S', k1, k2⟩, k3, k4⟩
          have hs := syncD_puts (markD f 0 (nameD f r D))
          exact ⟨_, rfl, k4, _, S', [], ⟨0, 0, 0⟩, k1, k2, ⟨(syncD_room ok2).trans l2, (sync_stops _).trans s2, by omega⟩, f2.trans (FrD.sync ok2), World.ownsRow_nil _ _ 9 1, (fun b e => by cases e), by show 0 ≤ 1000000; omega, t1, k3, t2⟩
    · left
      obtain ⟨t1, t2⟩ := open_through (L := L) (c := c) ok hd hP.room hLd hI (fun e => hC e hd)
      refine (bBeginLo w tb q p f r T D S hM hA hp hTS hr hf h bs hLd hd).mono ?_
      rintro e w' ⟨v, rfl, k0, ⟨S', k1, k2, k5⟩, k3, k4⟩
      have hs := syncD_puts D
      have hfc := flat_count bs
      have hft := hLd.fits
      have hlr := limN_room hr.1
      exact ⟨v, rfl, k4, _, S', bs.flatten, _, k1, k2, ⟨syncD_room ok, sync_stops _, by omega⟩, FrD.sync ok, k0, k5, by omega, t1, k3, t2⟩
set_option maxHeartbeats 1000000 in
theorem bOpen1Ok (W : World) (p q wb rb f r : Nat) (D : DkT) (S : Nat → Prop) (L : LgT) (c : Bool) (T : Nat → Prop) (hwb : W.heap[wb]? = some (.cells #[.pointer (some ⟨q, 0, none⟩)] 30 (0, 0))) (hrb : W.heap[rb]? = some (.cells #[.slice none 0 0] 31 (0, 0))) (hS : ¬ S rb) (hq : rb ≠ q)
    (hB : Calls Tryz.prog 20 #[ptr q] W fun e w' => ∃ v, e = .returned v ∧ BegK W p q f r D S L c T v w') :
    Calls Tryz.prog 19 #[.pointer (some ⟨wb, 0, none⟩), .pointer (some ⟨rb, 0, none⟩)] W fun e w' => e = .returned (.tuple #[]) ∧ ∃ w0 v, BegK W p q f r D S L c T v w0 ∧ w' = w0.setCell ⟨rb, 0, none⟩ v := by
  have cw := cell_of_one hwb
  have HRB := hidd hrb
  have HB := hidd hB
  unfold ptr at HB
  clear hB hrb hwb
  go_enter Tryz.func19, Tryz.ntmps19
  go_wp2_with fail
  refine HB.out.mono ?_
  rintro e w0 ⟨v, rfl, hk⟩
  have HK := hidd hk
  have h0 := (hk.away.block rb (heap_lt HRB.out) (fun e => by rcases e with e | e; exact hS e; exact hq e)).trans HRB.out
  have c0 := cell_of_one h0
  have z0 := free_of_one h0
  obtain ⟨a, n, cc, hv⟩ : ∃ a n cc, v = .slice a n cc := by
    obtain ⟨D', S', rs, V, _, _, _, _, ho, _⟩ := hk.rest
    obtain ⟨a, cc, e, _⟩ := own_slice ho
    exact ⟨a, _, cc, e⟩
  subst hv
  clear HB hk h0
  go_wp2
  go_end0
  exact ⟨rfl, w0, _, HK.out, rfl⟩
set_option maxHeartbeats 1000000 in
theorem bOpen1No (W : World) (p q wb rb f r : Nat) (D : DkT) (S : Nat → Prop) (L : LgT) (c : Bool) (hwb : W.heap[wb]? = some (.cells #[.pointer (some ⟨q, 0, none⟩)] 30 (0, 0)))
    (hB : Calls Tryz.prog 20 #[ptr q] W fun e w' => e = gaveUp 80 ∧ BegF W p q f r D S L c w') :
    Calls Tryz.prog 19 #[.pointer (some ⟨wb, 0, none⟩), .pointer (some ⟨rb, 0, none⟩)] W fun e w' => e = gaveUp 80 ∧ BegF W p q f r D S L c w' := by
  have cw := cell_of_one hwb
  have HB := hidd hB
  unfold ptr at HB
  clear hB hwb
  go_enter Tryz.func19, Tryz.ntmps19
  go_wp2_with fail
  refine HB.out.mono ?_
  rintro e w0 ⟨rfl, hk⟩
  exact ⟨rfl, rfl, hk⟩
def openW (w1 : World) (p f r : Nat) : World := ((w1.alloc (.cells #[.pointer (some ⟨p, 0, none⟩), .int .i64 f, .int .i64 r, .int .i64 0, .int .i64 0, .int .i64 0] 65)).alloc (.cells #[.pointer (some ⟨w1.heap.size, 0, none⟩)] 30)).alloc (.cells #[.slice none 0 0] 31)
theorem openW_size (w1 : World) (p f r : Nat) : (openW w1 p f r).heap.size = w1.heap.size + 3 := by unfold openW; simp
theorem openW_below (w1 : World) (p f r : Nat) : Below w1.heap.size w1 (openW w1 p f r) := (((Below.refl _ w1).alloc (Nat.le_refl _) _).alloc (by simp) _).alloc (by simp; omega) _
theorem openW_row (w1 : World) (p f r : Nat) : (openW w1 p f r).heap[w1.heap.size]? = some (.cells (wCells p f r ⟨0, 0, 0⟩) 65 (0, 0)) ∧ (openW w1 p f r).heap[w1.heap.size + 1]? = some (.cells #[.pointer (some ⟨w1.heap.size, 0, none⟩)] 30 (0, 0)) ∧ (openW w1 p f r).heap[w1.heap.size + 1 + 1]? = some (.cells #[.slice none 0 0] 31 (0, 0)) := by
  have a1 := heap_alloc_new w1 (.cells #[.pointer (some ⟨p, 0, none⟩), .int .i64 f, .int .i64 r, .int .i64 0, .int .i64 0, .int .i64 0] 65)
  obtain ⟨x1, hx1⟩ : ∃ x, w1.alloc (.cells #[.pointer (some ⟨p, 0, none⟩), .int .i64 f, .int .i64 r, .int .i64 0, .int .i64 0, .int .i64 0] 65) = x := ⟨_, rfl⟩
  have s1 : x1.heap.size = w1.heap.size + 1 := by rw [← hx1]; simp
  have a2 := heap_alloc_new x1 (.cells #[.pointer (some ⟨w1.heap.size, 0, none⟩)] 30)
  obtain ⟨x2, hx2⟩ : ∃ x, x1.alloc (.cells #[.pointer (some ⟨w1.heap.size, 0, none⟩)] 30) = x := ⟨_, rfl⟩
  have s2 : x2.heap.size = w1.heap.size + 1 + 1 := by rw [← hx2]; simp; omega
  have a3 := heap_alloc_new x2 (.cells #[.slice none 0 0] 31)
  have b2 : Below x1.heap.size x1 x2 := by rw [← hx2]; exact (Below.refl _ _).alloc (Nat.le_refl _) _
  have b3 : Below x2.heap.size x2 (x2.alloc (.cells #[.slice none 0 0] 31)) := (Below.refl _ _).alloc (Nat.le_refl _) _
  unfold openW
  rw [hx1, hx2]
  rw [hx1] at a1
  rw [hx2, s1] at a2
  rw [s2] at a3
  exact ⟨(b3.block _ (by omega)).trans ((b2.block _ (by omega)).trans a1), (b3.block _ (by omega)).trans a2, a3⟩
structure OpK (w : World) (p q f r : Nat) (D : DkT) (S : Nat → Prop) (L : LgT) (c : Bool) (v : Value) (w' : World) : Prop where
  away : Away S w w'
  rw_ : w'.heap[w.heap.size + 1]? = some (.cells #[.pointer (some ⟨q, 0, none⟩)] 30 (0, 0))
  rr : w'.heap[w.heap.size + 1 + 1]? = some (.cells #[v] 31 (0, 0))
  rest : ∃ D' S' rs V, OAt w' p D' S' ∧ (∀ b, S' b → S b ∨ w.heap.size ≤ b) ∧ ¬ S' q ∧ WentD D D' ∧ FrD f r D D' ∧ w'.ownsRow (w.heap.size + 1) 9 1 v rs.length (strL rs) ∧ (∀ b, v.ownBlock = some b → ¬ S' b) ∧ rs.length ≤ 1000000 ∧ opensB L rs c = true ∧ WM w' q p f r V (fun b => b = q) ∧ WP f r V D' (opensL L rs c)
structure OpF (w : World) (p f r : Nat) (D : DkT) (S : Nat → Prop) (L : LgT) (c : Bool) (w' : World) : Prop where
  away : Away S w w'
  rest : ∃ D' S', OAt w' p D' S' ∧ (∀ b, S' b → S b ∨ w.heap.size ≤ b) ∧ WentD D D' ∧ FrD f r D D' ∧ D'.down = true ∧ PA f r D' L c
theorem bOpenTried (w : World) (tb : TabW w) (p : Nat) (D : DkT) (S : Nat → Prop) (hA : OAt w p D S) (hp : D.puts.length ≤ 500000) (f r : Nat) (h1 : 64 ≤ r ∧ r ≤ 1000000) (h2 : f + r ≤ D.safe.length) (L : LgT) (c : Bool) (hP : PA f r D L c) :
    (Calls Tryz.prog 18 #[.func (.func 19) #[] #[.pointer (some ⟨w.heap.size + 1, 0, none⟩), .pointer (some ⟨w.heap.size + 1 + 1, 0, none⟩)]] (openW w p f r) fun e w' => e = .returned (.int .i64 0) ∧ ∃ v, OpK w p w.heap.size f r D S L c v w') ∨
    (Calls Tryz.prog 18 #[.func (.func 19) #[] #[.pointer (some ⟨w.heap.size + 1, 0, none⟩), .pointer (some ⟨w.heap.size + 1 + 1, 0, none⟩)]] (openW w p f r) fun e w' => e = .returned (.int .i64 80) ∧ OpF w p f r D S L c w') := by
  have hn : ∀ (caps : Array Value) W, (callFunc 19 caps).run Tryz.prog W = .ok (.enter 19 caps) W := fun caps W => by simp [go_sem]
  obtain ⟨r1, r2, r3⟩ := openW_row w p f r
  have hsz := openW_size w p f r
  have hbw := openW_below w p f r
  obtain ⟨W2, hW2⟩ : ∃ W, openW w p f r = W := ⟨_, rfl⟩
  rw [hW2] at r1 r2 r3 hsz hbw ⊢
  have b3 : Below W2.heap.size W2 (W2.alloc (.cells #[.int .i64 0] 24)) := (Below.refl _ _).alloc (Nat.le_refl _) _
  have r4 := heap_alloc_new W2 (.cells #[.int .i64 0] 24)
  have hs3 : (W2.alloc (.cells #[.int .i64 0] 24)).heap.size = W2.heap.size + 1 := by simp
  obtain ⟨W3, hW3⟩ : ∃ W, W2.alloc (.cells #[.int .i64 0] 24) = W := ⟨_, rfl⟩
  rw [hW3] at b3 r4 hs3
  have q1 := (b3.block _ (by omega)).trans r1
  have q2 := (b3.block _ (by omega)).trans r2
  have q3 := (b3.block _ (by omega)).trans r3
  have hb13 : Below w.heap.size w W3 := hbw.trans (b3.mono hbw.size)
  have hlt := hA.lt
  have nS : ∀ k, w.heap.size ≤ k → ¬ S k := fun k hk e => by have := hlt k e; omega
  have hM3 : WM W3 w.heap.size p f r ⟨0, 0, 0⟩ (fun b => b = w.heap.size) := ⟨q1, fun b => Iff.rfl⟩
  rcases bBegin W3 (tb.on hb13) w.heap.size p f r _ D S hM3 (hA.below hb13) hp (nS _ (Nat.le_refl _)) h1 h2 L c hP with hB | hB
  · left
    have hc := bOpen1Ok W3 p w.heap.size (w.heap.size + 1) (w.heap.size + 1 + 1) f r D S L c _ q2 q3 (nS _ (by omega)) (by omega) hB
    refine (bTriedOk _ _ W2 (fun w' => ∃ w0 v, BegK W3 p w.heap.size f r D S L c (fun b => b = w.heap.size) v w0 ∧ w' = w0.setCell ⟨w.heap.size + 1 + 1, 0, none⟩ v) (hn _) (by
      rw [hW3]
      refine hc.mono ?_
      rintro e w' ⟨rfl, w0, v, hk, rfl⟩
      refine ⟨rfl, ?_, w0, v, hk, rfl⟩
      rw [(away_set w0 (w.heap.size + 1 + 1) 0 v).block W2.heap.size (by have := hk.away.size; omega) (by omega)]
      exact (hk.away.block W2.heap.size (by omega) (fun e => by rcases e with e | e; exact nS _ (by omega) e; omega)).trans r4)).mono ?_
    rintro e w' ⟨rfl, w1, ⟨w0, v, hk, rfl⟩, rfl⟩
    refine ⟨rfl, v, ?_⟩
    obtain ⟨D', S', rs, V, k1, k2, k3, k4, k5, k6, k7, k8, k9, k10⟩ := hk.rest
    have ha := hk.away
    have hs0 := ha.size
    have x1 := away_set w0 (w.heap.size + 1 + 1) 0 v
    have x2 := away_set (w0.setCell ⟨w.heap.size + 1 + 1, 0, none⟩ v) W2.heap.size 0 (.int .i64 0)
    have hs1 := x1.size
    have nS' : ∀ k, w.heap.size ≤ k → k < W3.heap.size → ¬ S' k := fun k h3 h4 e => by
      rcases k2 k e with e | e
      · exact nS k h3 e
      · omega
    have both : ∀ k, k < w0.heap.size → k ≠ w.heap.size + 1 + 1 → k ≠ W2.heap.size → ((w0.setCell ⟨w.heap.size + 1 + 1, 0, none⟩ v).setCell ⟨W2.heap.size, 0, none⟩ (.int .i64 0)).heap[k]? = w0.heap[k]? := fun k h3 h4 h5 => (x2.block k (by omega) h5).trans (x1.block k h3 h4)
    have hkeep : ∀ k, k < W3.heap.size → ¬ S k → k ≠ w.heap.size → k ≠ w.heap.size + 1 + 1 → k ≠ W2.heap.size → ((w0.setCell ⟨w.heap.size + 1 + 1, 0, none⟩ v).setCell ⟨W2.heap.size, 0, none⟩ (.int .i64 0)).heap[k]? = W3.heap[k]? := fun k h3 h4 h5 h6 h7 => (both k (by omega) h6 h7).trans (ha.block k h3 (fun e => by rcases e with e | e; exact h4 e; exact h5 e))
    have hs2 := x2.size
    have h13 := hb13.size
    refine ⟨⟨x2.os.trans (x1.os.trans (ha.os.trans hb13.os)), x2.tape.trans (x1.tape.trans (ha.tape.trans hb13.tape)), x2.output.trans (x1.output.trans (ha.output.trans hb13.output)), by omega, fun k h3 h4 => (hkeep k (by omega) h4 (by omega) (by omega) (by omega)).trans (hb13.block k h3)⟩, (hkeep _ (by omega) (nS _ (by omega)) (by omega) (by omega) (by omega)).trans q2, ?_, D', S', rs, V, ?_, fun b e => ?_, nS' _ (Nat.le_refl _) (by omega), k3, k4, ?_, k6, k7, k8, ?_, k10⟩
    · rw [x2.block _ (by omega) (by omega)]
      have h0 : w0.heap[w.heap.size + 1 + 1]? = some (.cells #[.slice none 0 0] 31 (0, 0)) := (ha.block _ (by omega) (fun e => by rcases e with e | e; exact nS _ (by omega) e; omega)).trans q3
      exact one_setCell (u := v) h0
    · exact k1.keep (by omega) fun b e => both b (k1.lt b e) (fun e2 => nS' b (by omega) (by omega) e) (fun e2 => nS' b (by omega) (by omega) e)
    · rcases k2 b e with e | e
      · exact .inl e
      · exact .inr (by omega)
    · exact own_lower (own_keepT k5 fun b e => both b (own_inT k5 b e) (by have := row_lowT k5 b e; omega) (by have := row_lowT k5 b e; omega)) (by omega)
    · exact k9.same (both _ (by omega) (by omega) (by omega))
  · right
    have hc := bOpen1No W3 p w.heap.size (w.heap.size + 1) (w.heap.size + 1 + 1) f r D S L c q2 hB
    refine (bTriedNo _ _ W2 (fun w' => BegF W3 p w.heap.size f r D S L c w') (hn _) (by
      rw [hW3]
      refine hc.mono ?_
      rintro e w' ⟨rfl, hk⟩
      exact ⟨rfl, (hk.away.block W2.heap.size (by omega) (fun e => by rcases e with e | e; exact nS _ (by omega) e; omega)).trans r4, hk⟩)).mono ?_
    rintro e w' ⟨rfl, w0, hk, rfl⟩
    refine ⟨rfl, ?_⟩
    obtain ⟨D', S', k1, k2, k3, k4, k5, k6⟩ := hk.rest
    have ha := hk.away
    have hs0 := ha.size
    have x2 := away_set w0 W2.heap.size 0 (.int .i64 80)
    have hs2 := x2.size
    have h13 := hb13.size
    refine ⟨⟨x2.os.trans (ha.os.trans hb13.os), x2.tape.trans (ha.tape.trans hb13.tape), x2.output.trans (ha.output.trans hb13.output), by omega, fun k h3 h4 => (x2.block k (by omega) (by omega)).trans ((ha.block k (by omega) (fun e => by rcases e with e | e; exact h4 e; omega)).trans (hb13.block k h3))⟩, D', S', ?_, fun b e => ?_, k3, k4, k5, k6⟩
    · exact k1.keep (by omega) fun b e => x2.block b (k1.lt b e) (fun e2 => by
        rcases k2 b e with e3 | e3
        · exact nS b (by omega) e3
        · omega)
    · rcases k2 b e with e | e
      · exact .inl e
      · exact .inr (by omega)
set_option maxHeartbeats 4000000 in
theorem bOpen (w : World) (tb : TabW w) (p : Nat) (D : DkT) (S : Nat → Prop) (h : OAt w p D S) (hp : D.puts.length ≤ 500000) (f r : Nat) (h1 : 64 ≤ r ∧ r ≤ 1000000) (h2 : f + r ≤ D.safe.length) (L : LgT) (c : Bool) (hP : PA f r D L c) :
    Calls Tryz.prog 8 #[ptr p, .int .i64 f, .int .i64 r] w fun e w' => ∃ D' S', OAt w' p D' S' ∧ (∀ b, S' b → S b ∨ w.heap.size ≤ b) ∧ Away S w w' ∧ WentD D D' ∧
      (∀ f2 r2, (f + r ≤ f2 ∨ f2 + r2 ≤ f) → (∀ V L, WP f2 r2 V D L → WP f2 r2 V D' L) ∧ (∀ L c, PA f2 r2 D L c → PA f2 r2 D' L c)) ∧
      ((∃ q T V a len cap rs, e = .returned (.tuple #[ptr q, .slice a len cap, .int .i64 0]) ∧ Texts w' a len rs ∧ len ≤ 1000000 ∧ (a = none → cap = 0) ∧ (∀ b, TBlock a len b → w.heap.size ≤ b ∧ ¬ S' b ∧ ¬ T b) ∧ opensB L rs c = true ∧ WM w' q p f r V T ∧ WP f r V D' (opensL L rs c) ∧ (∀ b, T b → w.heap.size ≤ b ∧ ¬ S' b)) ∨
       ((∃ a cap, e = .returned (.tuple #[.pointer none, .slice a 0 cap, .int .i64 80])) ∧ D'.down = true ∧ PA f r D' L c)) := by
  have hrm := h.ok.room
  have RM := hidd (diskC.room w p D S h)
  have HA := hidd h
  have HTB := hidd tb
  obtain ⟨n, Hn⟩ : ∃ n, Hid (n = D.safe.length) := ⟨_, hidd rfl⟩
  rw [← Hn.out] at RM
  have hn : f + r ≤ n ∧ n ≤ 1000000 := by rw [Hn.out]; exact ⟨h2, hrm.2⟩
  obtain ⟨hr1, hr2⟩ := h1
  have d1 : decide ((r : Int) < 64) = false := by rw [decide_eq_false_iff_not]; omega
  have d2 : decide ((1000000 : Int) < (r : Int)) = false := by rw [decide_eq_false_iff_not]; omega
  have d3 : decide ((f : Int) < 0) = false := by rw [decide_eq_false_iff_not]; omega
  have d4 : decide ((n : Int) - (f : Int) < (r : Int)) = false := by rw [decide_eq_false_iff_not]; omega
  have w4 := wrap_int ((n : Int) - (f : Int)) (by omega) (by omega)
  clear h tb hrm
  unfold ptr
  unfold ptr at RM
  go_enter Tryz.func8, Tryz.ntmps8
  go_wp2_with fail
  refine RM.out.mono ?_
  rintro e w1 ⟨rfl, hb1⟩
  have HB1 := hidd hb1
  clear RM hb1
  have hmf : ∀ (fn : Fn) (first cap : Array Value) (w : World), (Instr.makeFunc fn first cap).run Tryz.prog w = .ok (.func fn first cap) w := fun _ _ _ _ => rfl
  have HS1 := HB1.out.size
  have HA1 := hidd (HA.out.below HB1.out)
  have TR := hidd (bOpenTried w1 (HTB.out.on HB1.out) p D S HA1.out hp f r ⟨hr1, hr2⟩ h2 L c hP)
  unfold openW at TR
  clear HA HTB
  rcases TR.out with hT | hT
  · have HT := hidd hT
    clear hT TR
    go_wp2_with fail
    refine HT.out.mono ?_
    rintro e w2 ⟨rfl, v, hk⟩
    have c1 := cell_of_one hk.rw_
    have c2 := cell_of_one hk.rr
    obtain ⟨D', S', rs, V, k1, k2, k3, k4, k5, k6, k7, k8, k9, k10, k11⟩ := hk.rest
    obtain ⟨a, cap, rfl, t1, t2, -, t4⟩ := texts_ownT k6
    obtain ⟨m, Hm⟩ : ∃ m, Hid (m = rs.length) := ⟨_, hidd rfl⟩
    have HF : Hid (∃ D' S', OAt w2 p D' S' ∧ (∀ b, S' b → S b ∨ w.heap.size ≤ b) ∧ Away S w w2 ∧ WentD D D' ∧ (∀ f2 r2, (f + r ≤ f2 ∨ f2 + r2 ≤ f) → (∀ V L, WP f2 r2 V D L → WP f2 r2 V D' L) ∧ (∀ L c, PA f2 r2 D L c → PA f2 r2 D' L c)) ∧ (∃ T V rs, Texts w2 a m rs ∧ m ≤ 1000000 ∧ (a = none → cap = 0) ∧ (∀ b, TBlock a m b → w.heap.size ≤ b ∧ ¬ S' b ∧ ¬ T b) ∧ opensB L rs c = true ∧ WM w2 w1.heap.size p f r V T ∧ WP f r V D' (opensL L rs c) ∧ (∀ b, T b → w.heap.size ≤ b ∧ ¬ S' b))) := by
      refine ⟨D', S', k1, fun b e => ?_, (Away.of_below HB1.out).trans hk.away (fun b e => .inl e), k4, k5.both, (fun b => b = w1.heap.size), V, rs, ?_⟩
      · rcases k2 b e with e | e
        · exact .inl e
        · exact .inr (by omega)
      · rw [Hm.out]
        refine ⟨t1, k8, t2, fun b e => ?_, k9, k10, k11, fun b e => ?_⟩
        · obtain ⟨u1, u2⟩ := t4 b e
          exact ⟨by omega, k7 b u2, by show ¬ b = w1.heap.size; omega⟩
        · obtain rfl : b = w1.heap.size := e
          exact ⟨by omega, k3⟩
    rw [← Hm.out] at c2
    clear hk k1 k2 k3 k4 k5 k6 k7 k8 k9 k10 k11 t1 t2 t4 HT HA1 Hm
    have HC := hidd (And.intro c1 c2)
    clear c1 c2
    go_wp2
    refine wp_region_held_drew (S := (fun W => W.cell? ⟨w1.heap.size + 1, 0, none⟩ = some (.pointer (some ⟨w1.heap.size, 0, none⟩)) ∧ W.cell? ⟨w1.heap.size + 1 + 1, 0, none⟩ = some (.slice a m cap))) (by kernel_rfl) HC.out (fun hHeld => ?_)
    refine zW 0 (.pointer (some ⟨w1.heap.size, 0, none⟩)) rfl (Or.inl ⟨by rfl, by intro W hSw; have h1 := hSw.1; go_simp⟩) hHeld ?_
    try simp only [Act.put, pS1, pS2, pS3]
    refine zW 1 (.slice a m cap) rfl (Or.inl ⟨by rfl, by intro W hSw; have h1 := hSw.2; go_simp⟩) hHeld ?_
    try simp only [Act.put, pS1, pS2, pS3]
    refine zX 2 (.pointer (some ⟨w1.heap.size, 0, none⟩)) rfl hHeld ?_
    try simp only [Act.put, pS1, pS2, pS3]
    refine zX 3 (.slice a m cap) rfl hHeld ?_
    try simp only [Act.put, pS1, pS2, pS3]
    refine zX 4 (.int .i64 0) rfl hHeld ?_
    try simp only [Act.put, pS1, pS2, pS3]
    refine wpAnyH_done (by kernel_rfl) ?_ _
    clear hHeld
    go_wp2
    refine bodyPost_ret (v := .tuple #[.pointer (some ⟨w1.heap.size, 0, none⟩), .slice a m cap, .int .i64 0]) (by simp [results, Tryz.results8, go_sem]) rfl ?_
    obtain ⟨D', S', g1, g2, g3, g4, g5, T, V, rs, g6⟩ := HF.out
    refine ⟨D', S', g1.below (Below.refl _ _).drew, g2, ⟨g3.os, g3.tape, g3.output, g3.size, g3.block⟩, g4, g5, .inl ⟨w1.heap.size, T, V, a, m, cap, rs, rfl, g6.1.keep (Below.refl _ _).drew, g6.2.1, g6.2.2.1, g6.2.2.2.1, g6.2.2.2.2.1, g6.2.2.2.2.2.1.drew, g6.2.2.2.2.2.2.1, g6.2.2.2.2.2.2.2⟩⟩
  · have HT := hidd hT
    clear hT TR
    go_wp2_with fail
    refine HT.out.mono ?_
    rintro e w2 ⟨rfl, hk⟩
    have HF : Hid (∃ D' S', OAt w2 p D' S' ∧ (∀ b, S' b → S b ∨ w.heap.size ≤ b) ∧ Away S w w2 ∧ WentD D D' ∧ (∀ f2 r2, (f + r ≤ f2 ∨ f2 + r2 ≤ f) → (∀ V L, WP f2 r2 V D L → WP f2 r2 V D' L) ∧ (∀ L c, PA f2 r2 D L c → PA f2 r2 D' L c)) ∧ D'.down = true ∧ PA f r D' L c) := by
      obtain ⟨D', S', k1, k2, k3, k4, k5, k6⟩ := hk.rest
      refine ⟨D', S', k1, fun b e => ?_, (Away.of_below HB1.out).trans hk.away (fun b e => .inl e), k3, k4.both, k5, k6⟩
      rcases k2 b e with e | e
      · exact .inl e
      · exact .inr (by omega)
    clear hk HT HA1
    go_wp2
    refine bodyPost_ret (v := .tuple #[.pointer none, .slice none 0 0, .int .i64 80]) (by simp [results, Tryz.results8, go_sem]) rfl ?_
    obtain ⟨D', S', g1, g2, g3, g4, g5, g6⟩ := HF.out
    exact ⟨D', S', g1, g2, g3, g4, g5, .inr ⟨⟨none, 0, rfl⟩, g6⟩⟩
end Go.Proofs.YtgclohgcehhfnabGreatDoor
