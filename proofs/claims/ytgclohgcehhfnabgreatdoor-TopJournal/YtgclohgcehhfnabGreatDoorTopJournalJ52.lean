/- Texts of our own that the row of TopJournal leans on, part 52. -/
import Derived.Test.YtgclohgcehhfnabGreatDoorTopJournalJ0
import Derived.Test.YtgclohgcehhfnabGreatDoorTopJournalJ49
import Derived.Test.YtgclohgcehhfnabGreatDoorTopJournalJ51
/- The program's wal: the function that Commit tries. -/
namespace Go.Proofs.YtgclohgcehhfnabGreatDoor
open Go.RowKit Nums
set_option linter.unusedVariables false
set_option linter.unusedSimpArgs false
set_option maxRecDepth 100000
theorem Texts.drew {w : World} {a : Option Addr} {len : Nat} {l : List ByteArray} (h : Texts w a len l) : Texts w.drew a len l := h.keep (Below.refl _ _).drew
theorem OAt.drew {w : World} {p : Nat} {D : DkT} {S : Nat → Prop} (h : OAt w p D S) : OAt w.drew p D S := h.below (Below.refl _ _).drew
theorem Away.drew {S : Nat → Prop} {w w' : World} (h : Away S w w') : Away S w w'.drew := ⟨h.os, h.tape, h.output, h.size, h.block⟩
structure TryW (W : World) (p q wb lb f r : Nat) (V : VW) (D : DkT) (S : Nat → Prop) (T : Nat → Prop) (a : Option Addr) (len cap : Nat) (l : List ByteArray) : Prop where
  bw : W.heap[wb]? = some (.cells #[.pointer (some ⟨q, 0, none⟩)] 30 (0, 0))
  bl : W.heap[lb]? = some (.cells #[.slice a len cap] 31 (0, 0))
  m : WM W q p f r V T
  d : OAt W p D S
  tx : Texts W a len l
  sm : Small 30 4000 l
  nw : ¬ S wb ∧ wb ≠ q
  nl : ¬ S lb ∧ lb ≠ q
  nq : ¬ S q
  nt : ∀ b, TBlock a len b → ¬ S b ∧ b ≠ q
theorem TryW.go {W W' : World} {p q wb lb f r : Nat} {V : VW} {D D' : DkT} {S S' T : Nat → Prop} {a : Option Addr} {len cap : Nat} {l : List ByteArray} (h : TryW W p q wb lb f r V D S T a len cap l) (hw : Away S W W') (hd : OAt W' p D' S') (hS : ∀ b, S' b → S b ∨ W.heap.size ≤ b) : TryW W' p q wb lb f r V D' S' T a len cap l := by
  have lw := heap_lt h.bw
  have ll := heap_lt h.bl
  have lq := h.m.lt
  have no : ∀ k, k < W.heap.size → ¬ S k → ¬ S' k := fun k h1 h2 e => by
    rcases hS k e with e | e
    · exact h2 e
    · omega
  exact ⟨(hw.block wb lw h.nw.1).trans h.bw, (hw.block lb ll h.nl.1).trans h.bl, h.m.away hw h.nq, hd, h.tx.away hw fun b e => (h.nt b e).1, h.sm, ⟨no wb lw h.nw.1, h.nw.2⟩, ⟨no lb ll h.nl.1, h.nl.2⟩, no q lq h.nq, fun b e => ⟨no b (h.tx.blk_lt b e) (h.nt b e).1, (h.nt b e).2⟩⟩
theorem TryW.below {W W' : World} {p q wb lb f r : Nat} {V : VW} {D : DkT} {S T : Nat → Prop} {a : Option Addr} {len cap : Nat} {l : List ByteArray} (h : TryW W p q wb lb f r V D S T a len cap l) (hb : Below W.heap.size W W') : TryW W' p q wb lb f r V D S T a len cap l := h.go (Away.of_below hb) (h.d.below hb) fun b e => .inl e
theorem TryW.drew {W : World} {p q wb lb f r : Nat} {V : VW} {D : DkT} {S T : Nat → Prop} {a : Option Addr} {len cap : Nat} {l : List ByteArray} (h : TryW W p q wb lb f r V D S T a len cap l) : TryW W.drew p q wb lb f r V D S T a len cap l := h.below (Below.refl _ _).drew
theorem TryW.set {W : World} {p q wb lb f r : Nat} {V V' : VW} {D : DkT} {S T : Nat → Prop} {a : Option Addr} {len cap : Nat} {l : List ByteArray} (h : TryW W p q wb lb f r V D S T a len cap l) {i : Nat} {v : Value} (hm : WM (W.setCell ⟨q, i, none⟩ v) q p f r V' T) : TryW (W.setCell ⟨q, i, none⟩ v) p q wb lb f r V' D S T a len cap l := by
  have aw := away_set W q i v
  exact ⟨(aw.block wb (heap_lt h.bw) h.nw.2).trans h.bw, (aw.block lb (heap_lt h.bl) h.nl.2).trans h.bl, hm, oat_set h.d h.nq, h.tx.away aw fun b e => (h.nt b e).2, h.sm, h.nw, h.nl, h.nq, h.nt⟩
theorem TryW.cells {W : World} {p q wb lb f r : Nat} {V : VW} {D : DkT} {S T : Nat → Prop} {a : Option Addr} {len cap : Nat} {l : List ByteArray} (h : TryW W p q wb lb f r V D S T a len cap l) : W.cell? ⟨wb, 0, none⟩ = some (.pointer (some ⟨q, 0, none⟩)) ∧ W.cell? ⟨lb, 0, none⟩ = some (.slice a len cap) ∧ W.cell? ⟨q, 3, none⟩ = some (.int .i64 V.half) ∧ W.cell? ⟨q, 4, none⟩ = some (.int .i64 V.used) ∧ W.cell? ⟨q, 5, none⟩ = some (.int .i64 V.count) := by
  obtain ⟨c0, c1, c2, c3, c4, c5⟩ := h.m.c
  exact ⟨cell_of_one h.bw, cell_of_one h.bl, c3, c4, c5⟩
theorem own_readsB {w : World} {B n : Nat} {v : Value} {l : List UInt8} (h : w.ownsRow B 5 1 v n (cellsOf l)) (hn : l.length = n) : ∃ a cap, v = .slice a n cap ∧ Reads w a n cap l ∧ ∀ b off, a = some ⟨b, off, none⟩ → 0 < n → B ≤ b := by
  subst hn
  obtain ⟨a, cap, rfl, hr⟩ := reads_own h
  refine ⟨a, cap, rfl, hr, fun b off e h0 => ?_⟩
  rcases h.2 with ⟨e1, h1⟩ | ⟨g, cap', cur, e1, hb, _⟩
  · omega
  · cases e1; cases e; exact hb
theorem small_cost {l : List ByteArray} (h : Small 30 4000 l) : costN l ≤ 130000 := by
  have h1 := costN_le h.2
  have h4 : l.length * (8 + 4000) ≤ 30 * (8 + 4000) := Nat.mul_le_mul_right _ h.1
  omega
theorem subA_blk {b4 off4 cap lo b off : Nat} (h : subA (some ⟨b4, off4, none⟩) cap lo = some ⟨b, off, none⟩) : b4 = b := by
  unfold subA at h
  split at h
  · cases h; rfl
  · have h' : some (Addr.add ⟨b4, off4, none⟩ lo) = some ⟨b, off, none⟩ := h
    have h2 := Option.some.inj h'
    rw [add_plain] at h2
    cases h2
    rfl
set_option maxHeartbeats 8000000 in
theorem bCommit1No0 (W : World) (p q wb lb f r : Nat) (V : VW) (D : DkT) (S T : Nat → Prop) (a : Option Addr) (len cap : Nat) (l : List ByteArray) (h : TryW W p q wb lb f r V D S T a len cap l) (hp : D.puts.length ≤ 500000) (hr : 64 ≤ r ∧ r ≤ 1000000) (hf : f ≤ 1000000) (hh : V.half < 2) (hu : V.used + costN l ≤ limN r) (hd : D.down = true) :
    Calls Tryz.prog 28 #[.pointer (some ⟨wb, 0, none⟩), .pointer (some ⟨lb, 0, none⟩)] W fun e w' => e = gaveUp 80 ∧ ∃ S', TryW w' p q wb lb f r V D S' T a len cap l ∧ (∀ b, S' b → S b ∨ W.heap.size ≤ b) ∧ Away S W w' := by
  have hlim := limN_room hr.1
  have hsc := small_cost h.sm
  have hcp := costN_pos l
  have hoff := off_room hr.1 hh
  have PL := hidd (bPlace W.drew q p f r V T h.m.drew hr hf V.half V.used hh (by omega))
  have LA := hidd (bLaid a len cap l W.drew.drew h.tx.drew.drew h.sm)
  have CO : Hid (∀ W', Texts W' a len l → Calls Tryz.prog 26 #[.slice a len cap] W' fun e w' => e = .returned (.int .i64 (costN l)) ∧ w' = W') := fun W' hT => bCost a len cap l W' hT (h.sm.mono (by omega) (by omega))
  have HH := hidd h
  have HC : Hid _ := h.cells
  have hlw := heap_lt h.bw
  have hll := heap_lt h.bl
  have hlq := h.m.lt
  obtain ⟨at_, Hat⟩ : ∃ z, Hid (z = f + (offN r V.half + V.used)) := ⟨_, hidd rfl⟩
  have hat : at_ ≤ 2000000 := by rw [Hat.out]; omega
  rw [← Hat.out] at PL
  have wat := wrap_int ((at_ : Int) + 1) (by omega) (by omega)
  obtain ⟨hv, Hhv⟩ : ∃ z, Hid (z = V.half) := ⟨_, hidd rfl⟩
  obtain ⟨uv, Huv⟩ : ∃ z, Hid (z = V.used) := ⟨_, hidd rfl⟩
  have hllen : (laidB l ++ [0]).length = costN l + 1 := by rw [List.length_append, laid_length]; rfl
  rw [hllen] at LA
  obtain ⟨cn, Hcn⟩ : ∃ z, Hid (z = costN l) := ⟨_, hidd rfl⟩
  rw [← Hcn.out] at LA CO hsc hcp hllen
  have hlen : len ≤ 30 := by have := h.tx.1; have := h.sm.1; omega
  have hlmx : len ≤ 9223372036854775807 := by omega
  unfold ptr at PL
  clear h
  go_enter Tryz.func28, Tryz.ntmps28
  go_wp2
  refine wp_region_held_drew (S := (fun W => W.cell? ⟨wb, 0, none⟩ = some (.pointer (some ⟨q, 0, none⟩)) ∧ W.cell? ⟨lb, 0, none⟩ = some (.slice a len cap) ∧ W.cell? ⟨q, 3, none⟩ = some (.int .i64 (V.half : Int)) ∧ W.cell? ⟨q, 4, none⟩ = some (.int .i64 (V.used : Int)))) (by kernel_rfl) ⟨HC.out.1, HC.out.2.1, HC.out.2.2.1, HC.out.2.2.2.1⟩ (fun hHeld => ?_)
  refine zW 0 (.pointer (some ⟨q, 0, none⟩)) rfl (Or.inl ⟨by rfl, by intro W hSw; have h1 := hSw.1; go_simp⟩) hHeld ?_
  try simp only [Act.put, pS1, pS2, pS3]
  refine zW 1 (.pointer (some ⟨q, 0, none⟩)) rfl (Or.inl ⟨by rfl, by intro W hSw; have h1 := hSw.1; go_simp⟩) hHeld ?_
  try simp only [Act.put, pS1, pS2, pS3]
  refine zX 2 (.pointer (some ⟨q, 0, none⟩)) rfl hHeld ?_
  try simp only [Act.put, pS1, pS2, pS3]
  refine zX 3 (.pointer (some ⟨q, 3, none⟩)) rfl hHeld ?_
  try simp only [Act.put, pS1, pS2, pS3]
  refine zW 4 (.int .i64 (V.half : Int)) rfl (Or.inl ⟨by rfl, by intro W hSw; have h1 := hSw.2.2.1; go_simp⟩) hHeld ?_
  try simp only [Act.put, pS1, pS2, pS3]
  refine zW 5 (.pointer (some ⟨q, 0, none⟩)) rfl (Or.inl ⟨by rfl, by intro W hSw; have h1 := hSw.1; go_simp⟩) hHeld ?_
  try simp only [Act.put, pS1, pS2, pS3]
  refine zX 6 (.pointer (some ⟨q, 0, none⟩)) rfl hHeld ?_
  try simp only [Act.put, pS1, pS2, pS3]
  refine zX 7 (.pointer (some ⟨q, 4, none⟩)) rfl hHeld ?_
  try simp only [Act.put, pS1, pS2, pS3]
  refine zW 8 (.int .i64 (V.used : Int)) rfl (Or.inl ⟨by rfl, by intro W hSw; have h1 := hSw.2.2.2; go_simp⟩) hHeld ?_
  try simp only [Act.put, pS1, pS2, pS3]
  refine zW 10 (.slice a len cap) rfl (Or.inl ⟨by rfl, by intro W hSw; have h1 := hSw.2.1; go_simp⟩) hHeld ?_
  try simp only [Act.put, pS1, pS2, pS3]
  refine wpAnyH_ready (rs := [9]) (by kernel_rfl) (by simp) ?_
  refine (AllReadyH.cons (o := { dst := some 13, op := .call { callee := .value (.func 29), args := #[.tmp 4, .tmp 8, .tmp 12], argTypes := #[30, 3, 3] }, type := 3, pos := "wal.go:53", after := #[zD 0, zD 4, zD 8], guard := none }) rfl (fun K hK => ?_) AllReadyH.nil)
  go_simp
  refine PL.out.mono ?_
  rintro e w1 ⟨rfl, rfl⟩
  go_wp2_with fail
  refine hK.out _ _ hHeld (fun hHeld => ?_)
  clear hK K
  try simp only [Act.put, pS1, pS2, pS3]
  refine wpAnyH_ready (rs := [11]) (by kernel_rfl) (by simp) ?_
  refine (AllReadyH.cons (o := { dst := some 15, op := .call { callee := .value (.func 30), args := #[.tmp 14], argTypes := #[31] }, type := 34, pos := "wal.go:53", after := #[zD 10, zC 9], guard := none }) rfl (fun K hK => ?_) AllReadyH.nil)
  go_simp
  refine LA.out.mono ?_
  rintro e w2 ⟨v2, rfl, ho2, hb2⟩
  have HB2 := hidd ((Below.refl W.heap.size W).drew.drew.trans hb2)
  obtain ⟨a2, c2, rfl, hr2, hn2⟩ := own_readsB ho2 hllen
  have HR2 := hidd hr2
  have HN2 := hidd hn2
  have HH2 := hidd (HH.out.below HB2.out)
  clear ho2 hr2 hn2
  go_wp2_with fail
  refine hK.out _ _ ⟨(hb2.cell (p := ⟨wb, 0, none⟩) hlw).trans hHeld.1, (hb2.cell (p := ⟨lb, 0, none⟩) hll).trans hHeld.2.1, (hb2.cell (p := ⟨q, 3, none⟩) hlq).trans hHeld.2.2.1, (hb2.cell (p := ⟨q, 4, none⟩) hlq).trans hHeld.2.2.2⟩ (fun hHeld => ?_)
  clear hK K
  try simp only [Act.put, pS1, pS2, pS3]
  refine zX 12 (.int .i64 (at_ : Int)) rfl hHeld ?_
  try simp only [Act.put, pS1, pS2, pS3]
  refine zX 13 (.slice a2 (cn + 1) c2) rfl hHeld ?_
  try simp only [Act.put, pS1, pS2, pS3]
  refine wpAnyH_done (by kernel_rfl) ?_ _
  clear hHeld PL LA HC
  have hcc : cn + 1 ≤ c2 := HR2.out.2.1
  have SL : Hid (∀ W, (Instr.sliceAt 34 (.slice a2 (cn + 1) c2) (some (.int .i64 1)) none none).run Tryz.prog W = .ok (.slice (subA a2 c2 1) cn (c2 - 1)) W) := fun W => slice_back W a2 (cn + 1) c2 1 (by omega) hcc
  have SF : Hid (∀ W, (Instr.sliceAt 34 (.slice a2 (cn + 1) c2) none (some (.int .i64 1)) none).run Tryz.prog W = .ok (.slice a2 1 c2) W) := fun W => by
    have := slice_front W a2 (cn + 1) c2 1 (by omega)
    rw [subA_zero] at this
    exact this
  have RT : Hid (Reads w2 (subA a2 c2 1) cn (c2 - 1) (tailB l)) := by
    have := HR2.out.rest 1 (by omega)
    rw [tail_laid, List.drop_succ_cons, List.drop_zero] at this
    exact this
  have RF : Hid (Reads w2 a2 1 c2 [1]) := by
    have := HR2.out.first 1 (by omega)
    rw [tail_laid] at this
    exact this
  have hWs : W.heap.size ≤ w2.heap.size := HB2.out.size
  have HNS : Hid (∀ b off, a2 = some ⟨b, off, none⟩ → 0 < cn + 1 → ¬ S b ∧ b ≠ q) := fun b off e h0 => by
    have h1 := HN2.out b off e h0
    have h1' : W.heap.size ≤ b := h1
    exact ⟨fun e2 => by have := HH.out.d.lt b e2; omega, by omega⟩
  have HNT : Hid (∀ b off, subA a2 c2 1 = some ⟨b, off, none⟩ → 0 < cn → ¬ S b) := fun b off e h0 => by
    obtain ⟨b4, off4, x4, e4, _, _⟩ := HR2.out.byte 0 (by omega)
    rw [e4] at e
    obtain rfl := subA_blk e
    exact (HNS.out _ off4 e4 (by omega)).1
  have WR := hidd (bWriteNo w2.drew q p f r V T D S HH2.out.drew.m HH2.out.drew.d (by omega) hd ((at_ + 1 : Nat) : Int) (by unfold In64; omega) (subA a2 c2 1) cn (c2 - 1) (tailB l) RT.out.drew (by omega) HNT.out)
  have eat : ((at_ + 1 : Nat) : Int) = (at_ : Int) + 1 := by omega
  rw [eat] at WR
  unfold ptr at WR
  obtain ⟨a3, A3⟩ : ∃ z, Hid (z = subA a2 c2 1) := ⟨_, hidd rfl⟩
  obtain ⟨c3, C3⟩ : ∃ z, Hid (z = c2 - 1) := ⟨_, hidd rfl⟩
  rw [← A3.out, ← C3.out] at WR SL
  have HC2 : Hid (w2.cell? ⟨wb, 0, none⟩ = some (.pointer (some ⟨q, 0, none⟩))) := HH2.out.cells.1
  go_wp2
  refine wp_region_held_drew (S := (fun W => W.cell? ⟨wb, 0, none⟩ = some (.pointer (some ⟨q, 0, none⟩)))) (by kernel_rfl) HC2.out (fun hHeld => ?_)
  refine zW 0 (.pointer (some ⟨q, 0, none⟩)) rfl (Or.inl ⟨by rfl, by intro W hSw; have h1 : W.cell? ⟨wb, 0, none⟩ = _ := hSw; go_simp⟩) hHeld ?_
  try simp only [Act.put, pS1, pS2, pS3]
  refine zX 1 (.int .i64 (at_ : Int)) rfl hHeld ?_
  try simp only [Act.put, pS1, pS2, pS3]
  refine zX 2 (.int .i64 ((at_ : Int) + 1)) rfl hHeld ?_
  try simp only [Act.put, pS1, pS2, pS3]
  refine zX 3 (.slice a2 (cn + 1) c2) rfl hHeld ?_
  try simp only [Act.put, pS1, pS2, pS3]
  refine zW 4 (.slice a3 cn c3) rfl (Or.inl ⟨by rfl, by intro W hSw; have h1 := SL.out W; go_simp⟩) hHeld ?_
  try simp only [Act.put, pS1, pS2, pS3]
  refine wpAnyH_ready (rs := [5]) (by kernel_rfl) (by simp) ?_
  refine (AllReadyH.cons (o := { dst := some 21, op := .call { callee := .value (.func 31), args := #[.tmp 16, .tmp 18, .tmp 20], argTypes := #[30, 3, 34] }, type := 0, pos := "wal.go:54", after := #[zD 0, zD 2, zD 4], guard := none }) rfl (fun K hK => ?_) AllReadyH.nil)
  go_simp
  refine WR.out.mono ?_
  rintro e w3 ⟨rfl, ⟨S3, k1, k2⟩, k3⟩
  refine ⟨rfl, rfl, S3, HH2.out.drew.go k3 k1 k2, fun b e => ?_, (Away.of_below HB2.out.drew).trans k3 fun b e => .inl e⟩
  rcases k2 b e with e | e
  · exact .inl e
  · have e' : w2.heap.size ≤ b := e; exact .inr (by omega)
set_option maxHeartbeats 8000000 in
theorem bCommit1No1 (W : World) (p q wb lb f r : Nat) (V : VW) (D : DkT) (S T : Nat → Prop) (a : Option Addr) (len cap : Nat) (l : List ByteArray) (h : TryW W p q wb lb f r V D S T a len cap l) (hp : D.puts.length ≤ 500000) (hr : 64 ≤ r ∧ r ≤ 1000000) (hf : f ≤ 1000000) (hh : V.half < 2) (hu : V.used + costN l ≤ limN r) (hE1 : writeE D ((f + (offN r V.half + V.used + 1) : Nat) : Int) (tailB l) = 0) (hd : (put1D f r V D l).down = true) :
    Calls Tryz.prog 28 #[.pointer (some ⟨wb, 0, none⟩), .pointer (some ⟨lb, 0, none⟩)] W fun e w' => e = gaveUp 80 ∧ ∃ S', TryW w' p q wb lb f r V (put1D f r V D l) S' T a len cap l ∧ (∀ b, S' b → S b ∨ W.heap.size ≤ b) ∧ Away S W w' := by
  have hlim := limN_room hr.1
  have hsc := small_cost h.sm
  have hcp := costN_pos l
  have hoff := off_room hr.1 hh
  have PL := hidd (bPlace W.drew q p f r V T h.m.drew hr hf V.half V.used hh (by omega))
  have LA := hidd (bLaid a len cap l W.drew.drew h.tx.drew.drew h.sm)
  have CO : Hid (∀ W', Texts W' a len l → Calls Tryz.prog 26 #[.slice a len cap] W' fun e w' => e = .returned (.int .i64 (costN l)) ∧ w' = W') := fun W' hT => bCost a len cap l W' hT (h.sm.mono (by omega) (by omega))
  have HH := hidd h
  have HC : Hid _ := h.cells
  have hlw := heap_lt h.bw
  have hll := heap_lt h.bl
  have hlq := h.m.lt
  obtain ⟨at_, Hat⟩ : ∃ z, Hid (z = f + (offN r V.half + V.used)) := ⟨_, hidd rfl⟩
  have hat : at_ ≤ 2000000 := by rw [Hat.out]; omega
  rw [← Hat.out] at PL
  have wat := wrap_int ((at_ : Int) + 1) (by omega) (by omega)
  obtain ⟨hv, Hhv⟩ : ∃ z, Hid (z = V.half) := ⟨_, hidd rfl⟩
  obtain ⟨uv, Huv⟩ : ∃ z, Hid (z = V.used) := ⟨_, hidd rfl⟩
  have hllen : (laidB l ++ [0]).length = costN l + 1 := by rw [List.length_append, laid_length]; rfl
  rw [hllen] at LA
  obtain ⟨cn, Hcn⟩ : ∃ z, Hid (z = costN l) := ⟨_, hidd rfl⟩
  rw [← Hcn.out] at LA CO hsc hcp hllen
  have hlen : len ≤ 30 := by have := h.tx.1; have := h.sm.1; omega
  have hlmx : len ≤ 9223372036854775807 := by omega
  unfold ptr at PL
  clear h
  go_enter Tryz.func28, Tryz.ntmps28
  go_wp2
  refine wp_region_held_drew (S := (fun W => W.cell? ⟨wb, 0, none⟩ = some (.pointer (some ⟨q, 0, none⟩)) ∧ W.cell? ⟨lb, 0, none⟩ = some (.slice a len cap) ∧ W.cell? ⟨q, 3, none⟩ = some (.int .i64 (V.half : Int)) ∧ W.cell? ⟨q, 4, none⟩ = some (.int .i64 (V.used : Int)))) (by kernel_rfl) ⟨HC.out.1, HC.out.2.1, HC.out.2.2.1, HC.out.2.2.2.1⟩ (fun hHeld => ?_)
  refine zW 0 (.pointer (some ⟨q, 0, none⟩)) rfl (Or.inl ⟨by rfl, by intro W hSw; have h1 := hSw.1; go_simp⟩) hHeld ?_
  try simp only [Act.put, pS1, pS2, pS3]
  refine zW 1 (.pointer (some ⟨q, 0, none⟩)) rfl (Or.inl ⟨by rfl, by intro W hSw; have h1 := hSw.1; go_simp⟩) hHeld ?_
  try simp only [Act.put, pS1, pS2, pS3]
  refine zX 2 (.pointer (some ⟨q, 0, none⟩)) rfl hHeld ?_
  try simp only [Act.put, pS1, pS2, pS3]
  refine zX 3 (.pointer (some ⟨q, 3, none⟩)) rfl hHeld ?_
  try simp only [Act.put, pS1, pS2, pS3]
  refine zW 4 (.int .i64 (V.half : Int)) rfl (Or.inl ⟨by rfl, by intro W hSw; have h1 := hSw.2.2.1; go_simp⟩) hHeld ?_
  try simp only [Act.put, pS1, pS2, pS3]
  refine zW 5 (.pointer (some ⟨q, 0, none⟩)) rfl (Or.inl ⟨by rfl, by intro W hSw; have h1 := hSw.1; go_simp⟩) hHeld ?_
  try simp only [Act.put, pS1, pS2, pS3]
  refine zX 6 (.pointer (some ⟨q, 0, none⟩)) rfl hHeld ?_
  try simp only [Act.put, pS1, pS2, pS3]
  refine zX 7 (.pointer (some ⟨q, 4, none⟩)) rfl hHeld ?_
  try simp only [Act.put, pS1, pS2, pS3]
  refine zW 8 (.int .i64 (V.used : Int)) rfl (Or.inl ⟨by rfl, by intro W hSw; have h1 := hSw.2.2.2; go_simp⟩) hHeld ?_
  try simp only [Act.put, pS1, pS2, pS3]
  refine zW 10 (.slice a len cap) rfl (Or.inl ⟨by rfl, by intro W hSw; have h1 := hSw.2.1; go_simp⟩) hHeld ?_
  try simp only [Act.put, pS1, pS2, pS3]
  refine wpAnyH_ready (rs := [9]) (by kernel_rfl) (by simp) ?_
  refine (AllReadyH.cons (o := { dst := some 13, op := .call { callee := .value (.func 29), args := #[.tmp 4, .tmp 8, .tmp 12], argTypes := #[30, 3, 3] }, type := 3, pos := "wal.go:53", after := #[zD 0, zD 4, zD 8], guard := none }) rfl (fun K hK => ?_) AllReadyH.nil)
  go_simp
  refine PL.out.mono ?_
  rintro e w1 ⟨rfl, rfl⟩
  go_wp2_with fail
  refine hK.out _ _ hHeld (fun hHeld => ?_)
  clear hK K
  try simp only [Act.put, pS1, pS2, pS3]
  refine wpAnyH_ready (rs := [11]) (by kernel_rfl) (by simp) ?_
  refine (AllReadyH.cons (o := { dst := some 15, op := .call { callee := .value (.func 30), args := #[.tmp 14], argTypes := #[31] }, type := 34, pos := "wal.go:53", after := #[zD 10, zC 9], guard := none }) rfl (fun K hK => ?_) AllReadyH.nil)
  go_simp
  refine LA.out.mono ?_
  rintro e w2 ⟨v2, rfl, ho2, hb2⟩
  have HB2 := hidd ((Below.refl W.heap.size W).drew.drew.trans hb2)
  obtain ⟨a2, c2, rfl, hr2, hn2⟩ := own_readsB ho2 hllen
  have HR2 := hidd hr2
  have HN2 := hidd hn2
  have HH2 := hidd (HH.out.below HB2.out)
  clear ho2 hr2 hn2
  go_wp2_with fail
  refine hK.out _ _ ⟨(hb2.cell (p := ⟨wb, 0, none⟩) hlw).trans hHeld.1, (hb2.cell (p := ⟨lb, 0, none⟩) hll).trans hHeld.2.1, (hb2.cell (p := ⟨q, 3, none⟩) hlq).trans hHeld.2.2.1, (hb2.cell (p := ⟨q, 4, none⟩) hlq).trans hHeld.2.2.2⟩ (fun hHeld => ?_)
  clear hK K
  try simp only [Act.put, pS1, pS2, pS3]
  refine zX 12 (.int .i64 (at_ : Int)) rfl hHeld ?_
  try simp only [Act.put, pS1, pS2, pS3]
  refine zX 13 (.slice a2 (cn + 1) c2) rfl hHeld ?_
  try simp only [Act.put, pS1, pS2, pS3]
  refine wpAnyH_done (by kernel_rfl) ?_ _
  clear hHeld PL LA HC
  have hcc : cn + 1 ≤ c2 := HR2.out.2.1
  have SL : Hid (∀ W, (Instr.sliceAt 34 (.slice a2 (cn + 1) c2) (some (.int .i64 1)) none none).run Tryz.prog W = .ok (.slice (subA a2 c2 1) cn (c2 - 1)) W) := fun W => slice_back W a2 (cn + 1) c2 1 (by omega) hcc
  have SF : Hid (∀ W, (Instr.sliceAt 34 (.slice a2 (cn + 1) c2) none (some (.int .i64 1)) none).run Tryz.prog W = .ok (.slice a2 1 c2) W) := fun W => by
    have := slice_front W a2 (cn + 1) c2 1 (by omega)
    rw [subA_zero] at this
    exact this
  have RT : Hid (Reads w2 (subA a2 c2 1) cn (c2 - 1) (tailB l)) := by
    have := HR2.out.rest 1 (by omega)
    rw [tail_laid, List.drop_succ_cons, List.drop_zero] at this
    exact this
  have RF : Hid (Reads w2 a2 1 c2 [1]) := by
    have := HR2.out.first 1 (by omega)
    rw [tail_laid] at this
    exact this
  have hWs : W.heap.size ≤ w2.heap.size := HB2.out.size
  have HNS : Hid (∀ b off, a2 = some ⟨b, off, none⟩ → 0 < cn + 1 → ¬ S b ∧ b ≠ q) := fun b off e h0 => by
    have h1 := HN2.out b off e h0
    have h1' : W.heap.size ≤ b := h1
    exact ⟨fun e2 => by have := HH.out.d.lt b e2; omega, by omega⟩
  have HNT : Hid (∀ b off, subA a2 c2 1 = some ⟨b, off, none⟩ → 0 < cn → ¬ S b) := fun b off e h0 => by
    obtain ⟨b4, off4, x4, e4, _, _⟩ := HR2.out.byte 0 (by omega)
    rw [e4] at e
    obtain rfl := subA_blk e
    exact (HNS.out _ off4 e4 (by omega)).1
  have WR := hidd (bWriteOk w2.drew q p f r V T D S HH2.out.drew.m HH2.out.drew.d (by omega) ((at_ + 1 : Nat) : Int) (by unfold In64; omega) (subA a2 c2 1) cn (c2 - 1) (tailB l) RT.out.drew (by omega) HNT.out (by rw [Hat.out]; exact hE1))
  have eat : ((at_ + 1 : Nat) : Int) = (at_ : Int) + 1 := by omega
  rw [eat] at WR
  unfold ptr at WR
  obtain ⟨a3, A3⟩ : ∃ z, Hid (z = subA a2 c2 1) := ⟨_, hidd rfl⟩
  obtain ⟨c3, C3⟩ : ∃ z, Hid (z = c2 - 1) := ⟨_, hidd rfl⟩
  rw [← A3.out, ← C3.out] at WR SL
  have HC2 : Hid (w2.cell? ⟨wb, 0, none⟩ = some (.pointer (some ⟨q, 0, none⟩))) := HH2.out.cells.1
  go_wp2
  refine wp_region_held_drew (S := (fun W => W.cell? ⟨wb, 0, none⟩ = some (.pointer (some ⟨q, 0, none⟩)))) (by kernel_rfl) HC2.out (fun hHeld => ?_)
  refine zW 0 (.pointer (some ⟨q, 0, none⟩)) rfl (Or.inl ⟨by rfl, by intro W hSw; have h1 : W.cell? ⟨wb, 0, none⟩ = _ := hSw; go_simp⟩) hHeld ?_
  try simp only [Act.put, pS1, pS2, pS3]
  refine zX 1 (.int .i64 (at_ : Int)) rfl hHeld ?_
  try simp only [Act.put, pS1, pS2, pS3]
  refine zX 2 (.int .i64 ((at_ : Int) + 1)) rfl hHeld ?_
  try simp only [Act.put, pS1, pS2, pS3]
  refine zX 3 (.slice a2 (cn + 1) c2) rfl hHeld ?_
  try simp only [Act.put, pS1, pS2, pS3]
  refine zW 4 (.slice a3 cn c3) rfl (Or.inl ⟨by rfl, by intro W hSw; have h1 := SL.out W; go_simp⟩) hHeld ?_
  try simp only [Act.put, pS1, pS2, pS3]
  refine wpAnyH_ready (rs := [5]) (by kernel_rfl) (by simp) ?_
  refine (AllReadyH.cons (o := { dst := some 21, op := .call { callee := .value (.func 31), args := #[.tmp 16, .tmp 18, .tmp 20], argTypes := #[30, 3, 34] }, type := 0, pos := "wal.go:54", after := #[zD 0, zD 2, zD 4], guard := none }) rfl (fun K hK => ?_) AllReadyH.nil)
  go_simp
  refine WR.out.mono ?_
  rintro e w3 ⟨rfl, ⟨S3, k1, k2⟩, k3⟩
  have HH3 := hidd (HH2.out.drew.go k3 k1 k2)
  have HS3 := hidd k2
  have HW3 := hidd k3
  go_wp2_with fail
  refine hK.out _ _ ((World.cell?_of_block (a := ⟨wb, 0, none⟩) (k3.block wb (heap_lt HH2.out.bw) HH2.out.nw.1)).trans hHeld) (fun hHeld => ?_)
  clear hK K
  try simp only [Act.put, pS1, pS2, pS3]
  refine wpAnyH_done (by kernel_rfl) ?_ _
  clear hHeld WR
  obtain ⟨D1, HD1⟩ : ∃ z, Hid (z = put1D f r V D l) := ⟨_, hidd rfl⟩
  have HH3' : Hid (TryW w3 p q wb lb f r V D1 S3 T a len cap l) := by
    have h := HH3.out
    rw [Hat.out] at h
    rw [HD1.out]
    exact h
  have hp1 : D1.puts.length ≤ 500001 := by rw [HD1.out]; exact Nat.le_trans (writeD_puts D _ _) (by omega)
  have HR3 : Hid (Reads w3 a2 1 c2 [1]) := RF.out.drew.away HW3.out fun b off e h0 => (HNS.out b off e (by omega)).1
  have HNS3 : Hid (∀ b off, a2 = some ⟨b, off, none⟩ → 0 < 1 → ¬ S3 b) := fun b off e h0 e2 => by
    rcases HS3.out b e2 with e3 | e3
    · exact (HNS.out b off e (by omega)).1 e3
    · have e3' : w2.heap.size ≤ b := e3
      rcases HR2.out.2.2.2 with ⟨e4, _⟩ | ⟨_, _, e4⟩ | ⟨b4, off4, e4, h4, _⟩
      · rw [e4] at e; cases e
      · omega
      · rw [e4] at e; cases e; omega
  have HSB3 : Hid (∀ b, S3 b → S b ∨ W.heap.size ≤ b) := fun b e => by
    rcases HS3.out b e with e | e
    · exact .inl e
    · have e' : w2.heap.size ≤ b := e
      exact .inr (by omega)
  have HWB3 := hidd ((Away.of_below (S := S) HB2.out.drew).trans HW3.out fun b e => .inl e)
  rw [← HD1.out] at hd
  have WR := hidd (bWriteNo w3.drew q p f r V T D1 S3 HH3'.out.drew.m HH3'.out.drew.d (by omega) hd (at_ : Int) (by unfold In64; omega) a2 1 c2 [1] HR3.out.drew (by omega) HNS3.out)
  unfold ptr at WR
  have HC3 : Hid (w3.cell? ⟨wb, 0, none⟩ = some (.pointer (some ⟨q, 0, none⟩))) := HH3'.out.cells.1
  clear HH3 HC2
  go_wp2
  refine wp_region_held_drew (S := (fun W => W.cell? ⟨wb, 0, none⟩ = some (.pointer (some ⟨q, 0, none⟩)))) (by kernel_rfl) HC3.out (fun hHeld => ?_)
  refine zW 0 (.pointer (some ⟨q, 0, none⟩)) rfl (Or.inl ⟨by rfl, by intro W hSw; have h1 : W.cell? ⟨wb, 0, none⟩ = _ := hSw; go_simp⟩) hHeld ?_
  try simp only [Act.put, pS1, pS2, pS3]
  refine zX 1 (.int .i64 (at_ : Int)) rfl hHeld ?_
  try simp only [Act.put, pS1, pS2, pS3]
  refine zX 2 (.slice a2 (cn + 1) c2) rfl hHeld ?_
  try simp only [Act.put, pS1, pS2, pS3]
  refine zW 3 (.slice a2 1 c2) rfl (Or.inl ⟨by rfl, by intro W hSw; have h1 := SF.out W; go_simp⟩) hHeld ?_
  try simp only [Act.put, pS1, pS2, pS3]
  refine wpAnyH_ready (rs := [4]) (by kernel_rfl) (by simp) ?_
  refine (AllReadyH.cons (o := { dst := some 26, op := .call { callee := .value (.func 31), args := #[.tmp 22, .tmp 23, .tmp 25], argTypes := #[30, 3, 34] }, type := 0, pos := "wal.go:55", after := #[zD 0, zD 1, zD 3], guard := none }) rfl (fun K hK => ?_) AllReadyH.nil)
  go_simp
  refine WR.out.mono ?_
  rintro e w4 ⟨rfl, ⟨S4, k1, k2⟩, k3⟩
  refine ⟨rfl, rfl, S4, by rw [← HD1.out]; exact HH3'.out.drew.go k3 k1 k2, fun b e => ?_, HWB3.out.drew.trans k3 fun b e => HSB3.out b e⟩
  rcases k2 b e with e | e
  · exact HSB3.out b e
  · have e' : w3.heap.size ≤ b := e; have := HWB3.out.size; exact .inr (by omega)
set_option maxHeartbeats 8000000 in
theorem bCommit1Ok (W : World) (p q wb lb f r : Nat) (V : VW) (D : DkT) (S T : Nat → Prop) (a : Option Addr) (len cap : Nat) (l : List ByteArray) (h : TryW W p q wb lb f r V D S T a len cap l) (hp : D.puts.length ≤ 500000) (hr : 64 ≤ r ∧ r ≤ 1000000) (hf : f ≤ 1000000) (hh : V.half < 2) (hu : V.used + costN l ≤ limN r) (hcn : V.count ≤ 1000000) (hE1 : writeE D ((f + (offN r V.half + V.used + 1) : Nat) : Int) (tailB l) = 0) (hE2 : writeE (put1D f r V D l) ((f + (offN r V.half + V.used) : Nat) : Int) [1] = 0) :
    Calls Tryz.prog 28 #[.pointer (some ⟨wb, 0, none⟩), .pointer (some ⟨lb, 0, none⟩)] W fun e w' => e = .returned (.tuple #[]) ∧ ∃ S', TryW w' p q wb lb f r ⟨V.half, V.used + costN l, V.count + l.length⟩ (put2D f r V (put1D f r V D l)) S' T a len cap l ∧ (∀ b, S' b → S b ∨ W.heap.size ≤ b) ∧ Away (fun b => S b ∨ b = q) W w' := by
  have hlim := limN_room hr.1
  have hsc := small_cost h.sm
  have hcp := costN_pos l
  have hoff := off_room hr.1 hh
  have PL := hidd (bPlace W.drew q p f r V T h.m.drew hr hf V.half V.used hh (by omega))
  have LA := hidd (bLaid a len cap l W.drew.drew h.tx.drew.drew h.sm)
  have CO : Hid (∀ W', Texts W' a len l → Calls Tryz.prog 26 #[.slice a len cap] W' fun e w' => e = .returned (.int .i64 (costN l)) ∧ w' = W') := fun W' hT => bCost a len cap l W' hT (h.sm.mono (by omega) (by omega))
  have HH := hidd h
  have HC : Hid _ := h.cells
  have hlw := heap_lt h.bw
  have hll := heap_lt h.bl
  have hlq := h.m.lt
  obtain ⟨at_, Hat⟩ : ∃ z, Hid (z = f + (offN r V.half + V.used)) := ⟨_, hidd rfl⟩
  have hat : at_ ≤ 2000000 := by rw [Hat.out]; omega
  rw [← Hat.out] at PL
  have wat := wrap_int ((at_ : Int) + 1) (by omega) (by omega)
  obtain ⟨hv, Hhv⟩ : ∃ z, Hid (z = V.half) := ⟨_, hidd rfl⟩
  obtain ⟨uv, Huv⟩ : ∃ z, Hid (z = V.used) := ⟨_, hidd rfl⟩
  have hllen : (laidB l ++ [0]).length = costN l + 1 := by rw [List.length_append, laid_length]; rfl
  rw [hllen] at LA
  obtain ⟨cn, Hcn⟩ : ∃ z, Hid (z = costN l) := ⟨_, hidd rfl⟩
  rw [← Hcn.out] at LA CO hsc hcp hllen
  have hlen : len ≤ 30 := by have := h.tx.1; have := h.sm.1; omega
  have hlmx : len ≤ 9223372036854775807 := by omega
  unfold ptr at PL
  clear h
  go_enter Tryz.func28, Tryz.ntmps28
  go_wp2
  refine wp_region_held_drew (S := (fun W => W.cell? ⟨wb, 0, none⟩ = some (.pointer (some ⟨q, 0, none⟩)) ∧ W.cell? ⟨lb, 0, none⟩ = some (.slice a len cap) ∧ W.cell? ⟨q, 3, none⟩ = some (.int .i64 (V.half : Int)) ∧ W.cell? ⟨q, 4, none⟩ = some (.int .i64 (V.used : Int)))) (by kernel_rfl) ⟨HC.out.1, HC.out.2.1, HC.out.2.2.1, HC.out.2.2.2.1⟩ (fun hHeld => ?_)
  refine zW 0 (.pointer (some ⟨q, 0, none⟩)) rfl (Or.inl ⟨by rfl, by intro W hSw; have h1 := hSw.1; go_simp⟩) hHeld ?_
  try simp only [Act.put, pS1, pS2, pS3]
  refine zW 1 (.pointer (some ⟨q, 0, none⟩)) rfl (Or.inl ⟨by rfl, by intro W hSw; have h1 := hSw.1; go_simp⟩) hHeld ?_
  try simp only [Act.put, pS1, pS2, pS3]
  refine zX 2 (.pointer (some ⟨q, 0, none⟩)) rfl hHeld ?_
  try simp only [Act.put, pS1, pS2, pS3]
  refine zX 3 (.pointer (some ⟨q, 3, none⟩)) rfl hHeld ?_
  try simp only [Act.put, pS1, pS2, pS3]
  refine zW 4 (.int .i64 (V.half : Int)) rfl (Or.inl ⟨by rfl, by intro W hSw; have h1 := hSw.2.2.1; go_simp⟩) hHeld ?_
  try simp only [Act.put, pS1, pS2, pS3]
  refine zW 5 (.pointer (some ⟨q, 0, none⟩)) rfl (Or.inl ⟨by rfl, by intro W hSw; have h1 := hSw.1; go_simp⟩) hHeld ?_
  try simp only [Act.put, pS1, pS2, pS3]
  refine zX 6 (.pointer (some ⟨q, 0, none⟩)) rfl hHeld ?_
  try simp only [Act.put, pS1, pS2, pS3]
  refine zX 7 (.pointer (some ⟨q, 4, none⟩)) rfl hHeld ?_
  try simp only [Act.put, pS1, pS2, pS3]
  refine zW 8 (.int .i64 (V.used : Int)) rfl (Or.inl ⟨by rfl, by intro W hSw; have h1 := hSw.2.2.2; go_simp⟩) hHeld ?_
  try simp only [Act.put, pS1, pS2, pS3]
  refine zW 10 (.slice a len cap) rfl (Or.inl ⟨by rfl, by intro W hSw; have h1 := hSw.2.1; go_simp⟩) hHeld ?_
  try simp only [Act.put, pS1, pS2, pS3]
  refine wpAnyH_ready (rs := [9]) (by kernel_rfl) (by simp) ?_
  refine (AllReadyH.cons (o := { dst := some 13, op := .call { callee := .value (.func 29), args := #[.tmp 4, .tmp 8, .tmp 12], argTypes := #[30, 3, 3] }, type := 3, pos := "wal.go:53", after := #[zD 0, zD 4, zD 8], guard := none }) rfl (fun K hK => ?_) AllReadyH.nil)
  go_simp
  refine PL.out.mono ?_
  rintro e w1 ⟨rfl, rfl⟩
  go_wp2_with fail
  refine hK.out _ _ hHeld (fun hHeld => ?_)
  clear hK K
  try simp only [Act.put, pS1, pS2, pS3]
  refine wpAnyH_ready (rs := [11]) (by kernel_rfl) (by simp) ?_
  refine (AllReadyH.cons (o := { dst := some 15, op := .call { callee := .value (.func 30), args := #[.tmp 14], argTypes := #[31] }, type := 34, pos := "wal.go:53", after := #[zD 10, zC 9], guard := none }) rfl (fun K hK => ?_) AllReadyH.nil)
  go_simp
  refine LA.out.mono ?_
  rintro e w2 ⟨v2, rfl, ho2, hb2⟩
  have HB2 := hidd ((Below.refl W.heap.size W).drew.drew.trans hb2)
  obtain ⟨a2, c2, rfl, hr2, hn2⟩ := own_readsB ho2 hllen
  have HR2 := hidd hr2
  have HN2 := hidd hn2
  have HH2 := hidd (HH.out.below HB2.out)
  clear ho2 hr2 hn2
  go_wp2_with fail
  refine hK.out _ _ ⟨(hb2.cell (p := ⟨wb, 0, none⟩) hlw).trans hHeld.1, (hb2.cell (p := ⟨lb, 0, none⟩) hll).trans hHeld.2.1, (hb2.cell (p := ⟨q, 3, none⟩) hlq).trans hHeld.2.2.1, (hb2.cell (p := ⟨q, 4, none⟩) hlq).trans hHeld.2.2.2⟩ (fun hHeld => ?_)
  clear hK K
  try simp only [Act.put, pS1, pS2, pS3]
  refine zX 12 (.int .i64 (at_ : Int)) rfl hHeld ?_
  try simp only [Act.put, pS1, pS2, pS3]
  refine zX 13 (.slice a2 (cn + 1) c2) rfl hHeld ?_
  try simp only [Act.put, pS1, pS2, pS3]
  refine wpAnyH_done (by kernel_rfl) ?_ _
  clear hHeld PL LA HC
  have hcc : cn + 1 ≤ c2 := HR2.out.2.1
  have SL : Hid (∀ W, (Instr.sliceAt 34 (.slice a2 (cn + 1) c2) (some (.int .i64 1)) none none).run Tryz.prog W = .ok (.slice (subA a2 c2 1) cn (c2 - 1)) W) := fun W => slice_back W a2 (cn + 1) c2 1 (by omega) hcc
  have SF : Hid (∀ W, (Instr.sliceAt 34 (.slice a2 (cn + 1) c2) none (some (.int .i64 1)) none).run Tryz.prog W = .ok (.slice a2 1 c2) W) := fun W => by
    have := slice_front W a2 (cn + 1) c2 1 (by omega)
    rw [subA_zero] at this
    exact this
  have RT : Hid (Reads w2 (subA a2 c2 1) cn (c2 - 1) (tailB l)) := by
    have := HR2.out.rest 1 (by omega)
    rw [tail_laid, List.drop_succ_cons, List.drop_zero] at this
    exact this
  have RF : Hid (Reads w2 a2 1 c2 [1]) := by
    have := HR2.out.first 1 (by omega)
    rw [tail_laid] at this
    exact this
  have hWs : W.heap.size ≤ w2.heap.size := HB2.out.size
  have HNS : Hid (∀ b off, a2 = some ⟨b, off, none⟩ → 0 < cn + 1 → ¬ S b ∧ b ≠ q) := fun b off e h0 => by
    have h1 := HN2.out b off e h0
    have h1' : W.heap.size ≤ b := h1
    exact ⟨fun e2 => by have := HH.out.d.lt b e2; omega, by omega⟩
  have HNT : Hid (∀ b off, subA a2 c2 1 = some ⟨b, off, none⟩ → 0 < cn → ¬ S b) := fun b off e h0 => by
    obtain ⟨b4, off4, x4, e4, _, _⟩ := HR2.out.byte 0 (by omega)
    rw [e4] at e
    obtain rfl := subA_blk e
    exact (HNS.out _ off4 e4 (by omega)).1
  have WR := hidd (bWriteOk w2.drew q p f r V T D S HH2.out.drew.m HH2.out.drew.d (by omega) ((at_ + 1 : Nat) : Int) (by unfold In64; omega) (subA a2 c2 1) cn (c2 - 1) (tailB l) RT.out.drew (by omega) HNT.out (by rw [Hat.out]; exact hE1))
  have eat : ((at_ + 1 : Nat) : Int) = (at_ : Int) + 1 := by omega
  rw [eat] at WR
  unfold ptr at WR
  obtain ⟨a3, A3⟩ : ∃ z, Hid (z = subA a2 c2 1) := ⟨_, hidd rfl⟩
  obtain ⟨c3, C3⟩ : ∃ z, Hid (z = c2 - 1) := ⟨_, hidd rfl⟩
  rw [← A3.out, ← C3.out] at WR SL
  have HC2 : Hid (w2.cell? ⟨wb, 0, none⟩ = some (.pointer (some ⟨q, 0, none⟩))) := HH2.out.cells.1
  go_wp2
  refine wp_region_held_drew (S := (fun W => W.cell? ⟨wb, 0, none⟩ = some (.pointer (some ⟨q, 0, none⟩)))) (by kernel_rfl) HC2.out (fun hHeld => ?_)
  refine zW 0 (.pointer (some ⟨q, 0, none⟩)) rfl (Or.inl ⟨by rfl, by intro W hSw; have h1 : W.cell? ⟨wb, 0, none⟩ = _ := hSw; go_simp⟩) hHeld ?_
  try simp only [Act.put, pS1, pS2, pS3]
  refine zX 1 (.int .i64 (at_ : Int)) rfl hHeld ?_
  try simp only [Act.put, pS1, pS2, pS3]
  refine zX 2 (.int .i64 ((at_ : Int) + 1)) rfl hHeld ?_
  try simp only [Act.put, pS1, pS2, pS3]
  refine zX 3 (.slice a2 (cn + 1) c2) rfl hHeld ?_
  try simp only [Act.put, pS1, pS2, pS3]
  refine zW 4 (.slice a3 cn c3) rfl (Or.inl ⟨by rfl, by intro W hSw; have h1 := SL.out W; go_simp⟩) hHeld ?_
  try simp only [Act.put, pS1, pS2, pS3]
  refine wpAnyH_ready (rs := [5]) (by kernel_rfl) (by simp) ?_
  refine (AllReadyH.cons (o := { dst := some 21, op := .call { callee := .value (.func 31), args := #[.tmp 16, .tmp 18, .tmp 20], argTypes := #[30, 3, 34] }, type := 0, pos := "wal.go:54", after := #[zD 0, zD 2, zD 4], guard := none }) rfl (fun K hK => ?_) AllReadyH.nil)
  go_simp
  refine WR.out.mono ?_
  rintro e w3 ⟨rfl, ⟨S3, k1, k2⟩, k3⟩
  have HH3 := hidd (HH2.out.drew.go k3 k1 k2)
  have HS3 := hidd k2
  have HW3 := hidd k3
  go_wp2_with fail
  refine hK.out _ _ ((World.cell?_of_block (a := ⟨wb, 0, none⟩) (k3.block wb (heap_lt HH2.out.bw) HH2.out.nw.1)).trans hHeld) (fun hHeld => ?_)
  clear hK K
  try simp only [Act.put, pS1, pS2, pS3]
  refine wpAnyH_done (by kernel_rfl) ?_ _
  clear hHeld WR
  obtain ⟨D1, HD1⟩ : ∃ z, Hid (z = put1D f r V D l) := ⟨_, hidd rfl⟩
  have HH3' : Hid (TryW w3 p q wb lb f r V D1 S3 T a len cap l) := by
    have h := HH3.out
    rw [Hat.out] at h
    rw [HD1.out]
    exact h
  have hp1 : D1.puts.length ≤ 500001 := by rw [HD1.out]; exact Nat.le_trans (writeD_puts D _ _) (by omega)
  have HR3 : Hid (Reads w3 a2 1 c2 [1]) := RF.out.drew.away HW3.out fun b off e h0 => (HNS.out b off e (by omega)).1
  have HNS3 : Hid (∀ b off, a2 = some ⟨b, off, none⟩ → 0 < 1 → ¬ S3 b) := fun b off e h0 e2 => by
    rcases HS3.out b e2 with e3 | e3
    · exact (HNS.out b off e (by omega)).1 e3
    · have e3' : w2.heap.size ≤ b := e3
      rcases HR2.out.2.2.2 with ⟨e4, _⟩ | ⟨_, _, e4⟩ | ⟨b4, off4, e4, h4, _⟩
      · rw [e4] at e; cases e
      · omega
      · rw [e4] at e; cases e; omega
  have HSB3 : Hid (∀ b, S3 b → S b ∨ W.heap.size ≤ b) := fun b e => by
    rcases HS3.out b e with e | e
    · exact .inl e
    · have e' : w2.heap.size ≤ b := e
      exact .inr (by omega)
  have HWB3 := hidd ((Away.of_below (S := S) HB2.out.drew).trans HW3.out fun b e => .inl e)
  rw [← HD1.out] at hE2
  have WR := hidd (bWriteOk w3.drew q p f r V T D1 S3 HH3'.out.drew.m HH3'.out.drew.d (by omega) (at_ : Int) (by unfold In64; omega) a2 1 c2 [1] HR3.out.drew (by omega) HNS3.out (by rw [Hat.out]; exact hE2))
  unfold ptr at WR
  have HC3 : Hid (w3.cell? ⟨wb, 0, none⟩ = some (.pointer (some ⟨q, 0, none⟩))) := HH3'.out.cells.1
  clear HH3 HC2
  go_wp2
  refine wp_region_held_drew (S := (fun W => W.cell? ⟨wb, 0, none⟩ = some (.pointer (some ⟨q, 0, none⟩)))) (by kernel_rfl) HC3.out (fun hHeld => ?_)
  refine zW 0 (.pointer (some ⟨q, 0, none⟩)) rfl (Or.inl ⟨by rfl, by intro W hSw; have h1 : W.cell? ⟨wb, 0, none⟩ = _ := hSw; go_simp⟩) hHeld ?_
  try simp only [Act.put, pS1, pS2, pS3]
  refine zX 1 (.int .i64 (at_ : Int)) rfl hHeld ?_
  try simp only [Act.put, pS1, pS2, pS3]
  refine zX 2 (.slice a2 (cn + 1) c2) rfl hHeld ?_
  try simp only [Act.put, pS1, pS2, pS3]
  refine zW 3 (.slice a2 1 c2) rfl (Or.inl ⟨by rfl, by intro W hSw; have h1 := SF.out W; go_simp⟩) hHeld ?_
  try simp only [Act.put, pS1, pS2, pS3]
  refine wpAnyH_ready (rs := [4]) (by kernel_rfl) (by simp) ?_
  refine (AllReadyH.cons (o := { dst := some 26, op := .call { callee := .value (.func 31), args := #[.tmp 22, .tmp 23, .tmp 25], argTypes := #[30, 3, 34] }, type := 0, pos := "wal.go:55", after := #[zD 0, zD 1, zD 3], guard := none }) rfl (fun K hK => ?_) AllReadyH.nil)
  go_simp
  refine WR.out.mono ?_
  rintro e w4 ⟨rfl, ⟨S4, k1, k2⟩, k3⟩
  have HH4 := hidd (HH3'.out.drew.go k3 k1 k2)
  have HS4 := hidd k2
  have HW4 := hidd (HWB3.out.drew.trans k3 fun b e => HSB3.out b e)
  go_wp2_with fail
  refine hK.out _ _ ((World.cell?_of_block (a := ⟨wb, 0, none⟩) (k3.block wb (heap_lt HH3'.out.bw) HH3'.out.nw.1)).trans hHeld) (fun hHeld => ?_)
  clear hK K
  try simp only [Act.put, pS1, pS2, pS3]
  refine wpAnyH_done (by kernel_rfl) ?_ _
  clear hHeld WR
  have HH4' : Hid (TryW w4 p q wb lb f r V (put2D f r V (put1D f r V D l)) S4 T a len cap l) := by
    have h := HH4.out
    rw [Hat.out, HD1.out] at h
    exact h
  have HSB4 : Hid (∀ b, S4 b → S b ∨ W.heap.size ≤ b) := fun b e => by
    rcases HS4.out b e with e | e
    · exact HSB3.out b e
    · have e' : w3.heap.size ≤ b := e
      have := HWB3.out.size
      exact .inr (by omega)
  have HC4 : Hid _ := HH4'.out.cells
  have CO4 := hidd (CO.out w4.drew HH4'.out.drew.tx)
  have hul : V.used + cn ≤ 1000000 := by rw [Hcn.out]; omega
  have wus := wrap_int ((V.used : Int) + (cn : Int)) (by omega) (by omega)
  have z4 := HH4'.out.m.fz 4
  have c4 := HH4'.out.m.c.2.2.2.2.1
  have HM5 : Hid (WM (w4.drew.setCell ⟨q, 4, none⟩ (.int .i64 ((V.used + cn : Nat)))) q p f r ⟨V.half, V.used + cn, V.count⟩ T) := HH4'.out.drew.m.set4 (V.used + cn)
  have HH5 := hidd (HH4'.out.drew.set HM5.out)
  have HW5 := hidd ((HW4.out.drew.wide (S' := fun b => S b ∨ b = q) fun b e => .inl e).trans (away_set w4.drew q 4 (.int .i64 ((V.used + cn : Nat)))) fun b e => .inl (.inr e))
  have eus : ((V.used + cn : Nat) : Int) = (V.used : Int) + (cn : Int) := by omega
  rw [eus] at HM5 HH5 HW5
  clear HH4
  go_wp2
  refine wp_region_held_drew (S := (fun W => W.cell? ⟨wb, 0, none⟩ = some (.pointer (some ⟨q, 0, none⟩)) ∧ W.cell? ⟨lb, 0, none⟩ = some (.slice a len cap))) (by kernel_rfl) ⟨HC4.out.1, HC4.out.2.1⟩ (fun hHeld => ?_)
  refine zW 0 (.pointer (some ⟨q, 0, none⟩)) rfl (Or.inl ⟨by rfl, by intro W hSw; have h1 := hSw.1; go_simp⟩) hHeld ?_
  try simp only [Act.put, pS1, pS2, pS3]
  refine zX 1 (.pointer (some ⟨q, 0, none⟩)) rfl hHeld ?_
  try simp only [Act.put, pS1, pS2, pS3]
  refine zX 2 (.pointer (some ⟨q, 4, none⟩)) rfl hHeld ?_
  try simp only [Act.put, pS1, pS2, pS3]
  refine zW 4 (.slice a len cap) rfl (Or.inl ⟨by rfl, by intro W hSw; have h1 := hSw.2; go_simp⟩) hHeld ?_
  try simp only [Act.put, pS1, pS2, pS3]
  refine wpAnyH_ready (rs := [3, 5]) (by kernel_rfl) (by simp) ?_
  refine (AllReadyH.cons (o := { dst := some 30, op := .load 3 (.tmp 29), type := 3, pos := "wal.go:56", after := #[zD 2], guard := none }) rfl (fun K hK => ?_) (AllReadyH.cons (o := { dst := some 32, op := .call { callee := .value (.func 26), args := #[.tmp 31], argTypes := #[31] }, type := 3, pos := "wal.go:56", after := #[zD 4], guard := none }) rfl (fun K hK => ?_) AllReadyH.nil))
  · have h1 := HC4.out.2.2.2.1
    go_simp
    clear h1
    refine hK.out _ _ hHeld (fun hHeld => ?_)
    clear hK K
    try simp only [Act.put, pS1, pS2, pS3]
    refine wpAnyH_ready (rs := [5]) (by kernel_rfl) (by simp) ?_
    refine (AllReadyH.cons (o := { dst := some 32, op := .call { callee := .value (.func 26), args := #[.tmp 31], argTypes := #[31] }, type := 3, pos := "wal.go:56", after := #[zD 4], guard := none }) rfl (fun K hK => ?_) AllReadyH.nil)
    go_simp
    refine CO4.out.mono ?_
    rintro e w9 ⟨rfl, e9⟩
    replace e9 := e9.symm
    subst e9
    go_wp2_with fail
    refine hK.out _ _ hHeld (fun hHeld => ?_)
    clear hK K
    try simp only [Act.put, pS1, pS2, pS3]
    refine zX 6 (.int .i64 ((V.used : Int) + (cn : Int))) rfl hHeld ?_
    try simp only [Act.put, pS1, pS2, pS3]
    refine zX 7 (.pointer (some ⟨q, 0, none⟩)) rfl hHeld ?_
    try simp only [Act.put, pS1, pS2, pS3]
    refine zX 8 (.pointer (some ⟨q, 4, none⟩)) rfl hHeld ?_
    try simp only [Act.put, pS1, pS2, pS3]
    refine wpAnyH_ready (rs := [9]) (by kernel_rfl) (by simp) ?_
    refine (AllReadyH.cons (o := { dst := none, op := .store 3 (.tmp 35) (.tmp 33), type := 0, pos := "wal.go:56", after := #[zD 8, zD 6, zC 5, zP 0, zP 1, zP 2, zP 3, zP 4, zP 5, zP 6], guard := none }) rfl (fun K hK => ?_) AllReadyH.nil)
    have h1 := c4
    have h2 := z4
    go_simp
    clear h1 h2
    refine hK.out _ _ ⟨HH5.out.cells.1, HH5.out.cells.2.1⟩ (fun hHeld => ?_)
    clear hK K
    try simp only [Act.put, pS1, pS2, pS3]
    refine wpAnyH_done (by kernel_rfl) ?_ _
    clear hHeld CO4
    have e5 : w4.drew.setCell ⟨q, 4, none⟩ (.int .i64 ((V.used : Int) + (cn : Int))) = (w4.setCell ⟨q, 4, none⟩ (.int .i64 ((V.used : Int) + (cn : Int)))).drew := rfl
    rw [e5] at HH5 HW5
    obtain ⟨w5, H5⟩ : ∃ z, Hid (z = (w4.setCell ⟨q, 4, none⟩ (.int .i64 ((V.used : Int) + (cn : Int)))).drew) := ⟨_, hidd rfl⟩
    rw [← H5.out] at HH5 HW5
    rw [← H5.out]
    have HC5 : Hid _ := HH5.out.cells
    have wco := wrap_int ((V.count : Int) + (len : Int)) (by omega) (by omega)
    have z5 := HH5.out.m.fz 5
    have c5 := HH5.out.m.c.2.2.2.2.2
    have HM6 : Hid (WM (w5.drew.setCell ⟨q, 5, none⟩ (.int .i64 ((V.count + len : Nat)))) q p f r ⟨V.half, V.used + cn, V.count + len⟩ T) := HH5.out.drew.m.set5 (V.count + len)
    have HH6 := hidd (HH5.out.drew.set HM6.out)
    have HW6 := hidd (HW5.out.drew.trans (away_set w5.drew q 5 (.int .i64 ((V.count + len : Nat)))) fun b e => .inl (.inr e))
    have eco : ((V.count + len : Nat) : Int) = (V.count : Int) + (len : Int) := by omega
    rw [eco] at HM6 HH6 HW6
    clear c4 z4 HC4 HH4' H5 e5
    go_wp2
    refine wp_region_held_drew (S := (fun W => W.cell? ⟨wb, 0, none⟩ = some (.pointer (some ⟨q, 0, none⟩)) ∧ W.cell? ⟨lb, 0, none⟩ = some (.slice a len cap))) (by kernel_rfl) ⟨HC5.out.1, HC5.out.2.1⟩ (fun hHeld => ?_)
    refine zW 0 (.pointer (some ⟨q, 0, none⟩)) rfl (Or.inl ⟨by rfl, by intro W hSw; have h1 := hSw.1; go_simp⟩) hHeld ?_
    try simp only [Act.put, pS1, pS2, pS3]
    refine zX 1 (.pointer (some ⟨q, 0, none⟩)) rfl hHeld ?_
    try simp only [Act.put, pS1, pS2, pS3]
    refine zX 2 (.pointer (some ⟨q, 5, none⟩)) rfl hHeld ?_
    try simp only [Act.put, pS1, pS2, pS3]
    refine zW 4 (.slice a len cap) rfl (Or.inl ⟨by rfl, by intro W hSw; have h1 := hSw.2; go_simp⟩) hHeld ?_
    try simp only [Act.put, pS1, pS2, pS3]
    refine zX 5 (.int .i64 (len : Int)) rfl hHeld ?_
    try simp only [Act.put, pS1, pS2, pS3]
    refine wpAnyH_ready (rs := [3]) (by kernel_rfl) (by simp) ?_
    refine (AllReadyH.cons (o := { dst := some 39, op := .load 3 (.tmp 38), type := 3, pos := "wal.go:57", after := #[zD 2], guard := none }) rfl (fun K hK => ?_) AllReadyH.nil)
    have h1 := HC5.out.2.2.2.2
    go_simp
    clear h1
    refine hK.out _ _ hHeld (fun hHeld => ?_)
    clear hK K
    try simp only [Act.put, pS1, pS2, pS3]
    refine zX 6 (.int .i64 ((V.count : Int) + (len : Int))) rfl hHeld ?_
    try simp only [Act.put, pS1, pS2, pS3]
    refine zX 7 (.pointer (some ⟨q, 0, none⟩)) rfl hHeld ?_
    try simp only [Act.put, pS1, pS2, pS3]
    refine zX 8 (.pointer (some ⟨q, 5, none⟩)) rfl hHeld ?_
    try simp only [Act.put, pS1, pS2, pS3]
    refine wpAnyH_ready (rs := [9]) (by kernel_rfl) (by simp) ?_
    refine (AllReadyH.cons (o := { dst := none, op := .store 3 (.tmp 44) (.tmp 42), type := 0, pos := "wal.go:57", after := #[zD 8, zD 6, zP 0, zP 1, zP 2, zP 3, zP 4, zP 5, zP 6], guard := none }) rfl (fun K hK => ?_) AllReadyH.nil)
    have h1 := c5
    have h2 := z5
    go_simp
    clear h1 h2
    refine hK.out _ _ ⟨HH6.out.cells.1, HH6.out.cells.2.1⟩ (fun hHeld => ?_)
    clear hK K
    try simp only [Act.put, pS1, pS2, pS3]
    refine wpAnyH_done (by kernel_rfl) ?_ _
    clear hHeld
    go_wp2
    go_end0
    have hlenl : l.length = len := HH.out.tx.1
    refine ⟨rfl, S4, ?_, HSB4.out, HW6.out⟩
    rw [← Hcn.out, hlenl]
    exact HH6.out
  · go_simp
    refine CO4.out.mono ?_
    rintro e w9 ⟨rfl, e9⟩
    replace e9 := e9.symm
    subst e9
    go_wp2_with fail
    refine hK.out _ _ hHeld (fun hHeld => ?_)
    clear hK K
    try simp only [Act.put, pS1, pS2, pS3]
    refine wpAnyH_ready (rs := [3]) (by kernel_rfl) (by simp) ?_
    refine (AllReadyH.cons (o := { dst := some 30, op := .load 3 (.tmp 29), type := 3, pos := "wal.go:56", after := #[zD 2], guard := none }) rfl (fun K hK => ?_) AllReadyH.nil)
    have h1 := HC4.out.2.2.2.1
    go_simp
    clear h1
    refine hK.out _ _ hHeld (fun hHeld => ?_)
    clear hK K
    try simp only [Act.put, pS1, pS2, pS3]
    refine zX 6 (.int .i64 ((V.used : Int) + (cn : Int))) rfl hHeld ?_
    try simp only [Act.put, pS1, pS2, pS3]
    refine zX 7 (.pointer (some ⟨q, 0, none⟩)) rfl hHeld ?_
    try simp only [Act.put, pS1, pS2, pS3]
    refine zX 8 (.pointer (some ⟨q, 4, none⟩)) rfl hHeld ?_
    try simp only [Act.put, pS1, pS2, pS3]
    refine wpAnyH_ready (rs := [9]) (by kernel_rfl) (by simp) ?_
    refine (AllReadyH.cons (o := { dst := none, op := .store 3 (.tmp 35) (.tmp 33), type := 0, pos := "wal.go:56", after := #[zD 8, zD 6, zC 5, zP 0, zP 1, zP 2, zP 3, zP 4, zP 5, zP 6], guard := none }) rfl (fun K hK => ?_) AllReadyH.nil)
    have h1 := c4
    have h2 := z4
    go_simp
    clear h1 h2
    refine hK.out _ _ ⟨HH5.out.cells.1, HH5.out.cells.2.1⟩ (fun hHeld => ?_)
    clear hK K
    try simp only [Act.put, pS1, pS2, pS3]
    refine wpAnyH_done (by kernel_rfl) ?_ _
    clear hHeld CO4
    have e5 : w4.drew.setCell ⟨q, 4, none⟩ (.int .i64 ((V.used : Int) + (cn : Int))) = (w4.setCell ⟨q, 4, none⟩ (.int .i64 ((V.used : Int) + (cn : Int)))).drew := rfl
    rw [e5] at HH5 HW5
    obtain ⟨w5, H5⟩ : ∃ z, Hid (z = (w4.setCell ⟨q, 4, none⟩ (.int .i64 ((V.used : Int) + (cn : Int)))).drew) := ⟨_, hidd rfl⟩
    rw [← H5.out] at HH5 HW5
    rw [← H5.out]
    have HC5 : Hid _ := HH5.out.cells
    have wco := wrap_int ((V.count : Int) + (len : Int)) (by omega) (by omega)
    have z5 := HH5.out.m.fz 5
    have c5 := HH5.out.m.c.2.2.2.2.2
    have HM6 : Hid (WM (w5.drew.setCell ⟨q, 5, none⟩ (.int .i64 ((V.count + len : Nat)))) q p f r ⟨V.half, V.used + cn, V.count + len⟩ T) := HH5.out.drew.m.set5 (V.count + len)
    have HH6 := hidd (HH5.out.drew.set HM6.out)
    have HW6 := hidd (HW5.out.drew.trans (away_set w5.drew q 5 (.int .i64 ((V.count + len : Nat)))) fun b e => .inl (.inr e))
    have eco : ((V.count + len : Nat) : Int) = (V.count : Int) + (len : Int) := by omega
    rw [eco] at HM6 HH6 HW6
    clear c4 z4 HC4 HH4' H5 e5
    go_wp2
    refine wp_region_held_drew (S := (fun W => W.cell? ⟨wb, 0, none⟩ = some (.pointer (some ⟨q, 0, none⟩)) ∧ W.cell? ⟨lb, 0, none⟩ = some (.slice a len cap))) (by kernel_rfl) ⟨HC5.out.1, HC5.out.2.1⟩ (fun hHeld => ?_)
    refine zW 0 (.pointer (some ⟨q, 0, none⟩)) rfl (Or.inl ⟨by rfl, by intro W hSw; have h1 := hSw.1; go_simp⟩) hHeld ?_
    try simp only [Act.put, pS1, pS2, pS3]
    refine zX 1 (.pointer (some ⟨q, 0, none⟩)) rfl hHeld ?_
    try simp only [Act.put, pS1, pS2, pS3]
    refine zX 2 (.pointer (some ⟨q, 5, none⟩)) rfl hHeld ?_
    try simp only [Act.put, pS1, pS2, pS3]
    refine zW 4 (.slice a len cap) rfl (Or.inl ⟨by rfl, by intro W hSw; have h1 := hSw.2; go_simp⟩) hHeld ?_
    try simp only [Act.put, pS1, pS2, pS3]
    refine zX 5 (.int .i64 (len : Int)) rfl hHeld ?_
    try simp only [Act.put, pS1, pS2, pS3]
    refine wpAnyH_ready (rs := [3]) (by kernel_rfl) (by simp) ?_
    refine (AllReadyH.cons (o := { dst := some 39, op := .load 3 (.tmp 38), type := 3, pos := "wal.go:57", after := #[zD 2], guard := none }) rfl (fun K hK => ?_) AllReadyH.nil)
    have h1 := HC5.out.2.2.2.2
    go_simp
    clear h1
    refine hK.out _ _ hHeld (fun hHeld => ?_)
    clear hK K
    try simp only [Act.put, pS1, pS2, pS3]
    refine zX 6 (.int .i64 ((V.count : Int) + (len : Int))) rfl hHeld ?_
    try simp only [Act.put, pS1, pS2, pS3]
    refine zX 7 (.pointer (some ⟨q, 0, none⟩)) rfl hHeld ?_
    try simp only [Act.put, pS1, pS2, pS3]
    refine zX 8 (.pointer (some ⟨q, 5, none⟩)) rfl hHeld ?_
    try simp only [Act.put, pS1, pS2, pS3]
    refine wpAnyH_ready (rs := [9]) (by kernel_rfl) (by simp) ?_
    refine (AllReadyH.cons (o := { dst := none, op := .store 3 (.tmp 44) (.tmp 42), type := 0, pos := "wal.go:57", after := #[zD 8, zD 6, zP 0, zP 1, zP 2, zP 3, zP 4, zP 5, zP 6], guard := none }) rfl (fun K hK => ?_) AllReadyH.nil)
    have h1 := c5
    have h2 := z5
    go_simp
    clear h1 h2
    refine hK.out _ _ ⟨HH6.out.cells.1, HH6.out.cells.2.1⟩ (fun hHeld => ?_)
    clear hK K
    try simp only [Act.put, pS1, pS2, pS3]
    refine wpAnyH_done (by kernel_rfl) ?_ _
    clear hHeld
    go_wp2
    go_end0
    have hlenl : l.length = len := HH.out.tx.1
    refine ⟨rfl, S4, ?_, HSB4.out, HW6.out⟩
    rw [← Hcn.out, hlenl]
    exact HH6.out
structure ChR (w : World) (p q f r : Nat) (S T : Nat → Prop) (D' : DkT) (V' : VW) (w' : World) : Prop where
  ex : ∃ S', OAt w' p D' S' ∧ (∀ b, S' b → S b ∨ w.heap.size ≤ b) ∧ ¬ S' q
  m : WM w' q p f r V' T
  away : Away (fun b => S b ∨ b = q) w w'
def tryB (w : World) (q : Nat) (a : Option Addr) (len cap : Nat) : World := (w.alloc (.cells #[.pointer (some ⟨q, 0, none⟩)] 30)).alloc (.cells #[.slice a len cap] 31)
theorem tryB_row (w : World) (q : Nat) (a : Option Addr) (len cap : Nat) : (tryB w q a len cap).heap.size = w.heap.size + 2 ∧ Below w.heap.size w (tryB w q a len cap) ∧ (tryB w q a len cap).heap[w.heap.size]? = some (.cells #[.pointer (some ⟨q, 0, none⟩)] 30 (0, 0)) ∧ (tryB w q a len cap).heap[w.heap.size + 1]? = some (.cells #[.slice a len cap] 31 (0, 0)) := by
  have a1 := heap_alloc_new w (.cells #[.pointer (some ⟨q, 0, none⟩)] 30)
  obtain ⟨x1, hx1⟩ : ∃ x, w.alloc (.cells #[.pointer (some ⟨q, 0, none⟩)] 30) = x := ⟨_, rfl⟩
  have s1 : x1.heap.size = w.heap.size + 1 := by rw [← hx1]; simp
  have b1 : Below w.heap.size w x1 := by rw [← hx1]; exact (Below.refl _ _).alloc (Nat.le_refl _) _
  have a2 := heap_alloc_new x1 (.cells #[.slice a len cap] 31)
  have b2 : Below x1.heap.size x1 (x1.alloc (.cells #[.slice a len cap] 31)) := (Below.refl _ _).alloc (Nat.le_refl _) _
  unfold tryB
  rw [hx1] at a1 ⊢
  rw [s1] at a2
  exact ⟨by simp; omega, b1.trans (b2.mono (by omega)), (b2.block _ (by omega)).trans a1, a2⟩
theorem try_end {w W3 w0 : World} {p q wb lb f r : Nat} {V' : VW} {D' : DkT} {S S' T : Nat → Prop} {a : Option Addr} {len cap : Nat} {l : List ByteArray} (h : TryW w0 p q wb lb f r V' D' S' T a len cap l) (hS : ∀ b, S' b → S b ∨ W3.heap.size ≤ b) (hA : Away (fun b => S b ∨ b = q) W3 w0) (hb : Below w.heap.size w W3) (e : Nat) (x : Int) (he : w.heap.size ≤ e ∧ e < W3.heap.size) (hn : ¬ S e) (hq : q < w.heap.size) : ChR w p q f r S T D' V' (w0.setCell ⟨e, 0, none⟩ (.int .i64 x)) := by
  have aw := away_set w0 e 0 (.int .i64 x)
  have h1 := hb.size
  have h2 := hA.size
  have hS' : ¬ S' e := fun e2 => by
    rcases hS e e2 with e3 | e3
    · exact hn e3
    · omega
  refine ⟨⟨S', oat_set h.d hS', fun b e2 => ?_, h.nq⟩, h.m.same (aw.block q h.m.lt (by omega)), ⟨aw.os.trans (hA.os.trans hb.os), aw.tape.trans (hA.tape.trans hb.tape), aw.output.trans (hA.output.trans hb.output), by have := aw.size; omega, fun k hk hn2 => (aw.block k (by omega) (by omega)).trans ((hA.block k (by omega) hn2).trans (hb.block k hk))⟩⟩
  rcases hS b e2 with e3 | e3
  · exact .inl e3
  · exact .inr (by omega)
theorem try_begin {w : World} {p q f r : Nat} {V : VW} {D : DkT} {S T : Nat → Prop} {a : Option Addr} {len cap : Nat} {l : List ByteArray} (hM : WM w q p f r V T) (hA : OAt w p D S) (hTS : ∀ b, T b → ¬ S b) (hT : Texts w a len l) (hs : Small 30 4000 l) (hb : ∀ b, TBlock a len b → ¬ S b ∧ ¬ T b) :
    TryW (tryB w q a len cap) p q w.heap.size (w.heap.size + 1) f r V D S T a len cap l := by
  obtain ⟨s, b, r1, r2⟩ := tryB_row w q a len cap
  have lt := hA.lt
  have lq := hM.lt
  exact ⟨r1, r2, hM.below b, hA.below b, hT.keep b, hs, ⟨fun e => by have := lt _ e; omega, by omega⟩, ⟨fun e => by have := lt _ e; omega, by omega⟩, hTS q ((hM.mem q).2 rfl), fun x e => ⟨(hb x e).1, fun e2 => (hb x e).2 ((hM.mem x).2 e2)⟩⟩
def triedF (n : Nat) (w : World) : Array Value := #[.func (.func n) #[] #[.pointer (some ⟨w.heap.size, 0, none⟩), .pointer (some ⟨w.heap.size + 1, 0, none⟩)]]
theorem went_c {D D' : DkT} {n : Nat} (h1 : D'.safe = D.safe) (h2 : D'.stops = D.stops) (h3 : D'.puts.length ≤ D.puts.length + n) (hn : n ≤ 400) : WentC D D' := ⟨⟨by rw [h1], h2, by omega⟩, h1⟩
theorem bCommitTried (w : World) (p q f r : Nat) (V : VW) (D : DkT) (S T : Nat → Prop) (L : LgT) (a : Option Addr) (len cap : Nat) (l : List ByteArray) (hM : WM w q p f r V T) (hA : OAt w p D S) (hp : D.puts.length ≤ 500000) (hW : WP f r V D L) (hTS : ∀ b, T b → ¬ S b) (W2 : World) (s2 : W2.heap.size = w.heap.size + 2) (b2 : Below w.heap.size w W2) (hB : TryW W2 p q w.heap.size (w.heap.size + 1) f r V D S T a len cap l) (hbt : batchB l = true) (hu : V.used + costN l ≤ limN r) :
    (Calls Tryz.prog 18 (triedF 28 w) W2 fun e w' => e = .returned (.int .i64 0) ∧ ∃ D' V', ChR w p q f r S T D' V' w' ∧ WP f r V' D' (toL L (committed L l) 0) ∧ FrD f r D D' ∧ WentC D D') ∨
    (Calls Tryz.prog 18 (triedF 28 w) W2 fun e w' => e = .returned (.int .i64 80) ∧ ∃ D' V', ChR w p q f r S T D' V' w' ∧ D'.down = true ∧ WP f r V' D' (toL L (committed L l) 80) ∧ FrD f r D D' ∧ WentC D D') := by
  have hn : ∀ (caps : Array Value) W, (callFunc 28 caps).run Tryz.prog W = .ok (.enter 28 caps) W := fun caps W => by simp [go_sem]
  have ok := hA.ok
  have rm := ok.room
  obtain ⟨hr, hf⟩ := hW.part.room
  have hr2 : 64 ≤ r ∧ r ≤ 1000000 := ⟨hr, by omega⟩
  have hf2 : f ≤ 1000000 := by omega
  have b3 : Below W2.heap.size W2 (W2.alloc (.cells #[.int .i64 0] 24)) := (Below.refl _ _).alloc (Nat.le_refl _) _
  have r4 := heap_alloc_new W2 (.cells #[.int .i64 0] 24)
  have s3 : (W2.alloc (.cells #[.int .i64 0] 24)).heap.size = W2.heap.size + 1 := by simp
  obtain ⟨W3, hW3⟩ : ∃ W, W2.alloc (.cells #[.int .i64 0] 24) = W := ⟨_, rfl⟩
  rw [hW3] at b3 r4 s3
  have hB3 := hB.below b3
  have b13 := b2.trans (b3.mono b2.size)
  have lt := hA.lt
  have lq := hM.lt
  have nE : ¬ S W2.heap.size := fun e => by have := lt _ e; omega
  have keepE : ∀ {w0 : World}, Away (fun b => S b ∨ b = q) W3 w0 → w0.heap[W2.heap.size]? = some (.cells #[.int .i64 0] 24 (0, 0)) := fun h => (h.block W2.heap.size (by omega) (fun e => by rcases e with e | e; exact nE e; omega)).trans r4
  have wide : ∀ {w0 : World}, Away S W3 w0 → Away (fun b => S b ∨ b = q) W3 w0 := fun h => h.wide fun b e => .inl e
  by_cases hd : D.down = true
  · right
    refine (bTriedNo _ _ W2 (fun w0 => ∃ S', TryW w0 p q w.heap.size (w.heap.size + 1) f r V D S' T a len cap l ∧ (∀ b, S' b → S b ∨ W3.heap.size ≤ b) ∧ Away S W3 w0) (hn _) (by
      rw [hW3]
      refine (bCommit1No0 W3 p q _ _ f r V D S T a len cap l hB3 hp hr2 hf2 hW.half hu hd).mono ?_
      rintro e w0 ⟨rfl, S', k1, k2, k3⟩
      exact ⟨rfl, keepE (wide k3), S', k1, k2, k3⟩)).mono ?_
    rintro e w' ⟨rfl, w0, ⟨S', k1, k2, k3⟩, rfl⟩
    exact ⟨rfl, D, V, try_end k1 k2 (wide k3) b13 _ _ ⟨by omega, by omega⟩ nE lq, hd, (hW.hp _).cut hd, FrD.refl _ _ _, went_c (n := 0) rfl rfl (by omega) (by omega)⟩
  · have hd : D.down = false := by simpa using hd
    obtain ⟨e1, ok1, f1, hp1, sa1, pu1, hx⟩ := commit_one ok hW hd l hbt hu
    by_cases hd1 : (put1D f r V D l).down = true
    · right
      refine (bTriedNo _ _ W2 (fun w0 => ∃ S', TryW w0 p q w.heap.size (w.heap.size + 1) f r V (put1D f r V D l) S' T a len cap l ∧ (∀ b, S' b → S b ∨ W3.heap.size ≤ b) ∧ Away S W3 w0) (hn _) (by
        rw [hW3]
        refine (bCommit1No1 W3 p q _ _ f r V D S T a len cap l hB3 hp hr2 hf2 hW.half hu e1 hd1).mono ?_
        rintro e w0 ⟨rfl, S', k1, k2, k3⟩
        exact ⟨rfl, keepE (wide k3), S', k1, k2, k3⟩)).mono ?_
      rintro e w' ⟨rfl, w0, ⟨S', k1, k2, k3⟩, rfl⟩
      exact ⟨rfl, _, V, try_end k1 k2 (wide k3) b13 _ _ ⟨by omega, by omega⟩ nE lq, hd1, hp1.cut hd1, f1, went_c sa1 (write_stops _ _ _) pu1 (by omega)⟩
    · left
      have hd1 : (put1D f r V D l).down = false := by simpa using hd1
      obtain ⟨e2, ok2, f2, hw2, sa2, pu2, st2⟩ := hx hd1
      have hcn : V.count ≤ 1000000 := by
        obtain ⟨bs, g1, g2, g3⟩ := hW.laid (hW.part.calm rfl hd)
        have g4 := flat_count bs
        have g5 := g1.fits
        have g6 := limN_room hr
        have g7 := hW.count
        rw [← g3] at g7
        omega
      refine (bTriedOk _ _ W2 (fun w0 => ∃ S', TryW w0 p q w.heap.size (w.heap.size + 1) f r ⟨V.half, V.used + costN l, V.count + l.length⟩ (put2D f r V (put1D f r V D l)) S' T a len cap l ∧ (∀ b, S' b → S b ∨ W3.heap.size ≤ b) ∧ Away (fun b => S b ∨ b = q) W3 w0) (hn _) (by
        rw [hW3]
        refine (bCommit1Ok W3 p q _ _ f r V D S T a len cap l hB3 hp hr2 hf2 hW.half hu hcn e1 e2).mono ?_
        rintro e w0 ⟨rfl, S', k1, k2, k3⟩
        exact ⟨rfl, keepE k3, S', k1, k2, k3⟩)).mono ?_
      rintro e w' ⟨rfl, w0, ⟨S', k1, k2, k3⟩, rfl⟩
      exact ⟨rfl, _, _, try_end k1 k2 k3 b13 _ _ ⟨by omega, by omega⟩ nE lq, hw2, f2, went_c sa2 st2 pu2 (by omega)⟩
theorem small_of {l : List ByteArray} (h : Small 30 5000 l) (hb : batchB l = true) : Small 30 4000 l := ⟨h.1, (of_decide_eq_true hb).2⟩
theorem change_end {w w' : World} {p q f r : Nat} {S T : Nat → Prop} {D' : DkT} {V' : VW} (hTm : ∀ b, T b ↔ b = q) (h : ChR w p q f r S T D' V' w') : ∃ S', OAt w' p D' S' ∧ WM w' q p f r V' T ∧ (∀ b, S' b → S b ∨ w.heap.size ≤ b) ∧ (∀ b, T b → T b ∨ w.heap.size ≤ b) ∧ (∀ b, T b → ¬ S' b) ∧ Away (fun b => S b ∨ T b) w w' := by
  obtain ⟨S', k1, k2, k3⟩ := h.ex
  exact ⟨S', k1, h.m, k2, fun b e => .inl e, fun b e => by rw [(hTm b).1 e]; exact k3, h.away.wide fun b e => by rcases e with e | e; exact .inl e; exact .inr ((hTm b).2 e)⟩
theorem change_still {w w' : World} {p q f r : Nat} {S T : Nat → Prop} {D : DkT} {V : VW} (hM : WM w q p f r V T) (hA : OAt w p D S) (hTS : ∀ b, T b → ¬ S b) (hb : Below w.heap.size w w') : ChR w p q f r S T D V w' := ⟨⟨S, hA.below hb, fun b e => .inl e, hTS q ((hM.mem q).2 rfl)⟩, hM.below hb, Away.of_below hb⟩
set_option maxHeartbeats 4000000 in
theorem bCommit (w : World) (p : Nat) (D : DkT) (S : Nat → Prop) (h : OAt w p D S) (hp : D.puts.length ≤ 500000) (q f r : Nat) (V : VW) (T : Nat → Prop) (L : LgT) (hM : WM w q p f r V T) (hW : WP f r V D L) (hTS : ∀ b, T b → ¬ S b) (a : Option Addr) (len cap : Nat) (l : List ByteArray) (hT : Texts w a len l) (hl : Small 30 5000 l) (hc : a = none → cap = 0) (hb : ∀ b, TBlock a len b → ¬ S b ∧ ¬ T b) :
    Calls Tryz.prog 10 #[ptr q, .slice a len cap] w fun e w' => ∃ n D' S' V' T' L', e = .returned (.int .i64 n) ∧ ChangeE L L' (committed L l) l r D' false n ∧ OAt w' p D' S' ∧ WM w' q p f r V' T' ∧ WP f r V' D' L' ∧ (∀ b, S' b → S b ∨ w.heap.size ≤ b) ∧ (∀ b, T' b → T b ∨ w.heap.size ≤ b) ∧ (∀ b, T' b → ¬ S' b) ∧ Away (fun b => S b ∨ T b) w w' ∧ WentC D D' ∧
      (∀ f2 r2, (f + r ≤ f2 ∨ f2 + r2 ≤ f) → (∀ V L, WP f2 r2 V D L → WP f2 r2 V D' L) ∧ (∀ L c, PA f2 r2 D L c → PA f2 r2 D' L c)) := by
  have hmem := hM.mem
  obtain ⟨s2, b2, r1, r2⟩ := tryB_row w q a len cap
  have hT2 := hT.keep b2
  have RF := hidd (bRefusal q a len cap l (tryB w q a len cap) hT2 (hl.mono (by omega) (by omega)))
  have rm := h.ok.room
  obtain ⟨hr, hf⟩ := hW.part.room
  have hr2 : r ≤ 1000000 := by omega
  have HFIN : Hid (∀ w' D' V' L' n, ChR w p q f r S T D' V' w' → ChangeE L L' (committed L l) l r D' false n → WP f r V' D' L' → FrD f r D D' → WentC D D' → ∃ n' D' S' V' T' L', Ending.returned (.int .i64 n) = .returned (.int .i64 n') ∧ ChangeE L L' (committed L l) l r D' false n' ∧ OAt w' p D' S' ∧ WM w' q p f r V' T' ∧ WP f r V' D' L' ∧ (∀ b, S' b → S b ∨ w.heap.size ≤ b) ∧ (∀ b, T' b → T b ∨ w.heap.size ≤ b) ∧ (∀ b, T' b → ¬ S' b) ∧ Away (fun b => S b ∨ T b) w w' ∧ WentC D D' ∧ (∀ f2 r2, (f + r ≤ f2 ∨ f2 + r2 ≤ f) → (∀ V L, WP f2 r2 V D L → WP f2 r2 V D' L) ∧ (∀ L c, PA f2 r2 D L c → PA f2 r2 D' L c))) := by
    intro w' D' V' L' n k1 k2 k3 k4 k5
    obtain ⟨S', g1, g2, g3, g4, g5, g6⟩ := change_end hmem k1
    exact ⟨n, D', S', V', T, L', rfl, k2, g1, g2, k3, g3, g4, g5, g6, k5, k4.both⟩
  have CH2 := change_still hM h hTS b2
  unfold tryB at RF
  unfold ptr at RF
  unfold ptr
  by_cases hbt : batchB l = true
  · rw [show refW l = 0 by unfold refW; rw [if_pos hbt]] at RF
    have hs := small_of hl hbt
    have hsc := small_cost hs
    have hB := try_begin (cap := cap) hM h hTS hT hs hb
    have CO := hidd (bCost a len cap l (tryB w q a len cap).drew hT2.drew (hs.mono (by omega) (by omega)))
    have LM := hidd (bLimit (tryB w q a len cap).drew q p f r V T (hM.below b2).drew ⟨hr, hr2⟩)
    have HC : Hid _ := hB.cells
    obtain ⟨W2, HW2⟩ : ∃ W, Hid (W = tryB w q a len cap) := ⟨_, hidd rfl⟩
    rw [← HW2.out] at CO LM HC hB b2 s2 CH2
    have hlim : limN r ≤ 1000000 := by unfold limN; omega
    have hus := hW.used
    obtain ⟨m, Hm⟩ : ∃ z, Hid (z = limN r) := ⟨_, hidd rfl⟩
    obtain ⟨cn, Hcn⟩ : ∃ z, Hid (z = costN l) := ⟨_, hidd rfl⟩
    rw [← Hm.out] at LM hus
    rw [← Hcn.out] at CO hsc
    have hm6 : m ≤ 1000000 := by rw [Hm.out]; exact hlim
    have wsu := wrap_int ((m : Int) - (V.used : Int)) (by omega) (by omega)
    unfold ptr at LM
    have hmf : ∀ (fn : Fn) (first cap : Array Value) (w : World), (Instr.makeFunc fn first cap).run Tryz.prog w = .ok (.func fn first cap) w := fun _ _ _ _ => rfl
    by_cases hfit : V.used + costN l ≤ limN r
    · have hdc : decide ((m : Int) - (V.used : Int) < (cn : Int)) = false := by rw [decide_eq_false_iff_not, Hm.out, Hcn.out]; omega
      have TR := hidd (bCommitTried w p q f r V D S T L a len cap l hM h hp hW hTS W2.drew s2 (b2.drew) hB.drew hbt hfit)
      unfold triedF at TR
      clear hM hT hT2 hl hc hb hs hB
      rcases TR.out with hT1 | hT1
      · have HT1 := hidd hT1
        clear TR hT1
        go_enter Tryz.func10, Tryz.ntmps10
        go_wp2_with fail
        refine RF.out.mono ?_
        rintro e w3 ⟨rfl, e3⟩
        subst e3
        go_wp2
        have e2 : Hid (W2 = (w.alloc (.cells #[.pointer (some ⟨q, 0, none⟩)] 30)).alloc (.cells #[.slice a len cap] 31)) := HW2.out
        rw [← e2.out]
        refine wp_region_held_drew (S := (fun W => W.cell? ⟨w.heap.size, 0, none⟩ = some (.pointer (some ⟨q, 0, none⟩)) ∧ W.cell? ⟨w.heap.size + 1, 0, none⟩ = some (.slice a len cap) ∧ W.cell? ⟨q, 4, none⟩ = some (.int .i64 (V.used : Int)))) (by kernel_rfl) ⟨HC.out.1, HC.out.2.1, HC.out.2.2.2.1⟩ (fun hHeld => ?_)
        refine zW 0 (.slice a len cap) rfl (Or.inl ⟨by rfl, by intro W hSw; have h1 := hSw.2.1; go_simp⟩) hHeld ?_
        try simp only [Act.put, pS1, pS2, pS3]
        refine zW 2 (.pointer (some ⟨q, 0, none⟩)) rfl (Or.inl ⟨by rfl, by intro W hSw; have h1 := hSw.1; go_simp⟩) hHeld ?_
        try simp only [Act.put, pS1, pS2, pS3]
        refine zW 4 (.pointer (some ⟨q, 0, none⟩)) rfl (Or.inl ⟨by rfl, by intro W hSw; have h1 := hSw.1; go_simp⟩) hHeld ?_
        try simp only [Act.put, pS1, pS2, pS3]
        refine zX 5 (.pointer (some ⟨q, 0, none⟩)) rfl hHeld ?_
        try simp only [Act.put, pS1, pS2, pS3]
        refine zX 6 (.pointer (some ⟨q, 4, none⟩)) rfl hHeld ?_
        try simp only [Act.put, pS1, pS2, pS3]
        refine zW 7 (.int .i64 (V.used : Int)) rfl (Or.inl ⟨by rfl, by intro W hSw; have h1 := hSw.2.2; go_simp⟩) hHeld ?_
        try simp only [Act.put, pS1, pS2, pS3]
        refine wpAnyH_ready (rs := [1]) (by kernel_rfl) (by simp) ?_
        refine (AllReadyH.cons (o := { dst := some 13, op := .call { callee := .value (.func 26), args := #[.tmp 12], argTypes := #[31] }, type := 3, pos := "wal.go:49", after := #[zD 0], guard := none }) rfl (fun K hK => ?_) AllReadyH.nil)
        go_simp
        refine CO.out.mono ?_
        rintro e w9 ⟨rfl, e9⟩
        replace e9 := e9.symm
        subst e9
        go_wp2_with fail
        refine hK.out _ _ hHeld (fun hHeld => ?_)
        clear hK K
        try simp only [Act.put, pS1, pS2, pS3]
        refine wpAnyH_ready (rs := [3]) (by kernel_rfl) (by simp) ?_
        refine (AllReadyH.cons (o := { dst := some 15, op := .call { callee := .value (.func 27), args := #[.tmp 14], argTypes := #[30] }, type := 3, pos := "wal.go:49", after := #[zD 2, zC 1], guard := none }) rfl (fun K hK => ?_) AllReadyH.nil)
        go_simp
        refine LM.out.mono ?_
        rintro e w9 ⟨rfl, e9⟩
        replace e9 := e9.symm
        subst e9
        go_wp2_with fail
        refine hK.out _ _ hHeld (fun hHeld => ?_)
        clear hK K
        try simp only [Act.put, pS1, pS2, pS3]
        refine zX 8 (.int .i64 ((m : Int) - (V.used : Int))) rfl hHeld ?_
        try simp only [Act.put, pS1, pS2, pS3]
        refine zX 9 (.bool false) rfl hHeld ?_
        try simp only [Act.put, pS1, pS2, pS3]
        refine wpAnyH_done (by kernel_rfl) ?_ _
        clear hHeld CO LM RF
        go_wp2_with fail
        refine HT1.out.mono ?_
        rintro e w9 ⟨rfl, D', V', k1, k2, k3, k4⟩
        have HF := hidd (HFIN.out w9 D' V' (toL L (committed L l) 0) 0 k1 (.inr ⟨hbt, .inl ⟨rfl, rfl⟩⟩) k2 k3 k4)
        clear k1 k2 k3 k4
        go_wp2
        go_ret
        exact HF.out
      · have HT1 := hidd hT1
        clear TR hT1
        go_enter Tryz.func10, Tryz.ntmps10
        go_wp2_with fail
        refine RF.out.mono ?_
        rintro e w3 ⟨rfl, e3⟩
        subst e3
        go_wp2
        have e2 : Hid (W2 = (w.alloc (.cells #[.pointer (some ⟨q, 0, none⟩)] 30)).alloc (.cells #[.slice a len cap] 31)) := HW2.out
        rw [← e2.out]
        refine wp_region_held_drew (S := (fun W => W.cell? ⟨w.heap.size, 0, none⟩ = some (.pointer (some ⟨q, 0, none⟩)) ∧ W.cell? ⟨w.heap.size + 1, 0, none⟩ = some (.slice a len cap) ∧ W.cell? ⟨q, 4, none⟩ = some (.int .i64 (V.used : Int)))) (by kernel_rfl) ⟨HC.out.1, HC.out.2.1, HC.out.2.2.2.1⟩ (fun hHeld => ?_)
        refine zW 0 (.slice a len cap) rfl (Or.inl ⟨by rfl, by intro W hSw; have h1 := hSw.2.1; go_simp⟩) hHeld ?_
        try simp only [Act.put, pS1, pS2, pS3]
        refine zW 2 (.pointer (some ⟨q, 0, none⟩)) rfl (Or.inl ⟨by rfl, by intro W hSw; have h1 := hSw.1; go_simp⟩) hHeld ?_
        try simp only [Act.put, pS1, pS2, pS3]
        refine zW 4 (.pointer (some ⟨q, 0, none⟩)) rfl (Or.inl ⟨by rfl, by intro W hSw; have h1 := hSw.1; go_simp⟩) hHeld ?_
        try simp only [Act.put, pS1, pS2, pS3]
        refine zX 5 (.pointer (some ⟨q, 0, none⟩)) rfl hHeld ?_
        try simp only [Act.put, pS1, pS2, pS3]
        refine zX 6 (.pointer (some ⟨q, 4, none⟩)) rfl hHeld ?_
        try simp only [Act.put, pS1, pS2, pS3]
        refine zW 7 (.int .i64 (V.used : Int)) rfl (Or.inl ⟨by rfl, by intro W hSw; have h1 := hSw.2.2; go_simp⟩) hHeld ?_
        try simp only [Act.put, pS1, pS2, pS3]
        refine wpAnyH_ready (rs := [1]) (by kernel_rfl) (by simp) ?_
        refine (AllReadyH.cons (o := { dst := some 13, op := .call { callee := .value (.func 26), args := #[.tmp 12], argTypes := #[31] }, type := 3, pos := "wal.go:49", after := #[zD 0], guard := none }) rfl (fun K hK => ?_) AllReadyH.nil)
        go_simp
        refine CO.out.mono ?_
        rintro e w9 ⟨rfl, e9⟩
        replace e9 := e9.symm
        subst e9
        go_wp2_with fail
        refine hK.out _ _ hHeld (fun hHeld => ?_)
        clear hK K
        try simp only [Act.put, pS1, pS2, pS3]
        refine wpAnyH_ready (rs := [3]) (by kernel_rfl) (by simp) ?_
        refine (AllReadyH.cons (o := { dst := some 15, op := .call { callee := .value (.func 27), args := #[.tmp 14], argTypes := #[30] }, type := 3, pos := "wal.go:49", after := #[zD 2, zC 1], guard := none }) rfl (fun K hK => ?_) AllReadyH.nil)
        go_simp
        refine LM.out.mono ?_
        rintro e w9 ⟨rfl, e9⟩
        replace e9 := e9.symm
        subst e9
        go_wp2_with fail
        refine hK.out _ _ hHeld (fun hHeld => ?_)
        clear hK K
        try simp only [Act.put, pS1, pS2, pS3]
        refine zX 8 (.int .i64 ((m : Int) - (V.used : Int))) rfl hHeld ?_
        try simp only [Act.put, pS1, pS2, pS3]
        refine zX 9 (.bool false) rfl hHeld ?_
        try simp only [Act.put, pS1, pS2, pS3]
        refine wpAnyH_done (by kernel_rfl) ?_ _
        clear hHeld CO LM RF
        go_wp2_with fail
        refine HT1.out.mono ?_
        rintro e w9 ⟨rfl, D', V', k1, k0, k2, k3, k4⟩
        have HF := hidd (HFIN.out w9 D' V' (toL L (committed L l) 80) 80 k1 (.inr ⟨hbt, .inr (.inl ⟨rfl, k0, rfl⟩)⟩) k2 k3 k4)
        clear k0 k1 k2 k3 k4
        go_wp2
        go_ret
        exact HF.out
    · have hdc : decide ((m : Int) - (V.used : Int) < (cn : Int)) = true := by rw [decide_eq_true_eq, Hm.out, Hcn.out]; omega
      have HF := hidd (HFIN.out W2.drew D V L 90 (change_still hM h hTS b2.drew) (.inr ⟨hbt, .inr (.inr ⟨rfl, rfl, by show r / 2 < L.now.cost + costN l + 16; have := hW.dear; unfold limN at hfit; omega⟩)⟩) hW (FrD.refl _ _ _) (went_c (n := 0) rfl rfl (by omega) (by omega)))
      clear hM hT hT2 hl hc hb hs hB hfit
      go_enter Tryz.func10, Tryz.ntmps10
      go_wp2_with fail
      refine RF.out.mono ?_
      rintro e w3 ⟨rfl, e3⟩
      subst e3
      go_wp2
      have e2 : Hid (W2 = (w.alloc (.cells #[.pointer (some ⟨q, 0, none⟩)] 30)).alloc (.cells #[.slice a len cap] 31)) := HW2.out
      rw [← e2.out]
      refine wp_region_held_drew (S := (fun W => W.cell? ⟨w.heap.size, 0, none⟩ = some (.pointer (some ⟨q, 0, none⟩)) ∧ W.cell? ⟨w.heap.size + 1, 0, none⟩ = some (.slice a len cap) ∧ W.cell? ⟨q, 4, none⟩ = some (.int .i64 (V.used : Int)))) (by kernel_rfl) ⟨HC.out.1, HC.out.2.1, HC.out.2.2.2.1⟩ (fun hHeld => ?_)
      refine zW 0 (.slice a len cap) rfl (Or.inl ⟨by rfl, by intro W hSw; have h1 := hSw.2.1; go_simp⟩) hHeld ?_
      try simp only [Act.put, pS1, pS2, pS3]
      refine zW 2 (.pointer (some ⟨q, 0, none⟩)) rfl (Or.inl ⟨by rfl, by intro W hSw; have h1 := hSw.1; go_simp⟩) hHeld ?_
      try simp only [Act.put, pS1, pS2, pS3]
      refine zW 4 (.pointer (some ⟨q, 0, none⟩)) rfl (Or.inl ⟨by rfl, by intro W hSw; have h1 := hSw.1; go_simp⟩) hHeld ?_
      try simp only [Act.put, pS1, pS2, pS3]
      refine zX 5 (.pointer (some ⟨q, 0, none⟩)) rfl hHeld ?_
      try simp only [Act.put, pS1, pS2, pS3]
      refine zX 6 (.pointer (some ⟨q, 4, none⟩)) rfl hHeld ?_
      try simp only [Act.put, pS1, pS2, pS3]
      refine zW 7 (.int .i64 (V.used : Int)) rfl (Or.inl ⟨by rfl, by intro W hSw; have h1 := hSw.2.2; go_simp⟩) hHeld ?_
      try simp only [Act.put, pS1, pS2, pS3]
      refine wpAnyH_ready (rs := [1]) (by kernel_rfl) (by simp) ?_
      refine (AllReadyH.cons (o := { dst := some 13, op := .call { callee := .value (.func 26), args := #[.tmp 12], argTypes := #[31] }, type := 3, pos := "wal.go:49", after := #[zD 0], guard := none }) rfl (fun K hK => ?_) AllReadyH.nil)
      go_simp
      refine CO.out.mono ?_
      rintro e w9 ⟨rfl, e9⟩
      replace e9 := e9.symm
      subst e9
      go_wp2_with fail
      refine hK.out _ _ hHeld (fun hHeld => ?_)
      clear hK K
      try simp only [Act.put, pS1, pS2, pS3]
      refine wpAnyH_ready (rs := [3]) (by kernel_rfl) (by simp) ?_
      refine (AllReadyH.cons (o := { dst := some 15, op := .call { callee := .value (.func 27), args := #[.tmp 14], argTypes := #[30] }, type := 3, pos := "wal.go:49", after := #[zD 2, zC 1], guard := none }) rfl (fun K hK => ?_) AllReadyH.nil)
      go_simp
      refine LM.out.mono ?_
      rintro e w9 ⟨rfl, e9⟩
      replace e9 := e9.symm
      subst e9
      go_wp2_with fail
      refine hK.out _ _ hHeld (fun hHeld => ?_)
      clear hK K
      try simp only [Act.put, pS1, pS2, pS3]
      refine zX 8 (.int .i64 ((m : Int) - (V.used : Int))) rfl hHeld ?_
      try simp only [Act.put, pS1, pS2, pS3]
      refine zX 9 (.bool true) rfl hHeld ?_
      try simp only [Act.put, pS1, pS2, pS3]
      refine wpAnyH_done (by kernel_rfl) ?_ _
      clear hHeld CO LM RF
      go_wp2
      go_ret
      exact HF.out
  · rw [show refW l = 2 by unfold refW; rw [if_neg hbt]] at RF
    have HF := hidd (HFIN.out (tryB w q a len cap) D V L 2 CH2 (.inl ⟨by simpa using hbt, rfl, rfl⟩) hW (FrD.refl _ _ _) (went_c (n := 0) rfl rfl (by omega) (by omega)))
    unfold tryB at HF
    clear hM hT hT2 hl hc hb CH2 HFIN
    go_enter Tryz.func10, Tryz.ntmps10
    go_wp2_with fail
    refine RF.out.mono ?_
    rintro e w3 ⟨rfl, e3⟩
    subst e3
    go_wp2
    go_ret
    exact HF.out
set_option maxHeartbeats 2000000 in
theorem bOpenNo (w : World) (p : Nat) (D : DkT) (S : Nat → Prop) (h : OAt w p D S) (f r : Int) (hf : In64 f) (hr : In64 r) (hn : ¬ (64 ≤ r ∧ r ≤ 1000000 ∧ 0 ≤ f ∧ f ≤ D.safe.length ∧ r ≤ D.safe.length - f)) :
    Calls Tryz.prog 8 #[ptr p, .int .i64 f, .int .i64 r] w fun e w' => (∃ a cap, e = .returned (.tuple #[.pointer none, .slice a 0 cap, .int .i64 1])) ∧ Below w.heap.size w w' := by
  have hrm := h.ok.room
  have RM := hidd (diskC.room w p D S h)
  obtain ⟨n, Hn⟩ : ∃ n, Hid (n = D.safe.length) := ⟨_, hidd rfl⟩
  rw [← Hn.out] at RM hn hrm
  unfold In64 at hf hr
  clear h Hn
  unfold ptr
  unfold ptr at RM
  by_cases h1 : r < 64
  · have d1 : decide (r < 64) = true := by rw [decide_eq_true_eq]; exact h1
    clear hn RM
    go_enter Tryz.func8, Tryz.ntmps8
    go_wp2
    refine bodyPost_ret (v := .tuple #[.pointer none, .slice none 0 0, .int .i64 1]) (by simp [results, Tryz.results8, go_sem]) rfl ⟨⟨none, 0, rfl⟩, Below.refl _ _⟩
  · have d1 : decide (r < 64) = false := by rw [decide_eq_false_iff_not]; exact h1
    by_cases h2 : 1000000 < r
    · have d2 : decide ((1000000 : Int) < r) = true := by rw [decide_eq_true_eq]; exact h2
      clear hn RM
      go_enter Tryz.func8, Tryz.ntmps8
      go_wp2
      refine bodyPost_ret (v := .tuple #[.pointer none, .slice none 0 0, .int .i64 1]) (by simp [results, Tryz.results8, go_sem]) rfl ⟨⟨none, 0, rfl⟩, Below.refl _ _⟩
    · have d2 : decide ((1000000 : Int) < r) = false := by rw [decide_eq_false_iff_not]; exact h2
      by_cases h3 : f < 0
      · have d3 : decide (f < 0) = true := by rw [decide_eq_true_eq]; exact h3
        clear hn RM
        go_enter Tryz.func8, Tryz.ntmps8
        go_wp2
        refine bodyPost_ret (v := .tuple #[.pointer none, .slice none 0 0, .int .i64 1]) (by simp [results, Tryz.results8, go_sem]) rfl ⟨⟨none, 0, rfl⟩, Below.refl _ _⟩
      · have d3 : decide (f < 0) = false := by rw [decide_eq_false_iff_not]; exact h3
        have w4 := wrap_int ((n : Int) - f) (by omega) (by omega)
        have d4 : decide ((n : Int) - f < r) = true := by rw [decide_eq_true_eq]; omega
        clear hn
        go_enter Tryz.func8, Tryz.ntmps8
        go_wp2_with fail
        refine RM.out.mono ?_
        rintro e w1 ⟨rfl, hb1⟩
        have HB1 := hidd hb1
        clear RM hb1
        go_wp2
        refine bodyPost_ret (v := .tuple #[.pointer none, .slice none 0 0, .int .i64 1]) (by simp [results, Tryz.results8, go_sem]) rfl ⟨⟨none, 0, rfl⟩, HB1.out⟩
theorem walC : WalC OAt WM WP PA where
  mlt := fun h b e => by rw [(h.mem b).1 e]; exact h.lt
  mkeep := fun h hs hb => h.same (hb _ ((h.mem _).2 rfl))
  part := fun h => h.part
  crash := fun k t ok h => pa_crash k t ok h
  none_ := fun ok hs h => pa_none ok hs h
  all_ := fun k t ok hm hk h => pa_all k t ok hm hk h
  stopP := fun n h => pa_stop n h
  stopW := fun n h => wp_stop n h
  fresh := pa_fresh
  open_ := bOpen
  openNo := bOpenNo
  commit := bCommit
  sync := bSync
end Go.Proofs.YtgclohgcehhfnabGreatDoor
