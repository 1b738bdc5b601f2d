/- Texts of our own that the row of KeepRight leans on, part 31. -/
import Derived.Test.YtjpmmbmhkpgjcaaKeepRightJ0
import Derived.Test.YtjpmmbmhkpgjcaaKeepRightJ25
import Derived.Test.YtjpmmbmhkpgjcaaKeepRightJ27
import Derived.Lib.AppendZerosOnto
/- The library's slices.IndexFunc, Clone and Grow, at addresses and at claims. -/
namespace Go.Proofs.Ytjpmmbmhkpgjcaa
open Go.RowKit Nums Sums
set_option linter.unusedVariables false
set_option linter.unusedSimpArgs false
set_option maxRecDepth 100000
set_option maxHeartbeats 4000000 in
theorem ixfC_any (ad : Option Addr) (len cap : Nat) (l : List ClT) (p : ClT → Bool) (p1 p2 : Addr) (w : World) (h : CReads w ad len cap l) (hlen : len ≤ 1000000)
    (hp : ∀ (W : World) (y : ClT) (Y : Array Value), Below w.heap.size w W → OkC y → Hid (Y = (ccells y).toArray) → Calls Try.prog 122 #[.agg Y, .pointer (some p1), .pointer (some p2)] W fun e w' => e = .returned (.bool (p y)) ∧ Below W.heap.size W w') :
    Calls Try.prog 119 #[.slice ad len cap, .func (.func 122) #[] #[.pointer (some p1), .pointer (some p2)]] w fun e w' => e = .returned (.int .i64 (posI p l)) ∧ Below w.heap.size w w' := by
  have H := hidk h
  have HL := hidk h.ln
  have HP := hidk hp
  have hmx : len ≤ 9223372036854775807 := by omega
  clear h hp
  go_enter Try.func119, Try.ntmps119
  go_wp2
  go_loopw [5, 8] (fun _ v wr => ∃ k : Nat, k ≤ len ∧ v = .int .i64 k ∧ Hid (Below w.heap.size w wr) ∧ Hid (∀ y ∈ l.take k, p y = false)) (fun _ v _ => len - (intOf v).toNat)
  case atStart => exact ⟨0, by omega, rfl, Below.refl _ _, fun y hy => by simp at hy⟩
  case round =>
    obtain ⟨k, hk, rfl, HB, HN⟩ := hrel
    by_cases hlt : k < len
    · have hd : decide ((k : Int) < (len : Int)) = true := by rw [decide_eq_true_eq]; omega
      have hw1 := wrap_int ((k : Int) + 1) (by omega) (by omega)
      obtain ⟨g, o, rfl, hg⟩ := H.out.at (by omega)
      have hkl : k < l.length := by have := HL.out; omega
      obtain ⟨Y, HY⟩ : ∃ Y, Hid (Y = (ccells l[k]).toArray) := ⟨_, hidk rfl⟩
      have hoy := H.out.ok _ (List.getElem_mem hkl)
      have HSY : Hid ((Try.prog.info? 36).map (·.size) = some Y.size) := by show _ = _; rw [sizeC, HY.out]; simp [ccells_length _ hoy]
      have HRY : Hid (wr.rangeAt g (o + 36 * k) Y.toList) := by
        show World.rangeAt _ _ _ _
        rw [HY.out]
        exact (H.out.keep HB.out).range k hkl
      have ix := fun W => index_cl W g o len cap k .i64 hlt
      have PC := hidk (HP.out wr l[k] Y HB.out hoy HY)
      obtain ⟨b, hb⟩ : ∃ b, p l[k] = b := ⟨_, rfl⟩
      rw [hb] at PC
      have HYE : Hid (b = true → posI p l = (k : Int)) := fun hh => posI_yes k hkl HN.out (by rw [← hh]; exact hb)
      have HNO : Hid (b = false → ∀ y ∈ l.take (k + 1), p y = false) := fun hh => take_pos hkl HN.out (by rw [← hh]; exact hb)
      clear hb HN HY hoy hkl HP
      go_wp2_with (first
        | (show aD 15 _ _ _ _ _ _ _ _ _ _ _; refine wpList_mid_w (by rfl) 36 (.tmp 14) rfl g (o + 36 * k) rfl Y _ HRY.out Try.underlying36 rfl HSY.out ?_; try simp only [Act.put, pS1, pS2, pS3])
        | fail)
      refine PC.out.mono ?_
      rintro e w1 ⟨rfl, hb1⟩
      have HB2 := hidk (HB.out.trans (hb1.mono HB.out.size))
      clear PC hb1
      cases b
      · replace HNO := hidk (HNO.out rfl)
        clear HYE
        go_wp2
        go_roundw
        case rel => exact ⟨k + 1, by omega, by go_num, HB2, HNO⟩
        case measure => simp [intOf]; omega
      · replace HYE := hidk (HYE.out rfl)
        clear HNO
        go_wp2
        go_ret
        exact ⟨by rw [HYE.out]; rfl, HB2.out⟩
    · obtain rfl : len = k := by omega
      have hd : decide ((len : Int) < (len : Int)) = false := by rw [decide_eq_false_iff_not]; omega
      have HE : Hid (posI p l = -1) := posI_no (by have := HN.out; rwa [List.take_of_length_le (by have := HL.out; omega)] at this)
      go_wp2
      go_ret
      exact ⟨by rw [HE.out]; rfl, HB.out⟩
set_option maxHeartbeats 4000000 in
theorem ixfF_any (ad : Option Addr) (len cap : Nat) (l : List ClT) (p : ClT → Bool) (p1 p2 : Addr) (w : World) (h : CReads w ad len cap l) (hlen : len ≤ 1000000)
    (hp : ∀ (W : World) (y : ClT) (Y : Array Value), Below w.heap.size w W → OkC y → Hid (Y = (ccells y).toArray) → Calls Try.prog 120 #[.agg Y, .pointer (some p1), .pointer (some p2)] W fun e w' => e = .returned (.bool (p y)) ∧ Below W.heap.size W w') :
    Calls Try.prog 119 #[.slice ad len cap, .func (.func 120) #[] #[.pointer (some p1), .pointer (some p2)]] w fun e w' => e = .returned (.int .i64 (posI p l)) ∧ Below w.heap.size w w' := by
  have H := hidk h
  have HL := hidk h.ln
  have HP := hidk hp
  have hmx : len ≤ 9223372036854775807 := by omega
  clear h hp
  go_enter Try.func119, Try.ntmps119
  go_wp2
  go_loopw [5, 8] (fun _ v wr => ∃ k : Nat, k ≤ len ∧ v = .int .i64 k ∧ Hid (Below w.heap.size w wr) ∧ Hid (∀ y ∈ l.take k, p y = false)) (fun _ v _ => len - (intOf v).toNat)
  case atStart => exact ⟨0, by omega, rfl, Below.refl _ _, fun y hy => by simp at hy⟩
  case round =>
    obtain ⟨k, hk, rfl, HB, HN⟩ := hrel
    by_cases hlt : k < len
    · have hd : decide ((k : Int) < (len : Int)) = true := by rw [decide_eq_true_eq]; omega
      have hw1 := wrap_int ((k : Int) + 1) (by omega) (by omega)
      obtain ⟨g, o, rfl, hg⟩ := H.out.at (by omega)
      have hkl : k < l.length := by have := HL.out; omega
      obtain ⟨Y, HY⟩ : ∃ Y, Hid (Y = (ccells l[k]).toArray) := ⟨_, hidk rfl⟩
      have hoy := H.out.ok _ (List.getElem_mem hkl)
      have HSY : Hid ((Try.prog.info? 36).map (·.size) = some Y.size) := by show _ = _; rw [sizeC, HY.out]; simp [ccells_length _ hoy]
      have HRY : Hid (wr.rangeAt g (o + 36 * k) Y.toList) := by
        show World.rangeAt _ _ _ _
        rw [HY.out]
        exact (H.out.keep HB.out).range k hkl
      have ix := fun W => index_cl W g o len cap k .i64 hlt
      have PC := hidk (HP.out wr l[k] Y HB.out hoy HY)
      obtain ⟨b, hb⟩ : ∃ b, p l[k] = b := ⟨_, rfl⟩
      rw [hb] at PC
      have HYE : Hid (b = true → posI p l = (k : Int)) := fun hh => posI_yes k hkl HN.out (by rw [← hh]; exact hb)
      have HNO : Hid (b = false → ∀ y ∈ l.take (k + 1), p y = false) := fun hh => take_pos hkl HN.out (by rw [← hh]; exact hb)
      clear hb HN HY hoy hkl HP
      go_wp2_with (first
        | (show aD 15 _ _ _ _ _ _ _ _ _ _ _; refine wpList_mid_w (by rfl) 36 (.tmp 14) rfl g (o + 36 * k) rfl Y _ HRY.out Try.underlying36 rfl HSY.out ?_; try simp only [Act.put, pS1, pS2, pS3])
        | fail)
      refine PC.out.mono ?_
      rintro e w1 ⟨rfl, hb1⟩
      have HB2 := hidk (HB.out.trans (hb1.mono HB.out.size))
      clear PC hb1
      cases b
      · replace HNO := hidk (HNO.out rfl)
        clear HYE
        go_wp2
        go_roundw
        case rel => exact ⟨k + 1, by omega, by go_num, HB2, HNO⟩
        case measure => simp [intOf]; omega
      · replace HYE := hidk (HYE.out rfl)
        clear HNO
        go_wp2
        go_ret
        exact ⟨by rw [HYE.out]; rfl, HB2.out⟩
    · obtain rfl : len = k := by omega
      have hd : decide ((len : Int) < (len : Int)) = false := by rw [decide_eq_false_iff_not]; omega
      have HE : Hid (posI p l = -1) := posI_no (by have := HN.out; rwa [List.take_of_length_le (by have := HL.out; omega)] at this)
      go_wp2
      go_ret
      exact ⟨by rw [HE.out]; rfl, HB.out⟩
theorem buildNoneC (w : World) : (Instr.buildSlice 23 0 #[]).run Try.prog w = .ok (.slice (some ⟨w.heap.size, 0, none⟩) 0 0) (w.alloc (.cells #[] 36)) := by
  simp [Instr.buildSlice, run_underlying Try.underlying23, sizeOfClis, newRow, Instr.fill]
  rw [show Array.map (fun (_ : Nat) => (default : Value)) (Array.range 0) = #[] from Array.eq_empty_of_size_eq_zero (by simp)]
set_option maxHeartbeats 2000000 in
theorem cloneC_any (g o len cap : Nat) (l : List ClT) (w : World) (h : CReads w (some ⟨g, o, none⟩) len cap l) (hlen : len ≤ 1000000) :
    Calls Try.prog 64 #[.slice (some ⟨g, o, none⟩) len cap] w fun e w' => ∃ v, e = .returned v ∧ w'.ownsRow w.heap.size 36 36 v len (clcL l) ∧ Below w.heap.size w w' := by
  have hb0 : Below w.heap.size w (w.alloc (.cells #[] 36)) := (Below.refl _ _).alloc (Nat.le_refl _) _
  have ho : (w.alloc (.cells #[] 36)).ownsRow w.heap.size 36 36 (.slice (some ⟨w.heap.size, 0, none⟩) 0 0) 0 (clcL []) := World.ownsRow_made w #[] 0 (Nat.le_refl _) (Nat.zero_le _) (by simp)
  have hs : w.heap.size ≤ (w.alloc (.cells #[] 36)).heap.size := by simp
  obtain ⟨v, w1, hr, h1, hg⟩ := run_append_cls (h.keep hb0) (fun e => by cases e) w.heap.size 0 _ [] ho hs (by omega)
  have HB : Hid (Below w.heap.size w w1) := hb0.grown hg hs (fun k e => (ho.lt k e).1)
  rw [List.nil_append, Nat.zero_add] at h1
  have HO := hidk h1
  have hn : ∀ W : World, (binOp .eql 23 (.slice (some ⟨g, o, none⟩) len cap) (.slice none 0 0)).run Try.prog W = .ok (.bool false) W := fun _ => rfl
  have hbn := buildNoneC w
  clear h1 hg h ho hs hb0
  go_enter Try.func64, Try.ntmps64
  go_wp2_with (first
    | (show aD 5 _ _ _ _ _ _ _ _ _ _ _; refine wpList_build_run rfl 23 0 _ rfl #[] rfl _ _ hbn ?_; try simp only [Act.put, pS1, pS2, pS3])
    | (show aD 7 _ _ _ _ _ _ _ _ _ _ _; refine wpList_append_run rfl (.tmp 5) (.tmp 6) 23 23 rfl _ _ v w1 rfl rfl hr ?_; try simp only [Act.put, pS1, pS2, pS3])
    | fail)
  go_ret
  exact ⟨v, rfl, HO.out, HB.out⟩
set_option maxHeartbeats 2000000 in
theorem growC_any (n : Nat) (w : World) (h0 : 0 < n) (hn : n ≤ 1000000) :
    Calls Try.prog 131 #[.slice none 0 0, .int .i64 n] w fun e w' => ∃ v, e = .returned v ∧ w'.ownsRow w.heap.size 36 36 v 0 (clcL []) ∧ Below w.heap.size w w' := by
  obtain ⟨i0, hi, hz0, hz1, hz2⟩ := info_parts infoClis
  have hr : ∀ ty, (Builtin.append_ #[23, 3] ty #[.slice none 0 0, .int .i64 (n : Int)]).run Try.prog w = _ := fun ty =>
    Lib.run_append_grow_zeros w 23 3 ty 36 i0 _ .i64 .i64 Try.underlying23 Try.underlying3 hi hz0 none 0 0 [] (run_firstCells_none w.drew i0.size 0 0 0) n h0 (by rw [hz1]; omega) (by omega) (by omega) (by rw [hz2]; omega) (by rw [hz2]; exact growslice_fits (by omega) (by omega))
  have hge := grownCap_ge w (0 + n) 0 36
  have hle := grownCap_le_maxLen w (0 + n) 0 36 (by unfold maxLen; omega)
  obtain ⟨G, hG⟩ : ∃ G, grownCap w (0 + n) 0 36 = G := ⟨_, rfl⟩
  rw [hG] at hr hge hle
  obtain ⟨cs, hcs⟩ : ∃ cs, (([] : List Value).toArray ++ Builtin.zeroCells (Value.agg (ccells ⟨0, 0, 0, 0, List.replicate 32 0⟩).toArray).cells n ++ Builtin.zeroCells (Value.agg (ccells ⟨0, 0, 0, 0, List.replicate 32 0⟩).toArray).cells (G - (0 + n))) = cs := ⟨_, rfl⟩
  have hsz : cs.size = G * 36 := by
    rw [← hcs]
    have e : (Value.agg (ccells ⟨0, 0, 0, 0, List.replicate 32 0⟩).toArray).cells.size = 36 := rfl
    simp only [Array.size_append, size_zeroCells, e]
    simp
    omega
  rw [hcs] at hr
  have HO : Hid ((w.drew.alloc (.cells cs 36)).ownsRow w.heap.size 36 36 (.slice (some ⟨w.heap.size, 0, none⟩) 0 G) 0 (clcL [])) := World.ownsRow_made w.drew cs G (Nat.le_refl _) hle hsz
  have HB : Hid (Below w.heap.size w (w.drew.alloc (.cells cs 36))) := (Below.refl _ _).drew.alloc (Nat.le_refl _) _
  rw [Nat.zero_add] at hr hge
  have h1 : decide ((n : Int) < 0) = false := decide_eq_false (by omega)
  have h2 : decide ((0 : Int) < (n : Int)) = true := decide_eq_true (by omega)
  have hw1 := wrap_int (n : Int) (by omega) (by omega)
  have sn := slice_cls_none w
  have s2 := slice_cls (w.drew.alloc (.cells cs 36)) w.heap.size 0 n G 0 (Nat.zero_le _)
  have hG63 : G ≤ 9223372036854775807 := by unfold maxLen at hle; omega
  have hr2 := hr 23
  clear hcs hsz hG hle hr
  go_enter Try.func131, Try.ntmps131
  go_wp2_with (first
    | (show aD 22 _ _ _ _ _ _ _ _ _ _ _; refine wpList_append_run rfl (.tmp 20) (.tmp 21) 23 3 rfl _ _ _ _ rfl rfl hr2 ?_; try simp only [Act.put, pS1, pS2, pS3])
    | fail)
  go_ret
  exact ⟨_, rfl, HO.out, HB.out⟩
def sumN (N : Nat → Nat) : Nat → Nat
  | 0 => 0
  | k + 1 => sumN N k + N k
theorem sumN_le (N : Nat → Nat) : ∀ {j k : Nat}, j ≤ k → sumN N j ≤ sumN N k
  | j, 0, h => by obtain rfl : j = 0 := by omega
                  exact Nat.le_refl _
  | j, k + 1, h => by
    by_cases e : j = k + 1
    · rw [e]; exact Nat.le_refl _
    · have := sumN_le N (show j ≤ k by omega)
      show _ ≤ sumN N k + N k
      omega
structure CatA (w : World) (gs : Nat) (A : Nat → Option Addr) (N C : Nat → Nat) (L : Nat → List AdT) : Prop where
  cell : ∀ k, k < 3 → w.cell? ⟨gs, k, none⟩ = some (.slice (A k) (N k) (C k))
  rd : ∀ k, k < 3 → AReads w (A k) (N k) (C k) (L k)
  nil : ∀ k, k < 3 → A k = none → C k = 0
  lt : gs < w.heap.size
theorem CatA.keep {w w' : World} {gs : Nat} {A : Nat → Option Addr} {N C : Nat → Nat} {L : Nat → List AdT} (h : CatA w gs A N C L) (hb : Below w.heap.size w w') : CatA w' gs A N C L :=
  ⟨fun k hk => by rw [hb.cell h.lt]; exact h.cell k hk, fun k hk => (h.rd k hk).keep hb, h.nil, Nat.lt_of_lt_of_le h.lt hb.size⟩
def catC (L : Nat → List ClT) : Nat → List ClT
  | 0 => []
  | k + 1 => catC L k ++ L k
structure CatC (w : World) (gs : Nat) (A : Nat → Option Addr) (N C : Nat → Nat) (L : Nat → List ClT) : Prop where
  cell : ∀ k, k < 3 → w.cell? ⟨gs, k, none⟩ = some (.slice (A k) (N k) (C k))
  rd : ∀ k, k < 3 → CReads w (A k) (N k) (C k) (L k)
  nil : ∀ k, k < 3 → A k = none → C k = 0
  lt : gs < w.heap.size
theorem CatC.keep {w w' : World} {gs : Nat} {A : Nat → Option Addr} {N C : Nat → Nat} {L : Nat → List ClT} (h : CatC w gs A N C L) (hb : Below w.heap.size w w') : CatC w' gs A N C L :=
  ⟨fun k hk => by rw [hb.cell h.lt]; exact h.cell k hk, fun k hk => (h.rd k hk).keep hb, h.nil, Nat.lt_of_lt_of_le h.lt hb.size⟩
def CatOC (w : World) (N : Nat → Nat) (L : Nat → List ClT) (v i : Value) (wr : World) : Prop := ∃ k : Nat, k ≤ 3 ∧ i = .int .i64 k ∧ wr.ownsRow w.heap.size 36 36 v (sumN N k) (clcL (catC L k)) ∧ Below w.heap.size w wr
set_option maxHeartbeats 8000000 in
theorem concatC_any (gs : Nat) (A : Nat → Option Addr) (N C : Nat → Nat) (L : Nat → List ClT) (w : World) (h : CatC w gs A N C L) (hN : 0 < sumN N 3) (hM : sumN N 3 ≤ 900000) :
    Calls Try.prog 123 #[.slice (some ⟨gs, 0, none⟩) 3 3] w fun e w' => ∃ v, e = .returned v ∧ w'.ownsRow w.heap.size 36 36 v (sumN N 3) (clcL (catC L 3)) ∧ Below w.heap.size w w' := by
  have H := hidk h
  have GR := hidk (growC_any (sumN N 3) w hN (by omega))
  have hmono : ∀ k, k < 3 → sumN N (k + 1) ≤ sumN N 3 := fun k hk => sumN_le N (by omega)
  have HMO := hidk hmono
  clear h hmono
  go_enter Try.func123, Try.ntmps123
  go_wp2
  go_loop [3, 5, 11] (fun s _ i => ∃ k : Nat, k ≤ 3 ∧ i = .int .i64 k ∧ s = .int .i64 (sumN N k : Int)) (fun _ _ i => 3 - (intOf i).toNat)
  case atStart => exact ⟨0, by omega, rfl, rfl⟩
  case round =>
    obtain ⟨k, hk, rfl, rfl⟩ := hrel
    by_cases hlt : k < 3
    · have hd : decide ((k : Int) < 3) = true := by rw [decide_eq_true_eq]; omega
      have hw1 := wrap_int ((k : Int) + 1) (by omega) (by omega)
      have hc := H.out.cell k hlt
      have hs := HMO.out k hlt
      obtain ⟨q, hq⟩ : ∃ q, sumN N (k + 1) = q := ⟨_, rfl⟩
      obtain ⟨p, hp⟩ : ∃ p, sumN N k = p := ⟨_, rfl⟩
      obtain ⟨m, hm⟩ : ∃ m, N k = m := ⟨_, rfl⟩
      obtain ⟨ad, had⟩ : ∃ m, A k = m := ⟨_, rfl⟩
      obtain ⟨cc, hcc⟩ : ∃ m, C k = m := ⟨_, rfl⟩
      have hqp : q = p + m := by rw [← hq, ← hp, ← hm]; rfl
      rw [hq] at hs
      rw [hp]
      rw [hm, had, hcc] at hc
      have hw2 := wrap_int ((p : Int) + (m : Int)) (by omega) (by omega)
      have hn0 : decide ((p : Int) + (m : Int) < 0) = false := decide_eq_false (by omega)
      have HQ := hidk hq
      have HP := hidk hqp
      have hm0 : m ≤ 9223372036854775807 := by omega
      clear hm had hcc hp hq hqp hs
      go_wp2
      go_round
      case rel => exact ⟨k + 1, by omega, by go_num, by rw [HQ.out, HP.out]; simp⟩
      case measure => simp [intOf]; omega
    · obtain rfl : k = 3 := by omega
      have hd : decide (((3 : Nat) : Int) < 3) = false := by decide
      obtain ⟨q, hq⟩ : ∃ q, sumN N 3 = q := ⟨_, rfl⟩
      rw [hq] at GR hM
      have HQ := hidk hq
      rw [hq]
      clear hq hN
      go_wp2_with fail
      refine GR.out.mono ?_
      rintro e w1 ⟨v0, rfl, ho1, hb1⟩
      have HO1 := hidk ho1
      have HB1 := hidk hb1
      have H1 := hidk (H.out.keep hb1)
      clear ho1 hb1 GR
      go_wp2
      go_loopw [6, 8, 27] (fun v _ i wr => CatOC w N L v i wr) (fun _ _ i _ => 3 - (intOf i).toNat)
      case atStart => exact ⟨0, by omega, rfl, HO1.out, HB1.out⟩
      case round =>
        obtain ⟨k, hk, rfl, ho', hb'⟩ := hrel
        by_cases hlt : k < 3
        · have hd2 : decide ((k : Int) < 3) = true := by rw [decide_eq_true_eq]; omega
          have hw1 := wrap_int ((k : Int) + 1) (by omega) (by omega)
          have H2 := H.out.keep hb'
          have hc := H2.cell k hlt
          have hs : sumN N (k + 1) ≤ q := by rw [← HQ.out]; exact HMO.out k hlt
          have hs2 : sumN N (k + 1) = sumN N k + N k := rfl
          obtain ⟨v2, w2, hr2, ho2, hg2⟩ := run_append_cls (H2.rd k hlt) (H2.nil k hlt) w.heap.size (sumN N k) _ (catC L k) ho' hb'.size (by omega)
          have HB2 : Hid (Below w.heap.size w w2) := hb'.grown hg2 hb'.size (fun j e => (ho'.lt j e).1)
          have HO2 : Hid (w2.ownsRow w.heap.size 36 36 v2 (sumN N (k + 1)) (clcL (catC L (k + 1)))) := ho2
          obtain ⟨m, hm⟩ : ∃ m, N k = m := ⟨_, rfl⟩
          obtain ⟨ad, had⟩ : ∃ m, A k = m := ⟨_, rfl⟩
          obtain ⟨cc, hcc⟩ : ∃ m, C k = m := ⟨_, rfl⟩
          rw [hm, had, hcc] at hc hr2
          clear hm had hcc hs hs2 ho2 hg2 H2 ho' hb'
          go_wp2_with (first
            | (show aD 33 _ _ _ _ _ _ _ _ _ _ _; refine wpList_append_run rfl (.tmp 31) (.tmp 32) 23 23 rfl _ _ v2 w2 rfl rfl hr2 ?_; try simp only [Act.put, pS1, pS2, pS3])
            | fail)
          go_roundw
          case rel => exact ⟨k + 1, by omega, by go_num, HO2.out, HB2.out⟩
          case measure => simp [intOf]; omega
        · obtain rfl : k = 3 := by omega
          have hd2 : decide (((3 : Nat) : Int) < 3) = false := by decide
          have HO3 := hidk ho'
          have HB3 := hidk hb'
          clear ho' hb'
          go_wp2
          go_ret
          exact ⟨_, rfl, by rw [← HQ.out]; exact HO3.out, HB3.out⟩
theorem fill_rowsK (n : Nat) (ds : List (List Value)) : ∀ (k : Nat) (cs : Array Value) (pre old : List Value), cs.toList = pre ++ old → pre.length = k * n → (∀ d ∈ ds, d.length = n) → old.length = ds.length * n →
    Instr.fill (fun i => some (i * n, n)) cs ((ds.zipIdx k).map fun x => (x.2, Value.agg x.1.toArray)) = some (pre ++ ds.flatten).toArray := by
  induction ds with
  | nil =>
    intro k cs pre old h hp hd ho
    have : old = [] := List.eq_nil_of_length_eq_zero (by simpa using ho)
    subst this
    simp only [List.zipIdx_nil, List.map_nil, Instr.fill, List.flatten_nil, ← h]
  | cons d ds ih =>
    intro k cs pre old h hp hd ho
    have h32 := hd d (List.mem_cons_self ..)
    simp only [List.length_cons, Nat.succ_mul] at ho
    have hk1 : (k + 1) * n = k * n + n := Nat.succ_mul k n
    have hcs : cs.size = k * n + old.length := by rw [← Array.length_toList, h, List.length_append, hp]
    rw [List.zipIdx_cons, List.map_cons]
    unfold Instr.fill
    have hsz : (Value.agg d.toArray).cells.size = n := by show d.toArray.size = n; simp [h32]
    simp only [hsz]
    rw [if_neg (by simp; omega)]
    refine (ih (k + 1) _ (pre ++ d) (old.drop n) ?_ (by simp; omega) (fun x hx => hd x (List.mem_cons_of_mem _ hx)) (by simp; omega)).trans (by simp)
    have := fold_set d 0 (k * n) cs pre (old.take n) (old.drop n) (by rw [h, List.append_assoc, List.take_append_drop]) (by omega) (by simp; omega)
    rw [← this, ← Array.foldl_toList]
    congr 2
    simp [Value.cells]
theorem fill_one (cs X : Array Value) (n : Nat) (hc : cs.size = n) (hX : X.size = n) : Instr.fill (fun i => some (i * n, n)) cs (#[(0, Value.agg X)] : Array (Nat × Value)).toList = some X := by
  show Instr.fill (fun i => some (i * n, n)) cs [(0, Value.agg X)] = some X
  have := fill_rowsK n [X.toList] 0 cs [] cs.toList rfl (by simp) (fun d h => by rw [List.mem_singleton.1 h]; simpa using hX) (by simp [hc])
  simpa using this
theorem AReads.drop {w : World} {g o len cap : Nat} {l : List AdT} (h : AReads w (some ⟨g, o, none⟩) len cap l) (k : Nat) (hk : k ≤ len) : AReads w (some ⟨g, o + 2 * k, none⟩) (len - k) (cap - k) (l.drop k) := by
  have h1 := h.ln
  have h2 := h.cp
  have h3 := h.mx
  refine ⟨by rw [List.length_drop]; omega, by omega, by omega, fun x hx => h.ok x (List.mem_of_mem_drop hx), ?_⟩
  by_cases h0 : len - k = 0
  · exact .inl h0
  · refine .inr ⟨_, _, rfl, fun i hi => ?_⟩
    rw [List.length_drop] at hi
    rw [List.getElem_drop]
    have := h.range (k + i) (by omega)
    rwa [Nat.mul_add, ← Nat.add_assoc] at this
theorem buildOneC (w : World) (x : ClT) (X : Array Value) (HX : Hid (X = (ccells x).toArray)) (hx : OkC x) : (Instr.buildSlice 23 1 #[(0, .agg X)]).run Try.prog w = .ok (.slice (some ⟨w.heap.size, 0, none⟩) 1 1) (w.alloc (.cells X 36)) := by
  obtain ⟨i0, hi, hz0, hz1, hz2⟩ := info_parts infoClis
  refine run_buildSlice w 23 36 1 _ _ i0 _ Try.underlying23 hi hz0 (by rw [hz1]; omega) (by rw [hz1]; omega) ?_
  rw [hz1]
  generalize hcs : Array.map _ (Array.range (1 * 36)) = cs
  have hcz : cs.size = 36 := by rw [← hcs]; simp
  have hXs : X.size = 36 := by rw [HX.out]; simp [ccells_length _ hx]
  exact fill_one cs X 36 hcz hXs
theorem buildThreeC (w : World) (a1 a2 a3 : Option Addr) (n1 c1 n2 c2 n3 c3 : Nat) : (Instr.buildSlice 167 3 #[(0, .slice a1 n1 c1), (1, .slice a2 n2 c2), (2, .slice a3 n3 c3)]).run Try.prog w = .ok (.slice (some ⟨w.heap.size, 0, none⟩) 3 3) (w.alloc (.cells #[.slice a1 n1 c1, .slice a2 n2 c2, .slice a3 n3 c3] 23)) := by
  go_simp
theorem cutLoC {w : World} {a : Option Addr} {len cap : Nat} {l : List ClT} (h : CReads w a len cap l) (hc0 : a = none → cap = 0) (k : Nat) (hk : k ≤ len) : ∃ a1, (∀ W, (Instr.sliceAt 23 (.slice a len cap) none (some (.int .i64 k)) none).run Try.prog W = .ok (.slice a1 k cap) W) ∧ CReads w a1 k cap (l.take k) ∧ (a1 = none → cap = 0) := by
  by_cases h0 : len = 0
  · obtain rfl : k = 0 := by omega
    have e : l.take 0 = [] := rfl
    rw [e]
    have hr : ∀ a1, CReads w a1 0 cap [] := fun a1 => ⟨rfl, Nat.zero_le _, Nat.zero_le _, (fun x hx => by cases hx), .inl rfl⟩
    cases a with
    | none =>
      obtain rfl := hc0 rfl
      subst h0
      exact ⟨none, fun W => slice_cls_none W, hr _, fun _ => rfl⟩
    | some ad =>
      refine ⟨if cap = 0 then some ad else some (ad.add 0), fun W => ?_, hr _, fun e => by split at e <;> cases e⟩
      simp [Instr.sliceAt, Instr.slice, Instr.sliceBounds, Instr.sliceBound, asIntOf, run_underlying Try.underlying23, sizeOfClis]
  · obtain ⟨g, o, rfl, _⟩ := h.at (by omega)
    exact ⟨_, fun W => slice_cls W g o len cap k (by have := h.cp; omega), h.take k hk, fun e => by cases e⟩
theorem CReads.drop {w : World} {g o len cap : Nat} {l : List ClT} (h : CReads w (some ⟨g, o, none⟩) len cap l) (k : Nat) (hk : k ≤ len) : CReads w (some ⟨g, o + 36 * k, none⟩) (len - k) (cap - k) (l.drop k) := by
  have h1 := h.ln
  have h2 := h.cp
  have h3 := h.mx
  refine ⟨by rw [List.length_drop]; omega, by omega, by omega, fun x hx => h.ok x (List.mem_of_mem_drop hx), ?_⟩
  by_cases h0 : len - k = 0
  · exact .inl h0
  · refine .inr ⟨_, _, rfl, fun i hi => ?_⟩
    rw [List.length_drop] at hi
    rw [List.getElem_drop]
    have := h.range (k + i) (by omega)
    rwa [Nat.mul_add, ← Nat.add_assoc] at this
theorem cutHiC {w : World} {a : Option Addr} {len cap : Nat} {l : List ClT} (h : CReads w a len cap l) (hc0 : a = none → cap = 0) (k : Nat) (hk : k ≤ len) : ∃ a2 c2, (∀ W, (Instr.sliceAt 23 (.slice a len cap) (some (.int .i64 k)) none none).run Try.prog W = .ok (.slice a2 (len - k) c2) W) ∧ CReads w a2 (len - k) c2 (l.drop k) ∧ (a2 = none → c2 = 0) := by
  have h1 := h.ln
  have h2 := h.cp
  cases a with
  | none =>
    obtain rfl := hc0 rfl
    obtain rfl : len = 0 := by omega
    obtain rfl : k = 0 := by omega
    obtain rfl : l = [] := List.eq_nil_of_length_eq_zero h1
    refine ⟨none, 0, fun W => ?_, clreads_none w, fun _ => rfl⟩
    simp [Instr.sliceAt, Instr.slice, Instr.sliceBounds, Instr.sliceBound, asIntOf, run_underlying Try.underlying23, sizeOfClis]
  | some ad =>
    by_cases hkl : k = len
    · have hr : ∀ a1, CReads w a1 (len - k) (cap - k) (l.drop k) := fun a1 => ⟨by rw [List.length_drop]; omega, by omega, by omega, (fun x hx => h.ok x (List.mem_of_mem_drop hx)), .inl (by omega)⟩
      refine ⟨if cap = k then some ad else some (ad.add (k * 36)), cap - k, fun W => ?_, hr _, fun e => by split at e <;> cases e⟩
      simp [Instr.sliceAt, Instr.slice, Instr.sliceBounds, Instr.sliceBound, asIntOf, run_underlying Try.underlying23, sizeOfClis, hk]
    · obtain ⟨g, o, e, _⟩ := h.at (by omega)
      cases e
      refine ⟨_, cap - k, fun W => ?_, h.drop k hk, fun e => by cases e⟩
      simp [Instr.sliceAt, Instr.slice, Instr.sliceBounds, Instr.sliceBound, asIntOf, run_underlying Try.underlying23, sizeOfClis, hk]
      rw [if_neg (by omega), add_plain]
      simp [Nat.mul_comm]
theorem oneRdC (w : World) (x : ClT) (X : Array Value) (HX : Hid (X = (ccells x).toArray)) (hx : OkC x) : CReads (w.alloc (.cells X 36)) (some ⟨w.heap.size, 0, none⟩) 1 1 [x] := by
  refine ⟨rfl, Nat.le_refl _, by unfold maxLen; omega, (fun y hy => by rw [List.mem_singleton.1 hy]; exact hx), .inr ⟨_, _, rfl, fun i hi => ?_⟩⟩
  obtain rfl : i = 0 := by simp at hi; omega
  exact range_row (t := 36) (fr := (0, 0)) (by show _ = some (Obj.cells (ccells x).toArray _ _); rw [← HX.out]; exact heap_alloc_new w _)
theorem threeC (w w3 : World) (X : Array Value) (x : ClT) (HX : Hid (X = (ccells x).toArray)) (hx : OkC x) (a1 a2 : Option Addr) (k cap len m c2 : Nat) (l : List ClT)
    (h1 : CReads w a1 k cap (l.take k)) (h2 : CReads w a2 m c2 (l.drop k)) (h1n : a1 = none → cap = 0) (h2n : a2 = none → c2 = 0) (hb : Below w.heap.size w w3) (hk : k + m = len) (hlen : len ≤ 800000) :
    Calls Try.prog 123 #[.slice (some ⟨w3.heap.size + 1, 0, none⟩) 3 3] ((w3.alloc (.cells X 36)).alloc (.cells #[.slice a1 k cap, .slice (some ⟨w3.heap.size, 0, none⟩) 1 1, .slice a2 m c2] 23)).drew fun e w' => ∃ v, e = .returned v ∧ w'.ownsRow ((w3.alloc (.cells X 36)).alloc (.cells #[.slice a1 k cap, .slice (some ⟨w3.heap.size, 0, none⟩) 1 1, .slice a2 m c2] 23)).heap.size 36 36 v (len + 1) (clcL (l.take k ++ [x] ++ l.drop k)) ∧ Below ((w3.alloc (.cells X 36)).alloc (.cells #[.slice a1 k cap, .slice (some ⟨w3.heap.size, 0, none⟩) 1 1, .slice a2 m c2] 23)).heap.size ((w3.alloc (.cells X 36)).alloc (.cells #[.slice a1 k cap, .slice (some ⟨w3.heap.size, 0, none⟩) 1 1, .slice a2 m c2] 23)).drew w' := by
  obtain ⟨W4, hW4⟩ : ∃ W4, w3.alloc (.cells X 36) = W4 := ⟨_, rfl⟩
  have hb4 : Below w3.heap.size w3 W4 := by rw [← hW4]; exact (Below.refl _ _).alloc (Nat.le_refl _) _
  have r1 : CReads W4 (some ⟨w3.heap.size, 0, none⟩) 1 1 [x] := by rw [← hW4]; exact oneRdC w3 x X HX hx
  have hs4 : W4.heap.size = w3.heap.size + 1 := by rw [← hW4]; simp
  rw [hW4]
  obtain ⟨O, hO⟩ : ∃ O, (#[.slice a1 k cap, .slice (some ⟨w3.heap.size, 0, none⟩) 1 1, .slice a2 m c2] : Array Value) = O := ⟨_, rfl⟩
  rw [hO]
  have hb5 : Below W4.heap.size W4 (W4.alloc (.cells O 23)).drew := ((Below.refl _ _).alloc (Nat.le_refl _) _).drew
  have hb6 : Below w.heap.size w (W4.alloc (.cells O 23)).drew := (hb.trans (hb4.mono hb.size)).trans (hb5.mono (Nat.le_trans hb.size hb4.size))
  have hCat : CatC (W4.alloc (.cells O 23)).drew (w3.heap.size + 1) (fun j => if j = 0 then a1 else if j = 1 then some ⟨w3.heap.size, 0, none⟩ else a2) (fun j => if j = 0 then k else if j = 1 then 1 else m) (fun j => if j = 0 then cap else if j = 1 then 1 else c2) (fun j => if j = 0 then l.take k else if j = 1 then [x] else l.drop k) := by
    have hbx := heap_alloc_new W4 (.cells O 23)
    rw [hs4] at hbx
    refine ⟨fun j hj => ?_, fun j hj => ?_, fun j hj => ?_, ?_⟩
    · show (W4.alloc (.cells O 23)).cell? _ = _
      rw [cell_of_row _ _ j _ _ (0, 0) hbx, ← hO]
      obtain rfl | rfl | rfl : j = 0 ∨ j = 1 ∨ j = 2 := by omega
      · rfl
      · rfl
      · rfl
    · obtain rfl | rfl | rfl : j = 0 ∨ j = 1 ∨ j = 2 := by omega
      · exact h1.keep hb6
      · exact r1.keep hb5
      · exact h2.keep hb6
    · obtain rfl | rfl | rfl : j = 0 ∨ j = 1 ∨ j = 2 := by omega
      · exact h1n
      · exact fun e => by cases e
      · exact h2n
    · show _ < (W4.alloc (.cells O 23)).heap.size
      simp
      omega
  have hsum : sumN (fun j => if j = 0 then k else if j = 1 then 1 else m) 3 = len + 1 := by
    show 0 + k + 1 + m = len + 1
    omega
  refine (concatC_any _ _ _ _ _ _ hCat (by rw [hsum]; omega) (by rw [hsum]; omega)).mono ?_
  rintro e w' ⟨v, rfl, ho, hb7⟩
  rw [hsum] at ho
  exact ⟨v, rfl, ho, hb7⟩
theorem aheadC_ord (x y : ClT) : decide (0 < orI (cmpI y.r x.r) (cmpI y.e x.e)) = aheadC x y := by
  unfold aheadC orI cmpI
  rw [Bool.eq_iff_iff, decide_eq_true_eq, decide_eq_true_eq]
  by_cases h1 : y.r < x.r
  · rw [if_pos h1]; simp; omega
  · by_cases h2 : x.r < y.r
    · rw [if_neg h1, if_pos h2]; simp; omega
    · rw [if_neg h1, if_neg h2]
      by_cases h3 : y.e < x.e
      · rw [if_pos h3]; simp; omega
      · by_cases h4 : x.e < y.e
        · rw [if_neg h3, if_pos h4]; simp; omega
        · rw [if_neg h3, if_neg h4]; simp; omega
theorem insC_at (x : ClT) : ∀ (l : List ClT) (k : Nat), k ≤ l.length → (∀ y ∈ l.take k, aheadC x y = false) → (∀ h : k < l.length, aheadC x l[k] = true) → insC x l = l.take k ++ [x] ++ l.drop k
  | [], k, hk, _, _ => by simp [insC]
  | y :: t, 0, _, _, h => by
    have := h (by simp)
    simp only [List.getElem_cons_zero] at this
    simp [insC, this]
  | y :: t, k + 1, hk, h0, h => by
    have hy := h0 y (by simp)
    have ih := insC_at x t k (by simpa using hk) (fun z hz => h0 z (by simp [hz])) (fun hh => h (by simpa using hh))
    simp [insC, hy, ih]
set_option maxHeartbeats 2000000 in
theorem wclC_any (y x : ClT) (Y X : Array Value) (HY : Hid (Y = (ccells y).toArray)) (HX : Hid (X = (ccells x).toArray)) (hy : OkC y) (hx : OkC x) (p1 p2 : Nat) (w : World) (h1 : w.cell? ⟨p1, 0, none⟩ = some (.func (.func 97) #[] #[])) (h2 : w.rangeAt p2 0 X.toList) :
    Calls Try.prog 122 #[.agg Y, .pointer (some ⟨p1, 0, none⟩), .pointer (some ⟨p2, 0, none⟩)] w fun e w' => e = .returned (.bool (aheadC x y)) ∧ Below w.heap.size w w' := by
  have hb0 : Below w.heap.size w (w.alloc (.cells Y 36)) := (Below.refl _ _).alloc (Nat.le_refl _) _
  have HB0 := hidk hb0
  have c1 : (w.alloc (.cells Y 36)).cell? ⟨p1, 0, none⟩ = some (.func (.func 97) #[] #[]) := by rw [hb0.cell (World.block_lt_of_cell? _ _ h1)]; exact h1
  have HRY : Hid ((w.alloc (.cells Y 36)).rangeAt w.heap.size 0 Y.toList) := range_row (t := 36) (fr := (0, 0)) (by rw [Array.toArray_toList]; exact heap_alloc_new w _)
  have HRX : Hid ((w.alloc (.cells Y 36)).rangeAt p2 0 X.toList) := range_keep hb0 h2
  have HSX : Hid ((Try.prog.info? 36).map (·.size) = some X.size) := by show _ = _; rw [sizeC, HX.out]; simp [ccells_length _ hx]
  have HSY : Hid ((Try.prog.info? 36).map (·.size) = some Y.size) := by show _ = _; rw [sizeC, HY.out]; simp [ccells_length _ hy]
  have OR := hidk (ordC_any y x Y X HY HX (w.alloc (.cells Y 36)))
  obtain ⟨b, hb⟩ : ∃ b, aheadC x y = b := ⟨_, rfl⟩
  have hd := aheadC_ord x y
  rw [hb] at hd ⊢
  obtain ⟨q, hq⟩ : ∃ q, orI (cmpI y.r x.r) (cmpI y.e x.e) = q := ⟨_, rfl⟩
  rw [hq] at hd OR
  clear hq hb hb0 h1 h2 HX HY
  go_enter Try.func122, Try.ntmps122
  go_wp2_with (first
    | (show aD 6 _ _ _ _ _ _ _ _ _ _ _; refine wpList_mid_w (by rfl) 36 (.tmp 3) rfl w.heap.size 0 rfl Y _ HRY.out Try.underlying36 rfl HSY.out ?_; try simp only [Act.put, pS1, pS2, pS3])
    | (show aD 7 _ _ _ _ _ _ _ _ _ _ _; refine wpList_mid_w (by rfl) 36 (.tmp 2) rfl p2 0 rfl X _ HRX.out Try.underlying36 rfl HSX.out ?_; try simp only [Act.put, pS1, pS2, pS3])
    | (go_at_call 97; refine OR.out.mono ?_; rintro e w1 ⟨rfl, hb1⟩)
    | fail)
  go_ret
  exact ⟨rfl, HB0.out.trans (hb1.mono (by simp))⟩
def addW_C (l : List ClT) (x : ClT) (b : Bool) : List ClT := if b = true then l else insC x l
set_option maxHeartbeats 16000000 in
theorem withC_any (ad : Option Addr) (len cap : Nat) (l : List ClT) (x : ClT) (X : Array Value) (HX : Hid (X = (ccells x).toArray)) (hx : OkC x) (w : World) (h : CReads w ad len cap l) (hc0 : ad = none → cap = 0) (hlen : len ≤ 800000) (b : Bool) (hb : b = true ↔ x ∈ l) :
    Calls Try.prog 104 #[.slice ad len cap, .agg X, .func (.func 97) #[] #[]] w fun e w' => ∃ v, e = .returned v ∧ w'.ownsRow w.heap.size 36 36 v (addW_C l x b).length (clcL (addW_C l x b)) ∧ Below w.heap.size w w' := by
  have HL := hidk h.ln
  have H := hidk h
  have hS : ∃ W0, W0 = (w.alloc (.cells X 36)).alloc (.cells #[.func (.func 97) #[] #[]] 118) ∧ Below w.heap.size w W0 ∧ W0.heap.size = w.heap.size + 2 ∧ W0.rangeAt w.heap.size 0 X.toList ∧ W0.cell? ⟨w.heap.size + 1, 0, none⟩ = some (.func (.func 97) #[] #[]) := by
    refine ⟨_, rfl, ((Below.refl _ _).alloc (Nat.le_refl _) _).alloc (by simp) _, by simp, ?_, ?_⟩
    · refine range_row (t := 36) (fr := (0, 0)) ?_
      rw [Array.toArray_toList, heap_alloc_old _ _ (by simp)]
      exact heap_alloc_new w _
    · have e2 := heap_alloc_new (w.alloc (.cells X 36)) (.cells #[.func (.func 97) #[] #[]] 118)
      rw [World.size_alloc] at e2
      rw [cell_of_row _ _ 0 _ _ (0, 0) e2]
      rfl
  obtain ⟨W0, hW0, hb0, hs0, hx0, hf0⟩ := hS
  have HSX : Hid ((Try.prog.info? 36).map (·.size) = some X.size) := by show _ = _; rw [sizeC, HX.out]; simp [ccells_length _ hx]
  have HLN := hidk hlen
  have CO := hidk (hasC_any ad len cap l x X HX hx W0 (h.keep hb0) (by omega) b hb)
  have HHB := hidk hb
  have HC0 := hidk hc0
  have hmx : len ≤ 9223372036854775807 := by omega
  have HB0 := hidk hb0
  have HX0 := hidk hx0
  have HF0 := hidk hf0
  have HS0 := hidk hs0
  have HW0 := hidk hW0
  clear hb0 hs0 hx0 hf0 h hb hc0 hW0
  go_enter Try.func104, Try.ntmps104
  go_wp2_with (first
    | (show aD 9 _ _ _ _ _ _ _ _ _ _ _; rw [← HW0.out]; refine wpList_mid_w (by rfl) 36 (.tmp 4) rfl w.heap.size 0 rfl X _ HX0.out Try.underlying36 rfl HSX.out ?_; try simp only [Act.put, pS1, pS2, pS3])
    | fail)
  clear HW0
  refine CO.out.mono ?_
  rintro e w1 ⟨rfl, hb1⟩
  have HB1 := hidk (HB0.out.trans (hb1.mono (by have := HS0.out; omega)))
  have HX1 := hidk (range_keep hb1 HX0.out)
  have HF1 : Hid (w1.cell? ⟨w.heap.size + 1, 0, none⟩ = some (.func (.func 97) #[] #[])) := by show _ = _; rw [hb1.cell (World.block_lt_of_cell? _ _ HF0.out)]; exact HF0.out
  have HS1 : Hid (w.heap.size + 2 ≤ w1.heap.size) := by show _ ≤ _; have := HS0.out; have := hb1.size; omega
  clear CO hb1 HX0 HF0 HB0 HS0
  cases b
  · have HNI : Hid (x ∉ l) := fun hh => by have := HHB.out.2 hh; cases this
    have IX := hidk (ixfC_any ad len cap l (fun y => aheadC x y) ⟨w.heap.size + 1, 0, none⟩ ⟨w.heap.size, 0, none⟩ w1 (H.out.keep HB1.out) (by omega)
      (fun W y Y hW hy HY => wclC_any y x Y X HY HX hy hx (w.heap.size + 1) w.heap.size W (by rw [hW.cell (World.block_lt_of_cell? _ _ HF1.out)]; exact HF1.out) (range_keep hW HX1.out)))
    go_wp2_with fail
    refine IX.out.mono ?_
    rintro e w3 ⟨rfl, hb3⟩
    have HB3 := hidk (HB1.out.trans (hb3.mono HB1.out.size))
    have HX3 := hidk (range_keep hb3 HX1.out)
    have HS3 : Hid (w.heap.size + 2 ≤ w3.heap.size) := Nat.le_trans HS1.out hb3.size
    clear IX hb3 HX1 HF1 HB1 HS1
    by_cases hp : posI (fun y => aheadC x y) l < 0
    · obtain ⟨hp1, hp2⟩ := posI_neg hp
      have HINS : Hid (addW_C l x false = l.take len ++ [x] ++ l.drop len) := insC_at x l len (by have := HL.out; omega) (fun y hy => hp2 y (List.mem_of_mem_take hy)) (fun hh => by have := HL.out; omega)
      have HLEN : Hid ((l.take len ++ [x] ++ l.drop len).length = len + 1) := by show _ = _; have := HL.out; simp; omega
      obtain ⟨a1, hr1, h1, h1n'⟩ := cutLoC H.out HC0.out len (Nat.le_refl _)
      obtain ⟨a2, c2, hr2, h2, h2n'⟩ := cutHiC H.out HC0.out len (Nat.le_refl _)
      obtain ⟨m, hm⟩ : ∃ m, len - len = m := ⟨_, rfl⟩
      rw [hm] at hr2 h2
      have HR1 := hidk hr1
      have HR2 := hidk hr2
      have H1 := hidk h1
      have H2 := hidk h2
      have h1n := hidk h1n'
      have h2n := hidk h2n'
      have HK : Hid (len + m = len) := by show _ = _; omega
      rw [hp1]
      clear hr1 hr2 h1 h2 h1n' h2n' hp hp1 hp2 hm
      go_wp2
      refine wp_region_held_drew (S := (fun W => W.rangeAt w.heap.size 0 X.toList ∧ Below w.heap.size w W ∧ w.heap.size ≤ W.heap.size)) (by kernel_rfl) ⟨HX3.out, HB3.out.drew, HB3.out.size⟩ (fun hHeld => ?_)
      refine zW 0 (.slice ad len cap) rfl (Or.inl ⟨by rfl, by intro w hSw; go_simp⟩) hHeld ?_
      try simp only [Act.put, pS1, pS2, pS3]
      refine zW 1 (.int .i64 len) rfl (Or.inl ⟨by rfl, by intro w hSw; go_simp⟩) hHeld ?_
      try simp only [Act.put, pS1, pS2, pS3]
      refine zW 2 (.slice a1 len cap) rfl (Or.inl ⟨by rfl, by intro W hSw; have := HR1.out W; go_simp⟩) hHeld ?_
      try simp only [Act.put, pS1, pS2, pS3]
      refine zW 3 (.agg X) rfl (yieldsIf_mid (by rfl) 36 (.tmp 4) rfl w.heap.size 0 rfl X _ (fun _ h => h.1) Try.underlying36 rfl HSX.out) hHeld ?_
      try simp only [Act.put, pS1, pS2, pS3]
      refine zW 5 (.slice ad len cap) rfl (Or.inl ⟨by rfl, by intro w hSw; go_simp⟩) hHeld ?_
      try simp only [Act.put, pS1, pS2, pS3]
      refine zW 6 (.int .i64 len) rfl (Or.inl ⟨by rfl, by intro w hSw; go_simp⟩) hHeld ?_
      try simp only [Act.put, pS1, pS2, pS3]
      refine zW 7 (.slice a2 m c2) rfl (Or.inl ⟨by rfl, by intro W hSw; have := HR2.out W; go_simp⟩) hHeld ?_
      try simp only [Act.put, pS1, pS2, pS3]
      refine wpAnyH_ready (rs := [4]) (by kernel_rfl) (by simp) ?_
      refine AllReadyH.cons (o := { dst := some 24, op := .buildSlice 23 1 #[(0, .tmp 23)], type := 23, pos := "claims.go:90", after := #[zD 3], guard := none }) rfl (fun K hK => ?_) AllReadyH.nil
      refine step_build_run (by rfl) 23 1 _ rfl #[(0, .agg X)] rfl _ _ (buildOneC _ x X HX hx) ?_
      refine hK.out _ _ ⟨range_keep ((Below.refl _ _).alloc (Nat.le_refl _) _) hHeld.1, hHeld.2.1.alloc hHeld.2.2 _, by rw [World.size_alloc]; exact Nat.le_succ_of_le hHeld.2.2⟩ (fun hHeld => ?_)
      clear hK K
      try simp only [Act.put, pS1, pS2, pS3]
      refine wpAnyH_ready (rs := [8]) (by kernel_rfl) (by simp) ?_
      refine AllReadyH.cons (o := { dst := some 28, op := .buildSlice 167 3 #[(0, .tmp 22), (1, .tmp 24), (2, .tmp 27)], type := 167, pos := "claims.go:90", after := #[zD 2, zD 4, zD 7], guard := none }) rfl (fun K hK => ?_) AllReadyH.nil
      refine step_build_run (by rfl) 167 3 _ rfl #[(0, .slice a1 len cap), (1, .slice (some ⟨w3.heap.size, 0, none⟩) 1 1), (2, .slice a2 m c2)] rfl _ _ (buildThreeC _ _ _ _ _ _ _ _ _ _) ?_
      refine hK.out _ _ ⟨range_keep ((Below.refl _ _).alloc (Nat.le_refl _) _) hHeld.1, hHeld.2.1.alloc hHeld.2.2 _, by rw [World.size_alloc]; exact Nat.le_succ_of_le hHeld.2.2⟩ (fun hHeld => ?_)
      clear hK K
      try simp only [Act.put, pS1, pS2, pS3]
      refine wpAnyH_ready (rs := [9]) (by kernel_rfl) (by simp) ?_
      refine AllReadyH.cons (o := { dst := some 29, op := .call { callee := .value (.func 123), args := #[.tmp 28], argTypes := #[167] }, type := 23, pos := "claims.go:90", after := #[zD 8], guard := none }) rfl (fun K hK => ?_) AllReadyH.nil
      go_simp
      refine (threeC w w3 X x HX hx a1 a2 len cap len m c2 l H1.out H2.out h1n.out h2n.out HB3.out HK.out (by have := HLN.out; omega)).mono ?_
      rintro e w9 ⟨v9, rfl, ho9, hb9⟩
      go_wp2_with fail
      refine hK.out _ _ ⟨range_keep hb9 hHeld.1, hHeld.2.1.trans (hb9.mono hHeld.2.2), Nat.le_trans hHeld.2.2 hb9.size⟩ (fun hHeld => ?_)
      clear hK K
      try simp only [Act.put, pS1, pS2, pS3]
      refine zW 10 (v9) rfl (Or.inl ⟨by rfl, by intro w hSw; go_simp⟩) hHeld ?_
      try simp only [Act.put, pS1, pS2, pS3]
      refine wpAnyH_done (by kernel_rfl) ?_ _
      have HO9 := hidk ho9
      have HBB := hidk hHeld
      clear ho9 hb9
      go_wp2
      go_ret
      exact ⟨v9, rfl, by rw [HINS.out, HLEN.out]; exact own_lower HO9.out (by have := HB3.out.size; simp; omega), HBB.out.2.1⟩
    · obtain ⟨k, hk, hp1, hp2, hp3⟩ := posI_at (show 0 ≤ posI (fun y => aheadC x y) l by omega)
      have HINS : Hid (addW_C l x false = l.take k ++ [x] ++ l.drop k) := insC_at x l k (by omega) (fun y hy => by
        obtain ⟨j, hj, rfl⟩ := List.mem_take_iff_getElem.1 hy
        exact hp3 j (by omega)) (fun hh => hp2)
      have HLEN : Hid ((l.take k ++ [x] ++ l.drop k).length = len + 1) := by show _ = _; have := HL.out; simp; omega
      have hkl : k ≤ len := by have := HL.out; omega
      obtain ⟨m, hm⟩ : ∃ m, len - k = m := ⟨_, rfl⟩
      have HK : Hid (k + m = len) := by show _ = _; omega
      have hk0 : decide ((k : Int) < 0) = false := decide_eq_false (by omega)
      obtain ⟨a1, hr1, h1, h1n'⟩ := cutLoC H.out HC0.out k hkl
      obtain ⟨a2, c2, hr2, h2, h2n'⟩ := cutHiC H.out HC0.out k hkl
      rw [hm] at hr2 h2
      have HR1 := hidk hr1
      have HR2 := hidk hr2
      have H1 := hidk h1
      have H2 := hidk h2
      have h1n := hidk h1n'
      have h2n := hidk h2n'
      rw [hp1]
      clear hr1 hr2 h1 h2 h1n' h2n' hp hp1 hp2 hp3 hk hm hkl
      go_wp2
      refine wp_region_held_drew (S := (fun W => W.rangeAt w.heap.size 0 X.toList ∧ Below w.heap.size w W ∧ w.heap.size ≤ W.heap.size)) (by kernel_rfl) ⟨HX3.out, HB3.out.drew, HB3.out.size⟩ (fun hHeld => ?_)
      refine zW 0 (.slice ad len cap) rfl (Or.inl ⟨by rfl, by intro w hSw; go_simp⟩) hHeld ?_
      try simp only [Act.put, pS1, pS2, pS3]
      refine zW 1 (.int .i64 k) rfl (Or.inl ⟨by rfl, by intro w hSw; go_simp⟩) hHeld ?_
      try simp only [Act.put, pS1, pS2, pS3]
      refine zW 2 (.slice a1 k cap) rfl (Or.inl ⟨by rfl, by intro W hSw; have := HR1.out W; go_simp⟩) hHeld ?_
      try simp only [Act.put, pS1, pS2, pS3]
      refine zW 3 (.agg X) rfl (yieldsIf_mid (by rfl) 36 (.tmp 4) rfl w.heap.size 0 rfl X _ (fun _ h => h.1) Try.underlying36 rfl HSX.out) hHeld ?_
      try simp only [Act.put, pS1, pS2, pS3]
      refine zW 5 (.slice ad len cap) rfl (Or.inl ⟨by rfl, by intro w hSw; go_simp⟩) hHeld ?_
      try simp only [Act.put, pS1, pS2, pS3]
      refine zW 6 (.int .i64 k) rfl (Or.inl ⟨by rfl, by intro w hSw; go_simp⟩) hHeld ?_
      try simp only [Act.put, pS1, pS2, pS3]
      refine zW 7 (.slice a2 m c2) rfl (Or.inl ⟨by rfl, by intro W hSw; have := HR2.out W; go_simp⟩) hHeld ?_
      try simp only [Act.put, pS1, pS2, pS3]
      refine wpAnyH_ready (rs := [4]) (by kernel_rfl) (by simp) ?_
      refine AllReadyH.cons (o := { dst := some 24, op := .buildSlice 23 1 #[(0, .tmp 23)], type := 23, pos := "claims.go:90", after := #[zD 3], guard := none }) rfl (fun K hK => ?_) AllReadyH.nil
      refine step_build_run (by rfl) 23 1 _ rfl #[(0, .agg X)] rfl _ _ (buildOneC _ x X HX hx) ?_
      refine hK.out _ _ ⟨range_keep ((Below.refl _ _).alloc (Nat.le_refl _) _) hHeld.1, hHeld.2.1.alloc hHeld.2.2 _, by rw [World.size_alloc]; exact Nat.le_succ_of_le hHeld.2.2⟩ (fun hHeld => ?_)
      clear hK K
      try simp only [Act.put, pS1, pS2, pS3]
      refine wpAnyH_ready (rs := [8]) (by kernel_rfl) (by simp) ?_
      refine AllReadyH.cons (o := { dst := some 28, op := .buildSlice 167 3 #[(0, .tmp 22), (1, .tmp 24), (2, .tmp 27)], type := 167, pos := "claims.go:90", after := #[zD 2, zD 4, zD 7], guard := none }) rfl (fun K hK => ?_) AllReadyH.nil
      refine step_build_run (by rfl) 167 3 _ rfl #[(0, .slice a1 k cap), (1, .slice (some ⟨w3.heap.size, 0, none⟩) 1 1), (2, .slice a2 m c2)] rfl _ _ (buildThreeC _ _ _ _ _ _ _ _ _ _) ?_
      refine hK.out _ _ ⟨range_keep ((Below.refl _ _).alloc (Nat.le_refl _) _) hHeld.1, hHeld.2.1.alloc hHeld.2.2 _, by rw [World.size_alloc]; exact Nat.le_succ_of_le hHeld.2.2⟩ (fun hHeld => ?_)
      clear hK K
      try simp only [Act.put, pS1, pS2, pS3]
      refine wpAnyH_ready (rs := [9]) (by kernel_rfl) (by simp) ?_
      refine AllReadyH.cons (o := { dst := some 29, op := .call { callee := .value (.func 123), args := #[.tmp 28], argTypes := #[167] }, type := 23, pos := "claims.go:90", after := #[zD 8], guard := none }) rfl (fun K hK => ?_) AllReadyH.nil
      go_simp
      refine (threeC w w3 X x HX hx a1 a2 k cap len m c2 l H1.out H2.out h1n.out h2n.out HB3.out HK.out (by have := HLN.out; omega)).mono ?_
      rintro e w9 ⟨v9, rfl, ho9, hb9⟩
      go_wp2_with fail
      refine hK.out _ _ ⟨range_keep hb9 hHeld.1, hHeld.2.1.trans (hb9.mono hHeld.2.2), Nat.le_trans hHeld.2.2 hb9.size⟩ (fun hHeld => ?_)
      clear hK K
      try simp only [Act.put, pS1, pS2, pS3]
      refine zW 10 (v9) rfl (Or.inl ⟨by rfl, by intro w hSw; go_simp⟩) hHeld ?_
      try simp only [Act.put, pS1, pS2, pS3]
      refine wpAnyH_done (by kernel_rfl) ?_ _
      have HO9 := hidk ho9
      have HBB := hidk hHeld
      clear ho9 hb9
      go_wp2
      go_ret
      exact ⟨v9, rfl, by rw [HINS.out, HLEN.out]; exact own_lower HO9.out (by have := HB3.out.size; simp; omega), HBB.out.2.1⟩
  · have hin : x ∈ l := HHB.out.1 rfl
    have h0 : 0 < len := by have := List.length_pos_of_mem hin; have := HL.out; omega
    obtain ⟨g, o, rfl, _⟩ := H.out.at h0
    have CL := hidk (cloneC_any g o len cap l w1 (H.out.keep HB1.out) (by omega))
    have HA : Hid (addW_C l x true = l) := rfl
    clear hin h0
    go_wp2_with fail
    refine CL.out.mono ?_
    rintro e w3 ⟨v, rfl, ho3, hb3⟩
    have HO3 := hidk ho3
    have HB3 := hidk (HB1.out.trans (hb3.mono HB1.out.size))
    clear ho3 hb3 CL
    go_wp2
    go_ret
    exact ⟨v, rfl, by rw [HA.out, HL.out]; exact own_lower HO3.out HB1.out.size, HB3.out⟩
def ckE (c : ClT) : Int := if rightC c = true then 0 else 60
theorem kWithin_any (n a b : Int) (w : World) : Calls Try.prog 85 #[.int .i64 n, .int .i64 a, .int .i64 b] w fun e w' => e = .returned (.bool (decide (a ≤ n) && decide (n ≤ b))) ∧ w' = w := by
  by_cases h1 : a ≤ n
  · have d1 : decide (a ≤ n) = true := by rw [decide_eq_true_eq]; exact h1
    obtain ⟨x, hx⟩ : ∃ x, decide (n ≤ b) = x := ⟨_, rfl⟩
    rw [d1, hx]
    clear h1
    go_enter Try.func85, Try.ntmps85
    go_wp2
    go_ret
    exact ⟨rfl, rfl⟩
  · have d1 : decide (a ≤ n) = false := by rw [decide_eq_false_iff_not]; exact h1
    rw [d1]
    clear h1
    go_enter Try.func85, Try.ntmps85
    go_wp2
    go_ret
    exact ⟨rfl, rfl⟩
set_option maxHeartbeats 2000000 in
theorem kCheckC_any (c : ClT) (w : World) (C : Array Value) (HC : Hid (C = (ccells c).toArray)) :
    Calls Try.prog 61 #[.agg C] w fun e w' => e = .returned (.int .i64 (ckE c)) ∧ Below w.heap.size w w' := by
  have HR := crow_new w c C HC 36
  have HB : Hid (Below w.heap.size w (w.alloc (.cells C 36))) := (Below.refl _ _).alloc (Nat.le_refl _) _
  have hnot : ∀ (x : Bool) (w : World), (Op.unary .not (.bool x)).run Try.prog w = .ok (.bool (!x)) w := fun _ _ => rfl
  have c0 := HR.r
  have c1 := HR.e
  have c2 := HR.n
  have c3 := HR.s
  simp only [Nat.zero_add] at c1 c2 c3
  have WI : Hid (∀ (n a b : Int) (W : World), Calls Try.prog 85 #[.int .i64 n, .int .i64 a, .int .i64 b] W fun e w' => e = .returned (.bool (decide (a ≤ n) && decide (n ≤ b))) ∧ w' = W) := kWithin_any
  obtain ⟨b1, hb1⟩ : ∃ b, (decide (1 ≤ c.r) && decide (c.r ≤ 5)) = b := ⟨_, rfl⟩
  obtain ⟨b2, hb2⟩ : ∃ b, (decide (1 ≤ c.e) && decide (c.e ≤ 900000000)) = b := ⟨_, rfl⟩
  obtain ⟨b3, hb3⟩ : ∃ b, (decide (1 ≤ c.n) && decide (c.n ≤ 3)) = b := ⟨_, rfl⟩
  obtain ⟨b4, hb4⟩ : ∃ b, (decide (0 ≤ c.s) && decide (c.s ≤ 100000)) = b := ⟨_, rfl⟩
  have W1 := hidk (WI.out c.r 1 5)
  have W2 := hidk (WI.out c.e 1 900000000)
  have W3 := hidk (WI.out c.n 1 3)
  have W4 := hidk (WI.out c.s 0 100000)
  rw [hb1] at W1
  rw [hb2] at W2
  rw [hb3] at W3
  rw [hb4] at W4
  have hE : ckE c = if (b1 && (b2 && (b3 && b4))) = true then 0 else 60 := by
    rw [← hb1, ← hb2, ← hb3, ← hb4]
    unfold ckE rightC
    simp only [Bool.and_assoc]
  rw [hE]
  obtain ⟨r, hr⟩ : ∃ r, r = c.r := ⟨_, rfl⟩
  obtain ⟨e, he⟩ : ∃ r, r = c.e := ⟨_, rfl⟩
  obtain ⟨n, hn⟩ : ∃ r, r = c.n := ⟨_, rfl⟩
  obtain ⟨s, hs⟩ : ∃ r, r = c.s := ⟨_, rfl⟩
  rw [← hr] at c0 W1
  rw [← he] at c1 W2
  rw [← hn] at c2 W3
  rw [← hs] at c3 W4
  clear hE hb1 hb2 hb3 hb4 WI HR hr he hn hs HC
  cases b1
  · go_enter Try.func61, Try.ntmps61
    go_wp2_with fail
    refine (W1.out _).mono ?_
    rintro e w1 ⟨rfl, rfl⟩
    go_wp2
    go_ret
    exact ⟨rfl, HB.out⟩
  cases b2
  · go_enter Try.func61, Try.ntmps61
    go_wp2_with fail
    refine (W1.out _).mono ?_
    rintro e w1 ⟨rfl, rfl⟩
    go_wp2_with fail
    refine (W2.out _).mono ?_
    rintro e w1 ⟨rfl, rfl⟩
    go_wp2
    go_ret
    exact ⟨rfl, HB.out⟩
  cases b3
  · go_enter Try.func61, Try.ntmps61
    go_wp2_with fail
    refine (W1.out _).mono ?_
    rintro e w1 ⟨rfl, rfl⟩
    go_wp2_with fail
    refine (W2.out _).mono ?_
    rintro e w1 ⟨rfl, rfl⟩
    go_wp2_with fail
    refine (W3.out _).mono ?_
    rintro e w1 ⟨rfl, rfl⟩
    go_wp2
    go_ret
    exact ⟨rfl, HB.out⟩
  cases b4
  · go_enter Try.func61, Try.ntmps61
    go_wp2_with fail
    refine (W1.out _).mono ?_
    rintro e w1 ⟨rfl, rfl⟩
    go_wp2_with fail
    refine (W2.out _).mono ?_
    rintro e w1 ⟨rfl, rfl⟩
    go_wp2_with fail
    refine (W3.out _).mono ?_
    rintro e w1 ⟨rfl, rfl⟩
    go_wp2_with fail
    refine (W4.out _).mono ?_
    rintro e w1 ⟨rfl, rfl⟩
    go_wp2
    go_ret
    exact ⟨rfl, HB.out⟩
  · go_enter Try.func61, Try.ntmps61
    go_wp2_with fail
    refine (W1.out _).mono ?_
    rintro e w1 ⟨rfl, rfl⟩
    go_wp2_with fail
    refine (W2.out _).mono ?_
    rintro e w1 ⟨rfl, rfl⟩
    go_wp2_with fail
    refine (W3.out _).mono ?_
    rintro e w1 ⟨rfl, rfl⟩
    go_wp2_with fail
    refine (W4.out _).mono ?_
    rintro e w1 ⟨rfl, rfl⟩
    go_wp2
    go_ret
    exact ⟨rfl, HB.out⟩
theorem orderC_any (w : World) : Calls Try.prog 83 #[] w fun e w' => e = .returned (.func (.func 97) #[] #[]) ∧ w = w' := by
  go_enter Try.func83, Try.ntmps83
  go_wp2
  go_ret
  exact ⟨rfl, rfl⟩
theorem isC_ord (y : ClT) (r e : Int) : (orI (cmpI y.r r) (cmpI y.e e) == 0) = isC y r e := by
  rw [Bool.eq_iff_iff, isC_iff, beq_iff_eq]
  unfold orI cmpI
  by_cases h1 : y.r < r
  · rw [if_pos h1]; simp; omega
  · by_cases h2 : r < y.r
    · rw [if_neg h1, if_pos h2]; simp; omega
    · rw [if_neg h1, if_neg h2]
      by_cases h3 : y.e < e
      · rw [if_pos h3]; simp; omega
      · by_cases h4 : e < y.e
        · rw [if_neg h3, if_pos h4]; simp; omega
        · rw [if_neg h3, if_neg h4]; simp; omega
def wantC (r e : Int) : ClT := ⟨r, e, 0, 0, List.replicate 32 0⟩
theorem builtW (r e : Int) : Try.prog.built 36 [(0, .int .i64 r), (1, .int .i64 e)] = some (ccells (wantC r e)).toArray := by kernel_rfl
set_option maxHeartbeats 2000000 in
theorem fcl_any (y : ClT) (r e : Int) (Y X : Array Value) (HY : Hid (Y = (ccells y).toArray)) (HX : Hid (X = (ccells (wantC r e)).toArray)) (hy : OkC y) (p1 p2 : Nat) (w : World) (h1 : w.cell? ⟨p1, 0, none⟩ = some (.func (.func 97) #[] #[])) (h2 : w.rangeAt p2 0 X.toList) :
    Calls Try.prog 120 #[.agg Y, .pointer (some ⟨p1, 0, none⟩), .pointer (some ⟨p2, 0, none⟩)] w fun x w' => x = .returned (.bool (isC y r e)) ∧ Below w.heap.size w w' := by
  have hb0 : Below w.heap.size w (w.alloc (.cells Y 36)) := (Below.refl _ _).alloc (Nat.le_refl _) _
  have HB0 := hidk hb0
  have c1 : (w.alloc (.cells Y 36)).cell? ⟨p1, 0, none⟩ = some (.func (.func 97) #[] #[]) := by rw [hb0.cell (World.block_lt_of_cell? _ _ h1)]; exact h1
  have HRY : Hid ((w.alloc (.cells Y 36)).rangeAt w.heap.size 0 Y.toList) := range_row (t := 36) (fr := (0, 0)) (by rw [Array.toArray_toList]; exact heap_alloc_new w _)
  have HRX : Hid ((w.alloc (.cells Y 36)).rangeAt p2 0 X.toList) := range_keep hb0 h2
  have HSX : Hid ((Try.prog.info? 36).map (·.size) = some X.size) := by show _ = _; rw [sizeC, HX.out]; simp [ccells_length _ (show (wantC r e).d.length = 32 from rfl)]
  have HSY : Hid ((Try.prog.info? 36).map (·.size) = some Y.size) := by show _ = _; rw [sizeC, HY.out]; simp [ccells_length _ hy]
  have OR := hidk (ordC_any y (wantC r e) Y X HY HX (w.alloc (.cells Y 36)))
  obtain ⟨b, hb⟩ : ∃ b, isC y r e = b := ⟨_, rfl⟩
  have hd : (orI (cmpI y.r (wantC r e).r) (cmpI y.e (wantC r e).e) == 0) = isC y r e := isC_ord y r e
  rw [hb] at hd ⊢
  obtain ⟨q, hq⟩ : ∃ q, orI (cmpI y.r (wantC r e).r) (cmpI y.e (wantC r e).e) = q := ⟨_, rfl⟩
  rw [hq] at hd OR
  clear hq hb hb0 h1 h2 HX HY
  go_enter Try.func120, Try.ntmps120
  go_wp2_with (first
    | (show aD 6 _ _ _ _ _ _ _ _ _ _ _; refine wpList_mid_w (by rfl) 36 (.tmp 3) rfl w.heap.size 0 rfl Y _ HRY.out Try.underlying36 rfl HSY.out ?_; try simp only [Act.put, pS1, pS2, pS3])
    | (show aD 7 _ _ _ _ _ _ _ _ _ _ _; refine wpList_mid_w (by rfl) 36 (.tmp 2) rfl p2 0 rfl X _ HRX.out Try.underlying36 rfl HSX.out ?_; try simp only [Act.put, pS1, pS2, pS3])
    | (go_at_call 97; refine OR.out.mono ?_; rintro x w1 ⟨rfl, hb1⟩)
    | fail)
  go_ret
  exact ⟨rfl, HB0.out.trans (hb1.mono (by simp))⟩
attribute [local go_sem] store_func
theorem wpList_build_someC {P : Program} {ops : Array Oper} {rest : List Oper} {o : Oper} {a : Act} {w : World} {Q : Exit → Act → World → Prop} (hg : o.guard = none) (t : TypeId) (parts : Array (Nat × Operand)) (ho : o.op = .build t parts) (vals : List (Nat × Value)) (hv : (parts.toList.map fun p => (p.1, a.eval p.2)) = vals)
    (cs : Array Value) (hb : P.built t vals = some cs) (h : wpList P ops Q rest (a.put o.dst (.agg cs)) w) : wpList P ops Q (o :: rest) a w := by
  refine wpList_build_row hg t parts ho cs ?_ h
  rw [← hb, ← hv, Array.toList_map]
theorem foundC_ok {l : List ClT} (h : ∀ x ∈ l, OkC x) (r e : Int) : OkC (foundC l r e) := by
  unfold foundC
  cases hf : findC l r e with
  | none => rfl
  | some x => exact h x (findC_some hf).1
set_option maxHeartbeats 8000000 in
theorem kFind_any (ad : Option Addr) (len cap : Nat) (l : List ClT) (r e : Int) (w : World) (h : CReads w ad len cap l) (hlen : len ≤ 800000) (R : Array Value) (HR : Hid (R = (ccells (foundC l r e)).toArray)) :
    Calls Try.prog 103 #[.slice ad len cap, .int .i64 r, .int .i64 e] w fun x w' => x = .returned (.tuple #[.agg R, .bool (findC l r e).isSome]) ∧ Below w.heap.size w w' := by
  have H := hidk h
  have HL := hidk h.ln
  have hmx : len ≤ 9223372036854775807 := by omega
  have HLN := hidk hlen
  obtain ⟨Z, HZ, HA, HBZ, H36⟩ := noughtsC
  obtain ⟨X, HX⟩ : ∃ X, Hid (X = (ccells (wantC r e)).toArray) := ⟨_, hidk rfl⟩
  have HBX : Hid (Try.prog.built 36 [(0, .int .i64 r), (1, .int .i64 e)] = some X) := by show _ = _; rw [HX.out]; exact builtW r e
  have HSX : Hid ((Try.prog.info? 36).map (·.size) = some X.size) := by show _ = _; rw [sizeC, HX.out]; rfl
  have HZX : Hid (Z.size = X.size) := by show _ = _; rw [H36.out, HX.out]; rfl
  have H1X : Hid (X.all (·.oneCell') = true) := by show _ = _; rw [HX.out]; exact one_cellsC _
  have HSR : Hid ((Try.prog.info? 36).map (·.size) = some R.size) := by show _ = _; rw [sizeC, HR.out]; simp [ccells_length _ (foundC_ok h.ok r e)]
  have HZR : Hid (Z.size = R.size) := by show _ = _; rw [H36.out, HR.out]; simp [ccells_length _ (foundC_ok h.ok r e)]
  have H1R : Hid (R.all (·.oneCell') = true) := by show _ = _; rw [HR.out]; exact one_cellsC _
  clear h hlen
  go_enter Try.func103, Try.ntmps103
  go_wp2_with (first
    | (show aD 6 _ _ _ _ _ _ _ _ _ _ _; refine wpList_new_var rfl 36 rfl Z HA.out ?_; intro g6 w1 HM6; try simp only [Act.put, pS1, pS2, pS3])
    | fail)
  refine (orderC_any _).mono ?_
  rintro x w2 ⟨rfl, rfl⟩
  go_wp2_with (first
    | (show aD 14 _ _ _ _ _ _ _ _ _ _ _; refine wpList_build_someC rfl 36 _ rfl [(0, .int .i64 r), (1, .int .i64 e)] rfl X HBX.out ?_; try simp only [Act.put, pS1, pS2, pS3])
    | (show aD 9 _ _ _ _ _ _ _ _ _ _ _; refine wpList_new_var rfl 36 rfl Z HA.out ?_; intro g9 w3 HM9; have HG9 := hidk HM9.out.row; try simp only [Act.put, pS1, pS2, pS3])
    | (show wpList _ _ _ ({ dst := none, op := Op.store 36 _ _, type := _, pos := _, after := _, guard := _ } :: _) _ _; refine wpList_set_var rfl 36 (.tmp 9) (.tmp 14) rfl g9 X rfl rfl 36 Z HG9.out HSX.out HZX.out H1X.out ?_; intro w4 HW9; try simp only [Act.put, pS1, pS2, pS3])
    | fail)
  have hz1 : w.heap.size < w1.heap.size := by have := HM6.out.new; have h2 := HM6.out.row; have := heap_lt h2; omega
  have HB1 := HM6.out.below
  have hf1 : (w1.alloc (.cells #[.func (.func 97) #[] #[]] 118)).cell? ⟨w1.heap.size, 0, none⟩ = some (.func (.func 97) #[] #[]) := by
    rw [cell_of_row _ _ 0 _ _ (0, 0) (heap_alloc_new w1 _)]; rfl
  have hb2 : Below w1.heap.size w1 (w1.alloc (.cells #[.func (.func 97) #[] #[]] 118)) := (Below.refl _ _).alloc (Nat.le_refl _) _
  have hs2 : (w1.alloc (.cells #[.func (.func 97) #[] #[]] 118)).heap.size = w1.heap.size + 1 := by simp
  have hg9 : g9 = w1.heap.size + 1 := by rw [HM9.out.new, hs2]
  have hb3 := HM9.out.below
  have hb4 : Below (w1.alloc (.cells #[.func (.func 97) #[] #[]] 118)).heap.size (w1.alloc (.cells #[.func (.func 97) #[] #[]] 118)) w4 := HW9.out.below _ _ hb3 (by omega)
  have hf4 : w4.cell? ⟨w1.heap.size, 0, none⟩ = some (.func (.func 97) #[] #[]) := by rw [hb4.cell (show w1.heap.size < _ by omega)]; exact hf1
  have hx4 : w4.rangeAt g9 0 X.toList := range_row (t := 36) (fr := (0, 0)) (by rw [Array.toArray_toList]; exact HW9.out.row)
  have hbw : Below w.heap.size w w4 := (HB1.trans (hb2.mono (by omega))).trans (hb4.mono (by omega))
  have h64 : w4.heap[g6]? = some (.cells Z 36 (0, 0)) := by
    have l6 := heap_lt HM6.out.row
    rw [hb4.block _ (by omega), hb2.block _ l6]
    exact HM6.out.row
  have IX := hidk (ixfF_any ad len cap l (fun y => isC y r e) ⟨w1.heap.size, 0, none⟩ ⟨g9, 0, none⟩ w4 (H.out.keep hbw) (by have := HLN.out; omega)
    (fun W y Y hW hy HY => fcl_any y r e Y X HY HX hy w1.heap.size g9 W (by rw [hW.cell (World.block_lt_of_cell? _ _ hf4)]; exact hf4) (range_keep hW hx4)))
  have H64 := hidk h64
  have HBW := hidk hbw
  have h6n : Hid (w.heap.size ≤ g6) := by show _ ≤ _; rw [HM6.out.new]; exact Nat.le_refl _
  clear hz1 HB1 hf1 hb2 hs2 hg9 hb3 hb4 hf4 hx4 hbw h64
  refine IX.out.mono ?_
  rintro x w5 ⟨rfl, hb5⟩
  have H65 : Hid (w5.heap[g6]? = some (.cells Z 36 (0, 0))) := by show _ = _; rw [hb5.block _ (heap_lt H64.out)]; exact H64.out
  have HB5 := hidk (HBW.out.trans (hb5.mono HBW.out.size))
  clear IX hb5 H64 HBW HM6 HM9 HW9 HG9
  by_cases hp : posI (fun y => isC y r e) l < 0
  · obtain ⟨hp1, hp2⟩ := posI_neg hp
    have HE : Hid (findC l r e = none) := findC_no hp2
    have hRZ : R = Z := by rw [HR.out, HZ.out]; unfold foundC; rw [HE.out]; rfl
    subst hRZ
    rw [hp1]
    clear hp hp1 hp2 HR HZ
    go_wp2_with (first
      | (show aD 20 _ _ _ _ _ _ _ _ _ _ _; refine wpList_build_none rfl 36 rfl R HBZ.out ?_; try simp only [Act.put, pS1, pS2, pS3])
      | (refine wpList_set_var rfl 36 (.tmp 6) (.tmp 20) rfl g6 R rfl rfl 36 R H65.out HSR.out rfl H1R.out ?_; intro w6 HW; try simp only [Act.put, pS1, pS2, pS3])
      | fail)
    refine bodyPost_ret (v := .tuple #[.agg R, .bool false]) ?_ rfl ⟨by rw [HE.out]; rfl, HW.out.below w.heap.size w HB5.out h6n.out⟩
    exact results_row_tmp (p := 6) (q := 7) (ty := 36) rfl _ _ g6 36 R (0, 0) _ rfl HW.out.row Try.underlying36 rfl HSR.out
  · obtain ⟨k, hk, hp1, hp2, hp3⟩ := posI_at (show 0 ≤ posI (fun y => isC y r e) l by omega)
    have hlt : k < len := by have := HL.out; omega
    obtain ⟨g, o, rfl, hg⟩ := H.out.at (by omega)
    have HY : Hid (findC l r e = some l[k]) := findC_yes k hk (fun y hy => by
      obtain ⟨j, hj, rfl⟩ := List.mem_take_iff_getElem.1 hy
      exact hp3 j (by omega)) hp2
    have HRx : Hid (R = (ccells l[k]).toArray) := by show _ = _; rw [HR.out]; unfold foundC; rw [HY.out]; rfl
    have HRR : Hid (w5.rangeAt g (o + 36 * k) R.toList) := by show World.rangeAt _ _ _ _; rw [HRx.out]; exact (H.out.keep HB5.out).range k hk
    have ix := fun W => index_cl W g o len cap k .i64 hlt
    have hk0 : decide ((k : Int) < 0) = false := decide_eq_false (by omega)
    have HI : Hid ((findC l r e).isSome = true) := by show _ = _; rw [HY.out]; rfl
    rw [hp1]
    clear hp hp1 hp2 hp3 HRx HR HY
    go_wp2_with (first
      | (show aD 24 _ _ _ _ _ _ _ _ _ _ _; refine wpList_mid_w (by rfl) 36 (.tmp 23) rfl g (o + 36 * k) rfl R _ HRR.out Try.underlying36 rfl HSR.out ?_; try simp only [Act.put, pS1, pS2, pS3])
      | (refine wpList_set_var rfl 36 (.tmp 6) (.tmp 24) rfl g6 R rfl rfl 36 Z H65.out HSR.out HZR.out H1R.out ?_; intro w6 HW; try simp only [Act.put, pS1, pS2, pS3])
      | fail)
    refine bodyPost_ret (v := .tuple #[.agg R, .bool true]) ?_ rfl ⟨by rw [HI.out], HW.out.below w.heap.size w HB5.out h6n.out⟩
    exact results_row_tmp (p := 6) (q := 7) (ty := 36) rfl _ _ g6 36 R (0, 0) _ rfl HW.out.row Try.underlying36 rfl HSR.out
end Go.Proofs.Ytjpmmbmhkpgjcaa
/- The program's Check of claims. -/
namespace Go.Proofs.Ytjpmmbmhkpgjcaa
open Go.RowKit Nums Sums
set_option linter.unusedVariables false
set_option linter.unusedSimpArgs false
set_option maxRecDepth 100000
theorem keep2G {W W' : World} {g h o q : Nat} {X Y : List Value} (hb : Below W.heap.size W W') (k : W.rangeAt g o X ∧ W.rangeAt h q Y) : W'.rangeAt g o X ∧ W'.rangeAt h q Y :=
  ⟨range_keep hb k.1, range_keep hb k.2⟩
theorem ahead_ord (x y : ClT) : decide (0 ≤ orI (cmpI y.r x.r) (cmpI y.e x.e)) = !aheadC y x := by
  unfold aheadC orI cmpI
  rw [Bool.eq_iff_iff, decide_eq_true_eq, Bool.not_eq_true', decide_eq_false_iff_not]
  by_cases h1 : y.r < x.r
  · rw [if_pos h1]; simp; omega
  · by_cases h2 : x.r < y.r
    · rw [if_neg h1, if_pos h2]; simp; omega
    · rw [if_neg h1, if_neg h2]
      by_cases h3 : y.e < x.e
      · rw [if_pos h3]; simp; omega
      · by_cases h4 : x.e < y.e
        · rw [if_neg h3, if_pos h4]; simp; omega
        · rw [if_neg h3, if_neg h4]; simp; omega
def chkCl (l : List ClT) : Int := if rightCs l = true then 0 else 110
set_option maxHeartbeats 16000000 in
theorem kCheck_any (ad : Option Addr) (len cap : Nat) (l : List ClT) (w : World) (h : CReads w ad len cap l) (hlen : len ≤ 1000000) :
    Calls Try.prog 56 #[.slice ad len cap] w fun e w' => e = .returned (.int .i64 (chkCl l)) ∧ Below w.heap.size w w' := by
  have H := hidk h
  have HL := hidk h.ln
  have hmx : len ≤ 9223372036854775807 := by omega
  obtain ⟨Z, HZ, HA, HBZ, H36⟩ := noughtsC
  clear h
  go_enter Try.func56, Try.ntmps56
  go_wp2_with fail
  refine (orderC_any _).mono ?_
  rintro e w1 ⟨rfl, rfl⟩
  go_wp2
  go_loopw [4, 5, 9] (fun _ _ v wr => ∃ k : Nat, k ≤ len ∧ v = .int .i64 k ∧ Hid (Below w.heap.size w wr) ∧ Hid (rightCK l k = true)) (fun _ _ v _ => len - (intOf v).toNat)
  case atStart => exact ⟨0, by omega, rfl, Below.refl _ _, hidk rfl⟩
  case round =>
    obtain ⟨k, hk, rfl, HB, HN⟩ := hrel
    by_cases hlt : k < len
    · have hd : decide ((k : Int) < (len : Int)) = true := by rw [decide_eq_true_eq]; omega
      have hw1 := wrap_int ((k : Int) + 1) (by omega) (by omega)
      obtain ⟨g, o, rfl, hg⟩ := H.out.at (by omega)
      have hkl : k < l.length := by have := HL.out; omega
      obtain ⟨j, HJ, hj2⟩ : ∃ j, Hid (j = k - 1) ∧ j < len := ⟨_, hidk rfl, by omega⟩
      have hjl : j < l.length := by have := HL.out; omega
      obtain ⟨X, HX⟩ : ∃ X, Hid (X = (ccells l[k]).toArray) := ⟨_, hidk rfl⟩
      obtain ⟨Y, HY⟩ : ∃ X, Hid (X = (ccells l[j]).toArray) := ⟨_, hidk rfl⟩
      have hox := H.out.ok _ (List.getElem_mem hkl)
      have hoy := H.out.ok _ (List.getElem_mem hjl)
      have HSX : Hid ((Try.prog.info? 36).map (·.size) = some X.size) := by show _ = _; rw [sizeC, HX.out]; simp [ccells_length _ hox]
      have HSY : Hid ((Try.prog.info? 36).map (·.size) = some Y.size) := by show _ = _; rw [sizeC, HY.out]; simp [ccells_length _ hoy]
      have HZX : Hid (Z.size = X.size) := by show _ = _; rw [H36.out, HX.out]; simp [ccells_length _ hox]
      have H1X : Hid (X.all (·.oneCell') = true) := by show _ = _; rw [HX.out]; exact one_cellsC _
      have HRX : Hid (wr.rangeAt g (o + 36 * k) X.toList) := by show World.rangeAt _ _ _ _; rw [HX.out]; exact (H.out.keep HB.out).range k hkl
      have HRY : Hid (∀ W, Below w.heap.size w W → W.rangeAt g (o + 36 * j) Y.toList) := fun W hW => by rw [HY.out]; exact (H.out.keep hW).range j hjl
      obtain ⟨ri, hri⟩ : ∃ b, rightC l[k] = b := ⟨_, rfl⟩
      obtain ⟨ah, hah⟩ : ∃ b, aheadC l[j] l[k] = b := ⟨_, rfl⟩
      have CK : Hid (∀ W, Calls Try.prog 61 #[.agg X] W fun e w' => e = .returned (.int .i64 (if ri = true then 0 else 60)) ∧ Below W.heap.size W w') := fun W => by rw [← hri]; exact kCheckC_any l[k] W X HX
      obtain ⟨q, hq⟩ : ∃ q, orI (cmpI l[j].r l[k].r) (cmpI l[j].e l[k].e) = q := ⟨_, rfl⟩
      have OR : Hid (∀ W, Calls Try.prog 97 #[.agg Y, .agg X] W fun e w' => e = .returned (.int .i64 q) ∧ Below W.heap.size W w') := fun W => by rw [← hq]; exact ordC_any l[j] l[k] Y X HY HX W
      have hqd : decide (0 ≤ q) = !ah := by rw [← hq, ← hah]; exact ahead_ord l[k] l[j]
      have ix1 := fun W => index_cl W g o len cap k .i64 hlt
      have ix2 := fun W => index_cl W g o len cap j .i64 hj2
      have HF : Hid ((k = 0 → okC l k = ri) ∧ (0 < k → okC l k = (ri && ah))) := by
        refine ⟨fun h0 => ?_, fun h0 => ?_⟩
        · subst h0; rw [okC_zero hkl, hri]
        · obtain ⟨i, rfl⟩ : ∃ i, k = i + 1 := ⟨k - 1, by omega⟩
          obtain rfl : j = i := by have := HJ.out; omega
          rw [okC_succ hkl, hri, hah]
      have HNO : Hid (okC l k = false → chkCl l = 110) := fun hh => by unfold chkCl; rw [rightCs_no hkl hh]; rfl
      have HYE : Hid (okC l k = true → rightCK l (k + 1) = true) := fun hh => by rw [rightCK_succ, HN.out, hh]; rfl
      clear hri hah hq HX HY HN hkl hjl hox hoy
      go_wp2_with (first
        | (show aD 13 _ _ _ _ _ _ _ _ _ _ _; refine wpList_mid_w (by rfl) 36 (.tmp 12) rfl g (o + 36 * k) rfl X _ HRX.out Try.underlying36 rfl HSX.out ?_; try simp only [Act.put, pS1, pS2, pS3])
        | (show aD 5 _ _ _ _ _ _ _ _ _ _ _; refine wpList_new_var rfl 36 rfl Z HA.out ?_; intro g5 w2 HM; have HG := hidk HM.out.row; try simp only [Act.put, pS1, pS2, pS3])
        | (refine wpList_set_var rfl 36 (.tmp 5) (.tmp 13) rfl g5 X rfl rfl 36 Z HG.out HSX.out HZX.out H1X.out ?_; intro w3 HW; try simp only [Act.put, pS1, pS2, pS3])
        | fail)
      have HB3 : Hid (Below w.heap.size w w3) := HW.out.below _ _ (HB.out.trans (HM.out.below.mono HB.out.size)) (by rw [HM.out.new]; exact HB.out.size)
      have HS5 : Hid (w3.drew.rangeAt g5 0 X.toList ∧ w3.drew.rangeAt g (o + 36 * j) Y.toList) := ⟨range_row (t := 36) (fr := (0, 0)) (by rw [Array.toArray_toList]; exact HW.out.row), HRY.out _ HB3.out.drew⟩
      clear HM HG HW HRX HRY HB
      cases ri
      · have hko : okC l k = false := by
          by_cases h0 : k = 0
          · exact HF.out.1 h0
          · rw [HF.out.2 (by omega)]; rfl
        clear HF
        refine wp_region_held_drew (S := (fun W => W.rangeAt g5 0 X.toList ∧ W.rangeAt g (o + 36 * j) Y.toList)) (by kernel_rfl) HS5.out (fun hHeld => ?_)
        refine zW 0 (.agg X) rfl (yieldsIf_mid (by rfl) 36 (.tmp 5) rfl g5 0 rfl X _ (fun _ h => h.1) Try.underlying36 rfl HSX.out) hHeld ?_
        try simp only [Act.put, pS1, pS2, pS3]
        refine wpAnyH_ready (rs := [1]) (by kernel_rfl) (by simp) ?_
        refine AllReadyH.cons (o := { dst := some 15, op := .call { callee := .value (.func 61), args := #[.tmp 14], argTypes := #[36] }, type := 44, pos := "claims.go:19", after := #[zD 0], guard := none }) rfl (fun K hK => ?_) AllReadyH.nil
        go_simp
        refine (CK.out _).mono ?_
        rintro e w1 ⟨rfl, hb1⟩
        go_wp2_with fail
        refine hK.out _ _ (keep2G hb1 hHeld) (fun hHeld => ?_)
        clear hK K
        try simp only [Act.put, pS1, pS2, pS3]
        refine zW 2 (.bool true) rfl (Or.inl ⟨by rfl, by intro w hSw; go_simp⟩) hHeld ?_
        try simp only [Act.put, pS1, pS2, pS3]
        refine zW 3 (.bool true) rfl (Or.inl ⟨by rfl, by intro w hSw; go_simp⟩) hHeld ?_
        try simp only [Act.put, pS1, pS2, pS3]
        refine zW 4 (undef) rfl (Or.inr ⟨by rfl, rfl⟩) hHeld ?_
        try simp only [Act.put, pS1, pS2, pS3]
        refine zW 5 (undef) rfl (Or.inr ⟨by rfl, rfl⟩) hHeld ?_
        try simp only [Act.put, pS1, pS2, pS3]
        refine zW 6 (undef) rfl (Or.inr ⟨by rfl, rfl⟩) hHeld ?_
        try simp only [Act.put, pS1, pS2, pS3]
        refine zW 7 (undef) rfl (Or.inr ⟨by rfl, rfl⟩) hHeld ?_
        try simp only [Act.put, pS1, pS2, pS3]
        refine zW 8 (undef) rfl (Or.inr ⟨by rfl, rfl⟩) hHeld ?_
        try simp only [Act.put, pS1, pS2, pS3]
        refine zW 9 (undef) rfl (Or.inr ⟨by rfl, rfl⟩) hHeld ?_
        try simp only [Act.put, pS1, pS2, pS3]
        refine zW 10 (undef) rfl (Or.inr ⟨by rfl, rfl⟩) hHeld ?_
        try simp only [Act.put, pS1, pS2, pS3]
        refine zW 11 (undef) rfl (Or.inr ⟨by rfl, rfl⟩) hHeld ?_
        try simp only [Act.put, pS1, pS2, pS3]
        refine zW 12 (undef) rfl (Or.inr ⟨by rfl, rfl⟩) hHeld ?_
        try simp only [Act.put, pS1, pS2, pS3]
        refine zW 13 (undef) rfl (Or.inr ⟨by rfl, rfl⟩) hHeld ?_
        try simp only [Act.put, pS1, pS2, pS3]
        refine zW 14 (undef) rfl (Or.inr ⟨by rfl, rfl⟩) hHeld ?_
        try simp only [Act.put, pS1, pS2, pS3]
        refine zW 15 (undef) rfl (Or.inr ⟨by rfl, rfl⟩) hHeld ?_
        try simp only [Act.put, pS1, pS2, pS3]
        refine zW 16 (undef) rfl (Or.inr ⟨by rfl, rfl⟩) hHeld ?_
        try simp only [Act.put, pS1, pS2, pS3]
        refine zW 17 (.bool true) rfl (Or.inl ⟨by rfl, by intro w hSw; go_simp⟩) hHeld ?_
        try simp only [Act.put, pS1, pS2, pS3]
        refine wpAnyH_done (by kernel_rfl) ?_ _
        go_wp2
        go_ret
        exact ⟨by rw [HNO.out hko]; rfl, HB3.out.trans ((Below.trans (Below.refl _ _).drew hb1).mono HB3.out.size)⟩
      · by_cases h0 : k = 0
        · have h0' : decide ((0 : Int) < (k : Int)) = false := by rw [decide_eq_false_iff_not]; omega
          have hko : okC l k = true := HF.out.1 h0
          clear HF
          refine wp_region_held_drew (S := (fun W => W.rangeAt g5 0 X.toList ∧ W.rangeAt g (o + 36 * j) Y.toList)) (by kernel_rfl) HS5.out (fun hHeld => ?_)
          refine zW 0 (.agg X) rfl (yieldsIf_mid (by rfl) 36 (.tmp 5) rfl g5 0 rfl X _ (fun _ h => h.1) Try.underlying36 rfl HSX.out) hHeld ?_
          try simp only [Act.put, pS1, pS2, pS3]
          refine wpAnyH_ready (rs := [1]) (by kernel_rfl) (by simp) ?_
          refine AllReadyH.cons (o := { dst := some 15, op := .call { callee := .value (.func 61), args := #[.tmp 14], argTypes := #[36] }, type := 44, pos := "claims.go:19", after := #[zD 0], guard := none }) rfl (fun K hK => ?_) AllReadyH.nil
          go_simp
          refine (CK.out _).mono ?_
          rintro e w1 ⟨rfl, hb1⟩
          go_wp2_with fail
          refine hK.out _ _ (keep2G hb1 hHeld) (fun hHeld => ?_)
          clear hK K
          try simp only [Act.put, pS1, pS2, pS3]
          refine zW 2 (.bool false) rfl (Or.inl ⟨by rfl, by intro w hSw; go_simp⟩) hHeld ?_
          try simp only [Act.put, pS1, pS2, pS3]
          refine zW 3 (.bool false) rfl (Or.inl ⟨by rfl, by intro w hSw; go_simp⟩) hHeld ?_
          try simp only [Act.put, pS1, pS2, pS3]
          refine zW 4 (.int .i64 k) rfl (Or.inl ⟨by rfl, by intro w hSw; go_simp⟩) hHeld ?_
          try simp only [Act.put, pS1, pS2, pS3]
          refine zW 5 (.bool false) rfl (Or.inl ⟨by rfl, by intro w hSw; go_simp⟩) hHeld ?_
          try simp only [Act.put, pS1, pS2, pS3]
          refine zW 6 (.bool false) rfl (Or.inl ⟨by rfl, by intro w hSw; go_simp⟩) hHeld ?_
          try simp only [Act.put, pS1, pS2, pS3]
          refine zW 7 (undef) rfl (Or.inr ⟨by rfl, rfl⟩) hHeld ?_
          try simp only [Act.put, pS1, pS2, pS3]
          refine zW 8 (undef) rfl (Or.inr ⟨by rfl, rfl⟩) hHeld ?_
          try simp only [Act.put, pS1, pS2, pS3]
          refine zW 9 (undef) rfl (Or.inr ⟨by rfl, rfl⟩) hHeld ?_
          try simp only [Act.put, pS1, pS2, pS3]
          refine zW 10 (undef) rfl (Or.inr ⟨by rfl, rfl⟩) hHeld ?_
          try simp only [Act.put, pS1, pS2, pS3]
          refine zW 11 (undef) rfl (Or.inr ⟨by rfl, rfl⟩) hHeld ?_
          try simp only [Act.put, pS1, pS2, pS3]
          refine zW 12 (undef) rfl (Or.inr ⟨by rfl, rfl⟩) hHeld ?_
          try simp only [Act.put, pS1, pS2, pS3]
          refine zW 13 (undef) rfl (Or.inr ⟨by rfl, rfl⟩) hHeld ?_
          try simp only [Act.put, pS1, pS2, pS3]
          refine zW 14 (undef) rfl (Or.inr ⟨by rfl, rfl⟩) hHeld ?_
          try simp only [Act.put, pS1, pS2, pS3]
          refine zW 15 (undef) rfl (Or.inr ⟨by rfl, rfl⟩) hHeld ?_
          try simp only [Act.put, pS1, pS2, pS3]
          refine zW 16 (.bool false) rfl (Or.inl ⟨by rfl, by intro w hSw; go_simp⟩) hHeld ?_
          try simp only [Act.put, pS1, pS2, pS3]
          refine zW 17 (.bool false) rfl (Or.inl ⟨by rfl, by intro w hSw; go_simp⟩) hHeld ?_
          try simp only [Act.put, pS1, pS2, pS3]
          refine wpAnyH_done (by kernel_rfl) ?_ _
          go_wp2
          go_roundw
          case rel => exact ⟨k + 1, by omega, by go_num, HB3.out.trans ((Below.trans (Below.refl _ _).drew hb1).mono HB3.out.size), HYE.out hko⟩
          case measure => simp [intOf]; omega
        · have h0' : decide ((0 : Int) < (k : Int)) = true := by rw [decide_eq_true_eq]; omega
          have hsub : IntKind.i64.wrap ((k : Int) - 1) = (j : Int) := by rw [wrap_int _ (by omega) (by omega)]; have := HJ.out; omega
          have h0n : 0 < k := by omega
          have hko := HF.out.2 (by omega)
          clear HF
          cases ah
          · replace hqd : decide (0 ≤ q) = true := hqd
            refine wp_region_held_drew (S := (fun W => W.rangeAt g5 0 X.toList ∧ W.rangeAt g (o + 36 * j) Y.toList)) (by kernel_rfl) HS5.out (fun hHeld => ?_)
            refine zW 0 (.agg X) rfl (yieldsIf_mid (by rfl) 36 (.tmp 5) rfl g5 0 rfl X _ (fun _ h => h.1) Try.underlying36 rfl HSX.out) hHeld ?_
            try simp only [Act.put, pS1, pS2, pS3]
            refine wpAnyH_ready (rs := [1]) (by kernel_rfl) (by simp) ?_
            refine AllReadyH.cons (o := { dst := some 15, op := .call { callee := .value (.func 61), args := #[.tmp 14], argTypes := #[36] }, type := 44, pos := "claims.go:19", after := #[zD 0], guard := none }) rfl (fun K hK => ?_) AllReadyH.nil
            go_simp
            refine (CK.out _).mono ?_
            rintro e w1 ⟨rfl, hb1⟩
            go_wp2_with fail
            refine hK.out _ _ (keep2G hb1 hHeld) (fun hHeld => ?_)
            clear hK K
            try simp only [Act.put, pS1, pS2, pS3]
            refine zW 2 (.bool false) rfl (Or.inl ⟨by rfl, by intro w hSw; go_simp⟩) hHeld ?_
            try simp only [Act.put, pS1, pS2, pS3]
            refine zW 3 (.bool false) rfl (Or.inl ⟨by rfl, by intro w hSw; go_simp⟩) hHeld ?_
            try simp only [Act.put, pS1, pS2, pS3]
            refine zW 4 (.int .i64 k) rfl (Or.inl ⟨by rfl, by intro w hSw; go_simp⟩) hHeld ?_
            try simp only [Act.put, pS1, pS2, pS3]
            refine zW 5 (.bool true) rfl (Or.inl ⟨by rfl, by intro w hSw; go_simp⟩) hHeld ?_
            try simp only [Act.put, pS1, pS2, pS3]
            refine zW 6 (.bool true) rfl (Or.inl ⟨by rfl, by intro w hSw; go_simp⟩) hHeld ?_
            try simp only [Act.put, pS1, pS2, pS3]
            refine zW 7 (.func (.func 97) #[] #[]) rfl (Or.inl ⟨by rfl, by intro w hSw; go_simp⟩) hHeld ?_
            try simp only [Act.put, pS1, pS2, pS3]
            refine zW 8 (.slice (some ⟨g, o, none⟩) len cap) rfl (Or.inl ⟨by rfl, by intro w hSw; go_simp⟩) hHeld ?_
            try simp only [Act.put, pS1, pS2, pS3]
            refine zW 9 (.int .i64 k) rfl (Or.inl ⟨by rfl, by intro w hSw; go_simp⟩) hHeld ?_
            try simp only [Act.put, pS1, pS2, pS3]
            refine zW 10 (.int .i64 j) rfl (Or.inl ⟨by rfl, by intro w hSw; go_simp⟩) hHeld ?_
            try simp only [Act.put, pS1, pS2, pS3]
            refine zW 11 (.pointer (some ⟨g, o + 36 * j, none⟩)) rfl (Or.inl ⟨by rfl, by intro W hSw; have := ix2 W; go_simp⟩) hHeld ?_
            try simp only [Act.put, pS1, pS2, pS3]
            refine zW 12 (.agg Y) rfl (yieldsIf_mid (by rfl) 36 (.tmp 25) rfl g (o + 36 * j) rfl Y _ (fun _ h => h.2) Try.underlying36 rfl HSY.out) hHeld ?_
            try simp only [Act.put, pS1, pS2, pS3]
            refine zW 13 (.agg X) rfl (yieldsIf_mid (by rfl) 36 (.tmp 5) rfl g5 0 rfl X _ (fun _ h => h.1) Try.underlying36 rfl HSX.out) hHeld ?_
            try simp only [Act.put, pS1, pS2, pS3]
            refine wpAnyH_ready (rs := [14]) (by kernel_rfl) (by simp) ?_
            refine AllReadyH.cons (o := { dst := some 28, op := .call { callee := .value (.tmp 21), args := #[.tmp 26, .tmp 27], argTypes := #[36, 36] }, type := 3, pos := "claims.go:19", after := #[zD 7, zD 12, zD 13, zC 6, zG 6], guard := some (6, true) }) rfl (fun K hK => ?_) AllReadyH.nil
            go_simp
            refine (OR.out _).mono ?_
            rintro e w2 ⟨rfl, hb2⟩
            go_wp2_with fail
            refine hK.out _ _ (keep2G hb2 hHeld) (fun hHeld => ?_)
            clear hK K
            try simp only [Act.put, pS1, pS2, pS3]
            refine zW 15 (.bool true) rfl (Or.inl ⟨by rfl, by intro w hSw; go_simp⟩) hHeld ?_
            try simp only [Act.put, pS1, pS2, pS3]
            refine zW 16 (.bool true) rfl (Or.inl ⟨by rfl, by intro w hSw; go_simp⟩) hHeld ?_
            try simp only [Act.put, pS1, pS2, pS3]
            refine zW 17 (.bool true) rfl (Or.inl ⟨by rfl, by intro w hSw; go_simp⟩) hHeld ?_
            try simp only [Act.put, pS1, pS2, pS3]
            refine wpAnyH_done (by kernel_rfl) ?_ _
            go_wp2
            go_ret
            exact ⟨by rw [HNO.out hko]; rfl, (HB3.out.trans ((Below.trans (Below.refl _ _).drew hb1).mono HB3.out.size)).trans (hb2.mono (Nat.le_trans HB3.out.size hb1.size))⟩
          · replace hqd : decide (0 ≤ q) = false := hqd
            refine wp_region_held_drew (S := (fun W => W.rangeAt g5 0 X.toList ∧ W.rangeAt g (o + 36 * j) Y.toList)) (by kernel_rfl) HS5.out (fun hHeld => ?_)
            refine zW 0 (.agg X) rfl (yieldsIf_mid (by rfl) 36 (.tmp 5) rfl g5 0 rfl X _ (fun _ h => h.1) Try.underlying36 rfl HSX.out) hHeld ?_
            try simp only [Act.put, pS1, pS2, pS3]
            refine wpAnyH_ready (rs := [1]) (by kernel_rfl) (by simp) ?_
            refine AllReadyH.cons (o := { dst := some 15, op := .call { callee := .value (.func 61), args := #[.tmp 14], argTypes := #[36] }, type := 44, pos := "claims.go:19", after := #[zD 0], guard := none }) rfl (fun K hK => ?_) AllReadyH.nil
            go_simp
            refine (CK.out _).mono ?_
            rintro e w1 ⟨rfl, hb1⟩
            go_wp2_with fail
            refine hK.out _ _ (keep2G hb1 hHeld) (fun hHeld => ?_)
            clear hK K
            try simp only [Act.put, pS1, pS2, pS3]
            refine zW 2 (.bool false) rfl (Or.inl ⟨by rfl, by intro w hSw; go_simp⟩) hHeld ?_
            try simp only [Act.put, pS1, pS2, pS3]
            refine zW 3 (.bool false) rfl (Or.inl ⟨by rfl, by intro w hSw; go_simp⟩) hHeld ?_
            try simp only [Act.put, pS1, pS2, pS3]
            refine zW 4 (.int .i64 k) rfl (Or.inl ⟨by rfl, by intro w hSw; go_simp⟩) hHeld ?_
            try simp only [Act.put, pS1, pS2, pS3]
            refine zW 5 (.bool true) rfl (Or.inl ⟨by rfl, by intro w hSw; go_simp⟩) hHeld ?_
            try simp only [Act.put, pS1, pS2, pS3]
            refine zW 6 (.bool true) rfl (Or.inl ⟨by rfl, by intro w hSw; go_simp⟩) hHeld ?_
            try simp only [Act.put, pS1, pS2, pS3]
            refine zW 7 (.func (.func 97) #[] #[]) rfl (Or.inl ⟨by rfl, by intro w hSw; go_simp⟩) hHeld ?_
            try simp only [Act.put, pS1, pS2, pS3]
            refine zW 8 (.slice (some ⟨g, o, none⟩) len cap) rfl (Or.inl ⟨by rfl, by intro w hSw; go_simp⟩) hHeld ?_
            try simp only [Act.put, pS1, pS2, pS3]
            refine zW 9 (.int .i64 k) rfl (Or.inl ⟨by rfl, by intro w hSw; go_simp⟩) hHeld ?_
            try simp only [Act.put, pS1, pS2, pS3]
            refine zW 10 (.int .i64 j) rfl (Or.inl ⟨by rfl, by intro w hSw; go_simp⟩) hHeld ?_
            try simp only [Act.put, pS1, pS2, pS3]
            refine zW 11 (.pointer (some ⟨g, o + 36 * j, none⟩)) rfl (Or.inl ⟨by rfl, by intro W hSw; have := ix2 W; go_simp⟩) hHeld ?_
            try simp only [Act.put, pS1, pS2, pS3]
            refine zW 12 (.agg Y) rfl (yieldsIf_mid (by rfl) 36 (.tmp 25) rfl g (o + 36 * j) rfl Y _ (fun _ h => h.2) Try.underlying36 rfl HSY.out) hHeld ?_
            try simp only [Act.put, pS1, pS2, pS3]
            refine zW 13 (.agg X) rfl (yieldsIf_mid (by rfl) 36 (.tmp 5) rfl g5 0 rfl X _ (fun _ h => h.1) Try.underlying36 rfl HSX.out) hHeld ?_
            try simp only [Act.put, pS1, pS2, pS3]
            refine wpAnyH_ready (rs := [14]) (by kernel_rfl) (by simp) ?_
            refine AllReadyH.cons (o := { dst := some 28, op := .call { callee := .value (.tmp 21), args := #[.tmp 26, .tmp 27], argTypes := #[36, 36] }, type := 3, pos := "claims.go:19", after := #[zD 7, zD 12, zD 13, zC 6, zG 6], guard := some (6, true) }) rfl (fun K hK => ?_) AllReadyH.nil
            go_simp
            refine (OR.out _).mono ?_
            rintro e w2 ⟨rfl, hb2⟩
            go_wp2_with fail
            refine hK.out _ _ (keep2G hb2 hHeld) (fun hHeld => ?_)
            clear hK K
            try simp only [Act.put, pS1, pS2, pS3]
            refine zW 15 (.bool false) rfl (Or.inl ⟨by rfl, by intro w hSw; go_simp⟩) hHeld ?_
            try simp only [Act.put, pS1, pS2, pS3]
            refine zW 16 (.bool false) rfl (Or.inl ⟨by rfl, by intro w hSw; go_simp⟩) hHeld ?_
            try simp only [Act.put, pS1, pS2, pS3]
            refine zW 17 (.bool false) rfl (Or.inl ⟨by rfl, by intro w hSw; go_simp⟩) hHeld ?_
            try simp only [Act.put, pS1, pS2, pS3]
            refine wpAnyH_done (by kernel_rfl) ?_ _
            go_wp2
            go_roundw
            case rel => exact ⟨k + 1, by omega, by go_num, (HB3.out.trans ((Below.trans (Below.refl _ _).drew hb1).mono HB3.out.size)).trans (hb2.mono (Nat.le_trans HB3.out.size hb1.size)), HYE.out hko⟩
            case measure => simp [intOf]; omega
    · obtain rfl : len = k := by omega
      have hd : decide ((len : Int) < (len : Int)) = false := by rw [decide_eq_false_iff_not]; omega
      have HE : Hid (chkCl l = 0) := by
        show _ = _
        have := HN.out
        rw [← HL.out] at this
        exact if_pos this
      go_wp2
      go_ret
      exact ⟨by rw [HE.out]; rfl, HB.out⟩
theorem rec_no {l : List ClT} {c : ClT} (h : rightCs l = false ∨ rightC c = false) : recE l c = 110 ∧ recL l c = [] := by
  have h1 : recE l c = 110 := by unfold recE; rw [if_pos h]
  exact ⟨h1, by unfold recL; rw [h1]; rfl⟩
theorem rec_other {l : List ClT} {c x : ClT} (h1 : rightCs l = true) (h2 : rightC c = true) (h : findC l c.r c.e = some x) (hx : ¬ x = c) : recE l c = 111 ∧ recL l c = [] := by
  have he : recE l c = 111 := by
    unfold recE
    rw [if_neg (by rw [h1, h2]; simp), h]
    exact if_neg (fun e => hx ((eqCB_iff x c).1 e))
  exact ⟨he, by unfold recL; rw [he]; rfl⟩
theorem rec_in {l : List ClT} {c : ClT} (h1 : rightCs l = true) (h2 : rightC c = true) (h : findC l c.r c.e = some c) : recE l c = 0 ∧ recL l c = l ∧ c ∈ l := by
  have he : recE l c = 0 := by
    unfold recE
    rw [if_neg (by rw [h1, h2]; simp), h]
    exact if_pos ((eqCB_iff c c).2 rfl)
  exact ⟨he, by unfold recL; rw [he, h]; rfl, (findC_some h).1⟩
theorem rec_new {l : List ClT} {c : ClT} (h1 : rightCs l = true) (h2 : rightC c = true) (h : findC l c.r c.e = none) : recE l c = 0 ∧ recL l c = insC c l ∧ c ∉ l := by
  have he : recE l c = 0 := by
    unfold recE
    rw [if_neg (by rw [h1, h2]; simp), h]
  exact ⟨he, by unfold recL; rw [he, h]; rfl, fun hm => findC_none h c hm ⟨rfl, rfl⟩⟩
set_option maxHeartbeats 16000000 in
theorem kRecord_any (ad : Option Addr) (len cap : Nat) (l : List ClT) (c : ClT) (X : Array Value) (HX : Hid (X = (ccells c).toArray)) (hx : OkC c) (w : World) (h : CReads w ad len cap l) (hc0 : ad = none → cap = 0) (hlen : len ≤ 800000) :
    Calls Try.prog 87 #[.slice ad len cap, .agg X] w fun x w' => ∃ v, x = .returned (.tuple #[v, .int .i64 (recE l c)]) ∧ w'.ownsRow w.heap.size 36 36 v (recL l c).length (clcL (recL l c)) ∧ Below w.heap.size w w' := by
  have H := hidk h
  have HC0 := hidk hc0
  have HLN := hidk hlen
  obtain ⟨Z, HZ, HA, HBZ, H36⟩ := noughtsC
  have HB0 : Hid (Below w.heap.size w (w.alloc (.cells X 36))) := (Below.refl _ _).alloc (Nat.le_refl _) _
  have HX0 : Hid ((w.alloc (.cells X 36)).rangeAt w.heap.size 0 X.toList) := range_row (t := 36) (fr := (0, 0)) (by rw [Array.toArray_toList]; exact heap_alloc_new w _)
  have HSX : Hid ((Try.prog.info? 36).map (·.size) = some X.size) := by show _ = _; rw [sizeC, HX.out]; simp [ccells_length _ hx]
  have HKX : Hid (∀ W : World, W.rangeAt w.heap.size 0 X.toList → W.cell? ⟨w.heap.size, 0, none⟩ = some (.int .i64 c.r) ∧ W.cell? ⟨w.heap.size, 1, none⟩ = some (.int .i64 c.e)) := fun W hW => by
    rw [HX.out] at hW
    exact ⟨hW 0 _ rfl, hW 1 _ rfl⟩
  have CH := hidk (kCheck_any ad len cap l (w.alloc (.cells X 36)) (h.keep HB0.out) (by omega))
  obtain ⟨rl, hrl⟩ : ∃ b, rightCs l = b := ⟨_, rfl⟩
  obtain ⟨rc, hrc⟩ : ∃ b, rightC c = b := ⟨_, rfl⟩
  have CK : Hid (∀ W, Calls Try.prog 61 #[.agg X] W fun e w' => e = .returned (.int .i64 (if rc = true then 0 else 60)) ∧ Below W.heap.size W w') := fun W => by rw [← hrc]; exact kCheckC_any c W X HX
  have CH2 : Hid (Calls Try.prog 56 #[.slice ad len cap] (w.alloc (.cells X 36)) fun e w' => e = .returned (.int .i64 (if rl = true then 0 else 110)) ∧ Below (w.alloc (.cells X 36)).heap.size (w.alloc (.cells X 36)) w') := by rw [← hrl]; exact CH.out
  clear h hc0 hlen CH
  cases rl
  · have HN := hidk (rec_no (l := l) (c := c) (.inl hrl))
    go_enter Try.func87, Try.ntmps87
    go_wp2_with fail
    refine CH2.out.mono ?_
    rintro x w1 ⟨rfl, hb1⟩
    have HB1 := hidk (HB0.out.trans (hb1.mono (by simp)))
    clear hb1
    go_wp2
    go_ret2
    exact ⟨_, by rw [HN.out.1]; rfl, by rw [HN.out.2]; exact World.ownsRow_nil _ _ _ _, HB1.out⟩
  · cases rc
    · have HN := hidk (rec_no (l := l) (c := c) (.inr hrc))
      go_enter Try.func87, Try.ntmps87
      go_wp2_with fail
      refine CH2.out.mono ?_
      rintro x w1 ⟨rfl, hb1⟩
      have HB1 := hidk (HB0.out.trans (hb1.mono (by simp)))
      have HX1 := hidk (range_keep hb1 HX0.out)
      clear hb1
      go_wp2_with (first
        | (show aD 12 _ _ _ _ _ _ _ _ _ _ _; refine wpList_mid_w (by rfl) 36 (.tmp 3) rfl w.heap.size 0 rfl X _ HX1.out Try.underlying36 rfl HSX.out ?_; try simp only [Act.put, pS1, pS2, pS3])
        | fail)
      refine (CK.out _).mono ?_
      rintro x w2 ⟨rfl, hb2⟩
      have HB2 := hidk (HB1.out.trans (hb2.mono HB1.out.size))
      clear hb2
      go_wp2
      go_ret2
      exact ⟨_, by rw [HN.out.1]; rfl, by rw [HN.out.2]; exact World.ownsRow_nil _ _ _ _, HB2.out⟩
    · obtain ⟨R, HR⟩ : ∃ R, Hid (R = (ccells (foundC l c.r c.e)).toArray) := ⟨_, hidk rfl⟩
      have hof := foundC_ok H.out.ok c.r c.e
      have HSR : Hid ((Try.prog.info? 36).map (·.size) = some R.size) := by show _ = _; rw [sizeC, HR.out]; simp [ccells_length _ hof]
      have HZR : Hid (Z.size = R.size) := by show _ = _; rw [H36.out, HR.out]; simp [ccells_length _ hof]
      have H1R : Hid (R.all (·.oneCell') = true) := by show _ = _; rw [HR.out]; exact one_cellsC _
      obtain ⟨ok, hok⟩ : ∃ b, (findC l c.r c.e).isSome = b := ⟨_, rfl⟩
      have FI : Hid (∀ W, Below w.heap.size w W → Calls Try.prog 103 #[.slice ad len cap, .int .i64 c.r, .int .i64 c.e] W fun x w' => x = .returned (.tuple #[.agg R, .bool ok]) ∧ Below W.heap.size W w') := fun W hW => by rw [← hok]; exact kFind_any ad len cap l c.r c.e W (H.out.keep hW) HLN.out R HR
      obtain ⟨nq, hnq⟩ : ∃ b, (!eqCB (foundC l c.r c.e) c) = b := ⟨_, rfl⟩
      have NE : Hid (∀ W, (binOp .neq 36 (.agg R) (.agg X)).run Try.prog W = .ok (.bool nq) W) := fun W => neqClaim _ c hof hx R X HR HX nq (by rw [← hnq, Bool.not_eq_false', eqCB_iff]) W
      have OF : Hid ((ok = true ∧ nq = true → recE l c = 111 ∧ recL l c = []) ∧ (¬ (ok = true ∧ nq = true) → recE l c = 0 ∧ ∃ b, (b = true ↔ c ∈ l) ∧ addW_C l c b = recL l c)) := by
        refine ⟨fun hh => ?_, fun hh => ?_⟩
        · rw [← hok, ← hnq] at hh
          obtain ⟨x, hf⟩ := Option.isSome_iff_exists.1 hh.1
          have e : foundC l c.r c.e = x := by unfold foundC; rw [hf]; rfl
          rw [e] at hh
          exact rec_other hrl hrc hf (fun he => by rw [he, (eqCB_iff c c).2 rfl] at hh; exact absurd hh.2 (by simp))
        · cases hf : findC l c.r c.e with
          | none =>
            obtain ⟨e1, e2, e3⟩ := rec_new hrl hrc hf
            exact ⟨e1, false, by simp [e3], by rw [e2]; rfl⟩
          | some x =>
            have e : foundC l c.r c.e = x := by unfold foundC; rw [hf]; rfl
            rw [← hok, ← hnq, e, hf] at hh
            have hxc : x = c := by
              cases hq : eqCB x c
              · rw [hq] at hh; exact absurd ⟨rfl, rfl⟩ hh
              · exact (eqCB_iff x c).1 hq
            subst hxc
            obtain ⟨e1, e2, e3⟩ := rec_in hrl hrc hf
            exact ⟨e1, true, by simp [e3], by rw [e2]; rfl⟩
      obtain ⟨cr, hcr⟩ : ∃ y, c.r = y := ⟨_, rfl⟩
      obtain ⟨ce, hce⟩ : ∃ y, c.e = y := ⟨_, rfl⟩
      rw [hcr, hce] at FI HKX
      clear hok hnq HR hof hcr hce HBZ
      go_enter Try.func87, Try.ntmps87
      go_wp2_with fail
      refine CH2.out.mono ?_
      rintro x w1 ⟨rfl, hb1⟩
      have HB1 := hidk (HB0.out.trans (hb1.mono (by simp)))
      have HX1 := hidk (range_keep hb1 HX0.out)
      clear hb1
      go_wp2_with (first
        | (show aD 12 _ _ _ _ _ _ _ _ _ _ _; refine wpList_mid_w (by rfl) 36 (.tmp 3) rfl w.heap.size 0 rfl X _ HX1.out Try.underlying36 rfl HSX.out ?_; try simp only [Act.put, pS1, pS2, pS3])
        | fail)
      refine (CK.out _).mono ?_
      rintro x w2 ⟨rfl, hb2⟩
      have HB2 := hidk (HB1.out.trans (hb2.mono HB1.out.size))
      have HX2 := hidk (range_keep hb2 HX1.out)
      have hq1 := (HKX.out _ HX2.out).1
      have hq2 := (HKX.out _ HX2.out).2
      clear hb2 HX1
      go_wp2_with fail
      refine (FI.out _ HB2.out).mono ?_
      rintro x w3 ⟨rfl, hb3⟩
      have HB3 := hidk (HB2.out.trans (hb3.mono HB2.out.size))
      have HX3 := hidk (range_keep hb3 HX2.out)
      clear hb3 hq1 hq2 HX2
      have hne := NE.out
      clear HKX CK CH2 FI
      cases ok
      · obtain ⟨he, b, hbi, hbe⟩ := OF.out.2 (by simp)
        have HE := hidk he
        have HBI := hidk hbi
        have HBE := hidk hbe
        clear he hbi hbe OF
        go_wp2_with (first
          | (show aD 6 _ _ _ _ _ _ _ _ _ _ _; refine wpList_new_var rfl 36 rfl Z HA.out ?_; intro g6 w4 HM; have HG := hidk HM.out.row; try simp only [Act.put, pS1, pS2, pS3])
          | (show wpList _ _ _ ({ dst := none, op := Op.store 36 _ _, type := _, pos := _, after := _, guard := _ } :: _) _ _; refine wpList_set_var rfl 36 (.tmp 6) (.tmp 23) rfl g6 R rfl rfl 36 Z HG.out HSR.out HZR.out H1R.out ?_; intro w5 HW; have HB5 : Hid (Below w.heap.size w w5) := HW.out.below _ _ (HB3.out.trans (HM.out.below.mono HB3.out.size)) (by rw [HM.out.new]; exact HB3.out.size); have HX5 : Hid (w5.rangeAt w.heap.size 0 X.toList) := range_keep (HW.out.below _ _ HM.out.below (by rw [HM.out.new]; exact Nat.le_refl _)) HX3.out; have HR5 : Hid (w5.rangeAt g6 0 R.toList) := range_row (t := 36) (fr := (0, 0)) (by rw [Array.toArray_toList]; exact HW.out.row); try simp only [Act.put, pS1, pS2, pS3])
          | fail)
        have WI := hidk (withC_any ad len cap l c X HX hx w5.drew (H.out.keep HB5.out.drew) HC0.out HLN.out b HBI.out)
        rw [HBE.out] at WI
        clear HM HG HW HX3 HB3 HBI HBE
        refine wp_region_held_drew (S := (fun W => W.rangeAt w.heap.size 0 X.toList)) (by kernel_rfl) HX5.out (fun hHeld => ?_)
        refine zW 0 (.slice ad len cap) rfl (Or.inl ⟨by rfl, by intro w hSw; go_simp⟩) hHeld ?_
        try simp only [Act.put, pS1, pS2, pS3]
        refine zW 1 (.agg X) rfl (yieldsIf_mid (by rfl) 36 (.tmp 3) rfl w.heap.size 0 rfl X _ (fun _ h => h) Try.underlying36 rfl HSX.out) hHeld ?_
        try simp only [Act.put, pS1, pS2, pS3]
        refine wpAnyH_ready (rs := [2]) (by kernel_rfl) (by simp) ?_
        refine AllReadyH.cons (o := { dst := some 33, op := .call { callee := .value (.func 83), args := #[], argTypes := #[] }, type := 118, pos := "claims.go:45", after := #[], guard := none }) rfl (fun K hK => ?_) AllReadyH.nil
        go_simp
        refine (orderC_any _).mono ?_
        rintro x w6 ⟨rfl, rfl⟩
        go_wp2_with fail
        refine hK.out _ _ hHeld (fun hHeld => ?_)
        clear hK K
        try simp only [Act.put, pS1, pS2, pS3]
        refine wpAnyH_ready (rs := [3]) (by kernel_rfl) (by simp) ?_
        refine AllReadyH.cons (o := { dst := some 34, op := .call { callee := .value (.func 104), args := #[.tmp 31, .tmp 32, .tmp 33], argTypes := #[23, 36, 118] }, type := 23, pos := "claims.go:45", after := #[zD 0, zD 1, zD 2, zC 2], guard := none }) rfl (fun K hK => ?_) AllReadyH.nil
        go_simp
        refine WI.out.mono ?_
        rintro x w7 ⟨v, rfl, ho7, hb7⟩
        go_wp2_with fail
        refine hK.out _ _ (range_keep hb7 hHeld) (fun hHeld => ?_)
        clear hK K
        try simp only [Act.put, pS1, pS2, pS3]
        refine zW 4 (v) rfl (Or.inl ⟨by rfl, by intro w hSw; go_simp⟩) hHeld ?_
        try simp only [Act.put, pS1, pS2, pS3]
        refine zW 5 (.int .i64 0) rfl (Or.inl ⟨by rfl, by intro w hSw; go_simp⟩) hHeld ?_
        try simp only [Act.put, pS1, pS2, pS3]
        refine wpAnyH_done (by kernel_rfl) ?_ _
        have HO7 := hidk ho7
        have HB7 := hidk hb7
        clear ho7 hb7
        go_wp2
        go_ret2
        exact ⟨v, by rw [HE.out]; rfl, own_lower HO7.out HB5.out.size, HB5.out.drew.trans (HB7.out.mono HB5.out.size)⟩
      · cases nq
        · obtain ⟨he, b, hbi, hbe⟩ := OF.out.2 (by simp)
          have HE := hidk he
          have HBI := hidk hbi
          have HBE := hidk hbe
          clear he hbi hbe OF
          go_wp2_with (first
            | (show aD 6 _ _ _ _ _ _ _ _ _ _ _; refine wpList_new_var rfl 36 rfl Z HA.out ?_; intro g6 w4 HM; have HG := hidk HM.out.row; try simp only [Act.put, pS1, pS2, pS3])
            | (show wpList _ _ _ ({ dst := none, op := Op.store 36 _ _, type := _, pos := _, after := _, guard := _ } :: _) _ _; refine wpList_set_var rfl 36 (.tmp 6) (.tmp 23) rfl g6 R rfl rfl 36 Z HG.out HSR.out HZR.out H1R.out ?_; intro w5 HW; have HB5 : Hid (Below w.heap.size w w5) := HW.out.below _ _ (HB3.out.trans (HM.out.below.mono HB3.out.size)) (by rw [HM.out.new]; exact HB3.out.size); have HX5 : Hid (w5.rangeAt w.heap.size 0 X.toList) := range_keep (HW.out.below _ _ HM.out.below (by rw [HM.out.new]; exact Nat.le_refl _)) HX3.out; have HR5 : Hid (w5.rangeAt g6 0 R.toList) := range_row (t := 36) (fr := (0, 0)) (by rw [Array.toArray_toList]; exact HW.out.row); try simp only [Act.put, pS1, pS2, pS3])
            | (show aD 27 _ _ _ _ _ _ _ _ _ _ _; refine wpList_mid_w (by rfl) 36 (.tmp 6) rfl g6 0 rfl R _ HR5.out Try.underlying36 rfl HSR.out ?_; try simp only [Act.put, pS1, pS2, pS3])
            | (show aD 28 _ _ _ _ _ _ _ _ _ _ _; refine wpList_mid_w (by rfl) 36 (.tmp 3) rfl w.heap.size 0 rfl X _ HX5.out Try.underlying36 rfl HSX.out ?_; try simp only [Act.put, pS1, pS2, pS3])
            | fail)
          have WI := hidk (withC_any ad len cap l c X HX hx w5.drew (H.out.keep HB5.out.drew) HC0.out HLN.out b HBI.out)
          rw [HBE.out] at WI
          clear HM HG HW HX3 HB3 HBI HBE
          refine wp_region_held_drew (S := (fun W => W.rangeAt w.heap.size 0 X.toList)) (by kernel_rfl) HX5.out (fun hHeld => ?_)
          refine zW 0 (.slice ad len cap) rfl (Or.inl ⟨by rfl, by intro w hSw; go_simp⟩) hHeld ?_
          try simp only [Act.put, pS1, pS2, pS3]
          refine zW 1 (.agg X) rfl (yieldsIf_mid (by rfl) 36 (.tmp 3) rfl w.heap.size 0 rfl X _ (fun _ h => h) Try.underlying36 rfl HSX.out) hHeld ?_
          try simp only [Act.put, pS1, pS2, pS3]
          refine wpAnyH_ready (rs := [2]) (by kernel_rfl) (by simp) ?_
          refine AllReadyH.cons (o := { dst := some 33, op := .call { callee := .value (.func 83), args := #[], argTypes := #[] }, type := 118, pos := "claims.go:45", after := #[], guard := none }) rfl (fun K hK => ?_) AllReadyH.nil
          go_simp
          refine (orderC_any _).mono ?_
          rintro x w6 ⟨rfl, rfl⟩
          go_wp2_with fail
          refine hK.out _ _ hHeld (fun hHeld => ?_)
          clear hK K
          try simp only [Act.put, pS1, pS2, pS3]
          refine wpAnyH_ready (rs := [3]) (by kernel_rfl) (by simp) ?_
          refine AllReadyH.cons (o := { dst := some 34, op := .call { callee := .value (.func 104), args := #[.tmp 31, .tmp 32, .tmp 33], argTypes := #[23, 36, 118] }, type := 23, pos := "claims.go:45", after := #[zD 0, zD 1, zD 2, zC 2], guard := none }) rfl (fun K hK => ?_) AllReadyH.nil
          go_simp
          refine WI.out.mono ?_
          rintro x w7 ⟨v, rfl, ho7, hb7⟩
          go_wp2_with fail
          refine hK.out _ _ (range_keep hb7 hHeld) (fun hHeld => ?_)
          clear hK K
          try simp only [Act.put, pS1, pS2, pS3]
          refine zW 4 (v) rfl (Or.inl ⟨by rfl, by intro w hSw; go_simp⟩) hHeld ?_
          try simp only [Act.put, pS1, pS2, pS3]
          refine zW 5 (.int .i64 0) rfl (Or.inl ⟨by rfl, by intro w hSw; go_simp⟩) hHeld ?_
          try simp only [Act.put, pS1, pS2, pS3]
          refine wpAnyH_done (by kernel_rfl) ?_ _
          have HO7 := hidk ho7
          have HB7 := hidk hb7
          clear ho7 hb7
          go_wp2
          go_ret2
          exact ⟨v, by rw [HE.out]; rfl, own_lower HO7.out HB5.out.size, HB5.out.drew.trans (HB7.out.mono HB5.out.size)⟩
        · have HN := hidk (OF.out.1 ⟨rfl, rfl⟩)
          clear OF
          go_wp2_with (first
            | (show aD 6 _ _ _ _ _ _ _ _ _ _ _; refine wpList_new_var rfl 36 rfl Z HA.out ?_; intro g6 w4 HM; have HG := hidk HM.out.row; try simp only [Act.put, pS1, pS2, pS3])
            | (show wpList _ _ _ ({ dst := none, op := Op.store 36 _ _, type := _, pos := _, after := _, guard := _ } :: _) _ _; refine wpList_set_var rfl 36 (.tmp 6) (.tmp 23) rfl g6 R rfl rfl 36 Z HG.out HSR.out HZR.out H1R.out ?_; intro w5 HW; have HB5 : Hid (Below w.heap.size w w5) := HW.out.below _ _ (HB3.out.trans (HM.out.below.mono HB3.out.size)) (by rw [HM.out.new]; exact HB3.out.size); have HX5 : Hid (w5.rangeAt w.heap.size 0 X.toList) := range_keep (HW.out.below _ _ HM.out.below (by rw [HM.out.new]; exact Nat.le_refl _)) HX3.out; have HR5 : Hid (w5.rangeAt g6 0 R.toList) := range_row (t := 36) (fr := (0, 0)) (by rw [Array.toArray_toList]; exact HW.out.row); try simp only [Act.put, pS1, pS2, pS3])
            | (show aD 27 _ _ _ _ _ _ _ _ _ _ _; refine wpList_mid_w (by rfl) 36 (.tmp 6) rfl g6 0 rfl R _ HR5.out Try.underlying36 rfl HSR.out ?_; try simp only [Act.put, pS1, pS2, pS3])
            | (show aD 28 _ _ _ _ _ _ _ _ _ _ _; refine wpList_mid_w (by rfl) 36 (.tmp 3) rfl w.heap.size 0 rfl X _ HX5.out Try.underlying36 rfl HSX.out ?_; try simp only [Act.put, pS1, pS2, pS3])
            | fail)
          go_ret2
          exact ⟨_, by rw [HN.out.1]; rfl, by rw [HN.out.2]; exact World.ownsRow_nil _ _ _ _, HB5.out⟩
def FoldP (t : KeT) (r : ReT) (w : World) (x : Ending) (w' : World) : Prop := ∃ v', x = .returned (.tuple #[.agg (keA v'), .int .i64 (kpE t r)]) ∧ v'.t = kpO t r ∧ v'.n = v'.l.length ∧ v'.m = v'.k.length ∧ OwnKe w' w.heap.size v' ∧ Below w.heap.size w w'
theorem own_zero (W : World) (B : Nat) : OwnKe W B zeroKv := ⟨⟨rfl, .inl ⟨rfl, rfl⟩⟩, ⟨rfl, .inl ⟨rfl, rfl⟩⟩⟩
theorem FoldP.no {t : KeT} {r : ReT} {w w' : World} {E : Int} (h : kpE t r = E) (h0 : E ≠ 0) (hb : Below w.heap.size w w') : FoldP t r w (.returned (.tuple #[.agg (keA zeroKv), .int .i64 E])) w' :=
  ⟨zeroKv, by rw [h], by rw [kp_no (by rw [h]; exact h0)]; rfl, rfl, rfl, own_zero _ _, hb⟩
end Go.Proofs.Ytjpmmbmhkpgjcaa
