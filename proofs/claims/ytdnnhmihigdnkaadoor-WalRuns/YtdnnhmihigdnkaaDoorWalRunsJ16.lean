/- Texts of our own that the row of WalRuns leans on, part 16. -/
import Derived.Test.YtdnnhmihigdnkaaDoorWalRunsJ0
import Derived.Test.YtdnnhmihigdnkaaDoorWalRunsJ1
import Derived.Test.YtdnnhmihigdnkaaDoorWalRunsJ14
import Derived.Test.YtdnnhmihigdnkaaDoorWalRunsJ15

/- The document's Batch, Cost and Same. -/
namespace Go.Proofs.YtdnnhmihigdnkaaDoor
open Go.RowKit Nums
set_option linter.unusedVariables false
set_option linter.unusedSimpArgs false
set_option maxRecDepth 100000
/-- Texts that are no more than is looked at. -/
def Small (n m : Nat) (l : List ByteArray) : Prop := l.length ≤ n ∧ ∀ s ∈ l, s.size ≤ m
theorem Small.mono {n m n' m' : Nat} {l : List ByteArray} (h : Small n m l) (hn : n ≤ n') (hm : m ≤ m') : Small n' m' l := ⟨Nat.le_trans h.1 hn, fun s hs => Nat.le_trans (h.2 s hs) hm⟩
theorem costN_take (l : List ByteArray) (k : Nat) (h : k < l.length) : costN (l.take (k + 1)) = costN (l.take k) + 8 + l[k].size := by
  induction l generalizing k with
  | nil => simp at h
  | cons s r ih =>
    cases k with
    | zero => simp [costN]
    | succ k =>
      have h' : k < r.length := by simpa using h
      simp only [List.take_succ_cons, costN, List.getElem_cons_succ]
      rw [ih k h']
      omega
theorem costN_le {m : Nat} {l : List ByteArray} (h : ∀ s ∈ l, s.size ≤ m) : costN l ≤ 16 + l.length * (8 + m) := by
  induction l with
  | nil => simp [costN]
  | cons s r ih =>
    have h1 := ih fun x hx => h x (List.mem_cons_of_mem _ hx)
    have h2 := h s (List.mem_cons_self ..)
    simp only [costN, List.length_cons, Nat.add_mul]
    omega
theorem costN_pos (l : List ByteArray) : 16 ≤ costN l := by
  induction l with
  | nil => simp [costN]
  | cons s r ih => simp only [costN]; omega
set_option maxHeartbeats 2000000 in
theorem refCost_any (a : Option Addr) (len cap : Nat) (l : List ByteArray) (w : World) (hT : Texts w a len l) (hS : Small 1000000 1000000 l) :
    Calls Tryd.prog 24 #[.slice a len cap] w fun e w' => e = .returned (.int .i64 (costN l)) ∧ w = w' := by
  have HT := hidd hT
  have hl := hT.1
  have hlen : len ≤ 1000000 := by have := hS.1; omega
  have HS := hidd hS
  have HL := hidd hl
  obtain ⟨F, HF⟩ : ∃ F : Nat → Nat, Hid (∀ k, F k = costN (l.take k)) := ⟨fun k => costN (l.take k), fun k => rfl⟩
  have HBD : Hid (∀ k, F k ≤ 16 + 1000000 * (8 + 1000000)) := fun k => by
    rw [HF.out]
    have h1 : Small 1000000 1000000 (l.take k) := ⟨by rw [List.length_take]; have := HS.out.1; omega, fun s hs => HS.out.2 s (List.mem_of_mem_take hs)⟩
    have h2 := costN_le h1.2
    have h3 := h1.1
    have h4 : (l.take k).length * (8 + 1000000) ≤ 1000000 * (8 + 1000000) := Nat.mul_le_mul_right _ h3
    exact Nat.le_trans h2 (Nat.add_le_add_left h4 16)
  have HE : Hid (F len = costN l) := by show _ = _; rw [HF.out, List.take_of_length_le (by rw [hl]; omega)]
  have HZ : Hid (F 0 = 16) := by show _ = _; rw [HF.out]; rfl
  clear hT hS hl
  go_enter Tryd.func24, Tryd.ntmps24
  go_wp2
  go_loop [3, 4] (fun s i => ∃ k : Nat, k ≤ len ∧ i = .int .i64 k ∧ s = .int .i64 (F k)) (fun _ i => len - (intOf i).toNat)
  case atStart => exact ⟨0, by omega, rfl, by rw [HZ.out]; rfl⟩
  case round =>
    obtain ⟨k, hk, rfl, rfl⟩ := hrel
    by_cases hlt : k < len
    · obtain ⟨b, off, t, rfl, hc, ht⟩ := HT.out.cell k hlt
      have hkl : k < l.length := by have := HL.out; omega
      have htk : t = l[k] := by rw [List.getElem?_eq_getElem hkl] at ht; exact (Option.some.inj ht).symm
      have hts : t.size ≤ 1000000 := by rw [htk]; exact HS.out.2 _ (List.getElem_mem hkl)
      have HN : Hid (F (k + 1) = F k + 8 + t.size) := by show _ = _; rw [HF.out, HF.out, costN_take l k hkl, ← htk]
      have hb1 := HBD.out k
      have hd : decide ((k : Int) < (len : Int)) = true := by rw [decide_eq_true_eq]; omega
      have hw1 := wrap_int ((k : Int) + 1) (by omega) (by omega)
      have hw2 := wrap_int ((F k : Int) + 8) (by omega) (by omega)
      have hw3 := wrap_int ((F k : Int) + 8 + (t.size : Int)) (by omega) (by omega)
      have hmx : t.size ≤ 9223372036854775807 := by omega
      clear ht htk
      go_wp2
      go_round
      case rel => exact ⟨k + 1, by omega, by go_num, by rw [HN.out]; go_num⟩
      case measure => simp [intOf]; omega
    · obtain rfl : len = k := by omega
      have hd : decide ((len : Int) < (len : Int)) = false := by rw [decide_eq_false_iff_not]; omega
      go_wp2
      go_ret
      exact ⟨by rw [HE.out]; rfl, rfl⟩
set_option maxHeartbeats 2000000 in
theorem refBatch_any (a : Option Addr) (len cap : Nat) (l : List ByteArray) (w : World) (hT : Texts w a len l) (hlen : len ≤ maxLen) (hS : ∀ s ∈ l, s.size ≤ maxLen) :
    Calls Tryd.prog 23 #[.slice a len cap] w fun e w' => e = .returned (.bool (batchB l)) ∧ w = w' := by
  unfold maxLen at hlen
  have HT := hidd hT
  have HL := hidd hT.1
  have HS := hidd hS
  have hmx : len ≤ 9223372036854775807 := by omega
  by_cases h5 : len ≤ 1000
  · have h5' : decide ((1000 : Int) < (len : Int)) = false := by rw [decide_eq_false_iff_not]; omega
    clear hT hS
    go_enter Tryd.func23, Tryd.ntmps23
    go_wp2
    go_loop [3] (fun i => ∃ k : Nat, k ≤ len ∧ i = .int .i64 k ∧ Hid (∀ s ∈ l.take k, s.size ≤ 4000)) (fun i => len - (intOf i).toNat)
    case atStart => exact ⟨0, by omega, rfl, fun s hs => by simp at hs⟩
    case round =>
      obtain ⟨k, hk, rfl, HA⟩ := hrel
      by_cases hlt : k < len
      · obtain ⟨b, off, t, rfl, hc, ht⟩ := HT.out.cell k hlt
        have hkl : k < l.length := by have := HL.out; omega
        have htk : t = l[k] := by rw [List.getElem?_eq_getElem hkl] at ht; exact (Option.some.inj ht).symm
        have hts : t.size ≤ maxLen := by rw [htk]; exact HS.out _ (List.getElem_mem hkl)
        unfold maxLen at hts
        have hd : decide ((k : Int) < (len : Int)) = true := by rw [decide_eq_true_eq]; omega
        have hw1 := wrap_int ((k : Int) + 1) (by omega) (by omega)
        have htm : t.size ≤ 9223372036854775807 := by omega
        by_cases h4 : t.size ≤ 4000
        · have h4' : decide ((4000 : Int) < (t.size : Int)) = false := by rw [decide_eq_false_iff_not]; omega
          have HN : Hid (∀ s ∈ l.take (k + 1), s.size ≤ 4000) := by
            intro s hs
            rw [take_succ_parts l k hkl] at hs
            rcases List.mem_append.1 hs with h | h
            · exact HA.out s h
            · obtain rfl : s = l[k] := by simpa using h
              rw [← htk]; exact h4
          clear ht htk
          go_wp2
          go_round
          case rel => exact ⟨k + 1, by omega, by go_num, HN⟩
          case measure => simp [intOf]; omega
        · have h4' : decide ((4000 : Int) < (t.size : Int)) = true := by rw [decide_eq_true_eq]; omega
          have HN : Hid (batchB l = false) := by
            show _ = _
            unfold batchB
            rw [decide_eq_false_iff_not]
            rintro ⟨_, h⟩
            have := h _ (List.getElem_mem hkl)
            rw [← htk] at this
            exact h4 this
          clear ht htk
          go_wp2
          go_ret
          exact ⟨by rw [HN.out]; rfl, rfl⟩
      · obtain rfl : len = k := by omega
        have hd : decide ((len : Int) < (len : Int)) = false := by rw [decide_eq_false_iff_not]; omega
        have HN : Hid (batchB l = true) := by
          show _ = _
          have := HA.out
          rw [List.take_of_length_le (by rw [HL.out]; omega)] at this
          unfold batchB
          rw [decide_eq_true_eq]
          exact ⟨by rw [HL.out]; exact h5, this⟩
        go_wp2
        go_ret
        exact ⟨by rw [HN.out]; rfl, rfl⟩
  · have h5' : decide ((1000 : Int) < (len : Int)) = true := by rw [decide_eq_true_eq]; omega
    have HN : Hid (batchB l = false) := by
      show _ = _
      unfold batchB
      rw [decide_eq_false_iff_not]
      rintro ⟨h, _⟩
      rw [HL.out] at h
      exact h5 h
    clear hT hS
    go_enter Tryd.func23, Tryd.ntmps23
    go_wp2
    go_ret
    exact ⟨by rw [HN.out]; rfl, rfl⟩
set_option maxHeartbeats 4000000 in
theorem refSame_any (a : Option Addr) (la ca : Nat) (A : List ByteArray) (b : Option Addr) (lb cb : Nat) (B : List ByteArray) (w : World) (hA : Texts w a la A) (hB : Texts w b lb B) (hla : la ≤ maxLen) (hlb : lb ≤ maxLen) :
    Calls Tryd.prog 27 #[.slice a la ca, .slice b lb cb] w fun e w' => e = .returned (.bool (decide (A = B))) ∧ Below w.heap.size w w' := by
  unfold maxLen at hla hlb
  have HA := hidd hA
  have HB := hidd hB
  have HLA := hidd hA.1
  have HLB := hidd hB.1
  have hma : la ≤ 9223372036854775807 := by omega
  have hmb : lb ≤ 9223372036854775807 := by omega
  clear hA hB
  by_cases he : la = lb
  · subst he
    have hd0 : ((la : Int) != (la : Int)) = false := by simp
    go_enter Tryd.func27, Tryd.ntmps27
    go_wp2
    go_loopw [5] (fun i wr => ∃ k : Nat, k ≤ la ∧ i = .int .i64 k ∧ Hid (A.take k = B.take k) ∧ Hid (Below w.heap.size w wr)) (fun i _ => la - (intOf i).toNat)
    case atStart => exact ⟨0, by omega, rfl, rfl, Below.refl _ _⟩
    case round =>
      obtain ⟨k, hk, rfl, HE, HW⟩ := hrel
      by_cases hlt : k < la
      · obtain ⟨b1, o1, s, rfl, hc1, hs⟩ := (HA.out.keep HW.out).cell k hlt
        obtain ⟨b2, o2, t, rfl, hc2, ht⟩ := (HB.out.keep HW.out).cell k hlt
        have hd : decide ((k : Int) < (la : Int)) = true := by rw [decide_eq_true_eq]; omega
        have hw1 := wrap_int ((k : Int) + 1) (by omega) (by omega)
        have hkA : k < A.length := by have := HLA.out; omega
        have hkB : k < B.length := by have := HLB.out; omega
        have HSA : Hid (A[k] = s) := by rw [List.getElem?_eq_getElem hkA] at hs; exact Option.some.inj hs
        have HTB : Hid (B[k] = t) := by rw [List.getElem?_eq_getElem hkB] at ht; exact Option.some.inj ht
        have HW2 := hidd (HW.out.drew)
        clear hs ht
        by_cases hst : s = t
        · subst hst
          have HN : Hid (A.take (k + 1) = B.take (k + 1)) := by
            show _ = _
            rw [take_succ_parts A k hkA, take_succ_parts B k hkB, HE.out, HSA.out, HTB.out]
          go_wp2
          refine wp_region_held_drew (S := (fun V => V.cell? ⟨b1, o1 + k, none⟩ = some (.string s) ∧ V.cell? ⟨b2, o2 + k, none⟩ = some (.string s))) (by kernel_rfl) ⟨hc1, hc2⟩ (fun hHeld => ?_)
          refine wpAnyH_take (i := 0) (oi := { dst := some 17, op := Op.move (Operand.tmp 0), type := 29, pos := "ref.go:53", after := #[], guard := none }) (v := .slice (some ⟨b1, o1, none⟩) la ca) rfl (by kernel_rfl) (by kernel_rfl) (by kernel_rfl) (fun _ _ _ h => h) (Or.inl ⟨by rfl, by intro W hSw; go_simp⟩) hHeld ?_
          try simp only [Act.put, pS1, pS2, pS3]
          refine wpAnyH_take (i := 1) (oi := { dst := some 18, op := Op.move (Operand.tmp 5), type := 3, pos := "ref.go:53", after := #[], guard := none }) (v := .int .i64 k) rfl (by kernel_rfl) (by kernel_rfl) (by kernel_rfl) (fun _ _ _ h => h) (Or.inl ⟨by rfl, by intro W hSw; go_simp⟩) hHeld ?_
          try simp only [Act.put, pS1, pS2, pS3]
          refine wpAnyH_take (i := 2) (oi := { dst := some 19, op := Op.indexAddr 29 (Operand.tmp 17) (Operand.tmp 18), type := 0, pos := "ref.go:53", after := #[zD 0, zD 1], guard := none }) (v := .pointer (some ⟨b1, o1 + k, none⟩)) rfl (by kernel_rfl) (by kernel_rfl) (by kernel_rfl) (fun _ _ _ h => h) (Or.inl ⟨by rfl, by intro W hSw; go_simp⟩) hHeld ?_
          try simp only [Act.put, pS1, pS2, pS3]
          refine wpAnyH_take (i := 3) (oi := { dst := some 20, op := Op.load 9 (Operand.tmp 19), type := 9, pos := "ref.go:53", after := #[zD 2], guard := none }) (v := .string s) rfl (by kernel_rfl) (by kernel_rfl) (by kernel_rfl) (fun _ _ _ h => h) (Or.inl ⟨by rfl, by intro W hSw; have h1 := hSw.1; go_simp⟩) hHeld ?_
          try simp only [Act.put, pS1, pS2, pS3]
          refine wpAnyH_take (i := 4) (oi := { dst := some 21, op := Op.move (Operand.tmp 1), type := 29, pos := "ref.go:53", after := #[], guard := none }) (v := .slice (some ⟨b2, o2, none⟩) la cb) rfl (by kernel_rfl) (by kernel_rfl) (by kernel_rfl) (fun _ _ _ h => h) (Or.inl ⟨by rfl, by intro W hSw; go_simp⟩) hHeld ?_
          try simp only [Act.put, pS1, pS2, pS3]
          refine wpAnyH_take (i := 5) (oi := { dst := some 22, op := Op.move (Operand.tmp 5), type := 3, pos := "ref.go:53", after := #[], guard := none }) (v := .int .i64 k) rfl (by kernel_rfl) (by kernel_rfl) (by kernel_rfl) (fun _ _ _ h => h) (Or.inl ⟨by rfl, by intro W hSw; go_simp⟩) hHeld ?_
          try simp only [Act.put, pS1, pS2, pS3]
          refine wpAnyH_take (i := 6) (oi := { dst := some 23, op := Op.indexAddr 29 (Operand.tmp 21) (Operand.tmp 22), type := 0, pos := "ref.go:53", after := #[zD 4, zD 5], guard := none }) (v := .pointer (some ⟨b2, o2 + k, none⟩)) rfl (by kernel_rfl) (by kernel_rfl) (by kernel_rfl) (fun _ _ _ h => h) (Or.inl ⟨by rfl, by intro W hSw; go_simp⟩) hHeld ?_
          try simp only [Act.put, pS1, pS2, pS3]
          refine wpAnyH_take (i := 7) (oi := { dst := some 24, op := Op.load 9 (Operand.tmp 23), type := 9, pos := "ref.go:53", after := #[zD 6], guard := none }) (v := .string s) rfl (by kernel_rfl) (by kernel_rfl) (by kernel_rfl) (fun _ _ _ h => h) (Or.inl ⟨by rfl, by intro W hSw; have h1 := hSw.2; go_simp⟩) hHeld ?_
          try simp only [Act.put, pS1, pS2, pS3]
          refine wpAnyH_take (i := 8) (oi := { dst := some 25, op := Op.binOp BinOp.neq 9 (Operand.tmp 20) (Operand.tmp 24) 9, type := 4, pos := "ref.go:53", after := #[zD 3, zD 7], guard := none }) (v := .bool false) rfl (by kernel_rfl) (by kernel_rfl) (by kernel_rfl) (fun _ _ _ h => h) (Or.inl ⟨by rfl, by intro W hSw; go_simp⟩) hHeld ?_
          try simp only [Act.put, pS1, pS2, pS3]
          refine wpAnyH_done (by kernel_rfl) ?_ _
          go_wp2
          go_roundw
          case rel => exact ⟨k + 1, by omega, by go_num, HN, HW2⟩
          case measure => simp [intOf]; omega
        · have HN : Hid (decide (A = B) = false) := by
            show _ = _
            rw [decide_eq_false_iff_not]
            rintro rfl
            exact hst (HSA.out.symm.trans HTB.out)
          have hne := text_ne hst
          go_wp2
          refine wp_region_held_drew (S := (fun V => V.cell? ⟨b1, o1 + k, none⟩ = some (.string s) ∧ V.cell? ⟨b2, o2 + k, none⟩ = some (.string t))) (by kernel_rfl) ⟨hc1, hc2⟩ (fun hHeld => ?_)
          refine wpAnyH_take (i := 0) (oi := { dst := some 17, op := Op.move (Operand.tmp 0), type := 29, pos := "ref.go:53", after := #[], guard := none }) (v := .slice (some ⟨b1, o1, none⟩) la ca) rfl (by kernel_rfl) (by kernel_rfl) (by kernel_rfl) (fun _ _ _ h => h) (Or.inl ⟨by rfl, by intro W hSw; go_simp⟩) hHeld ?_
          try simp only [Act.put, pS1, pS2, pS3]
          refine wpAnyH_take (i := 1) (oi := { dst := some 18, op := Op.move (Operand.tmp 5), type := 3, pos := "ref.go:53", after := #[], guard := none }) (v := .int .i64 k) rfl (by kernel_rfl) (by kernel_rfl) (by kernel_rfl) (fun _ _ _ h => h) (Or.inl ⟨by rfl, by intro W hSw; go_simp⟩) hHeld ?_
          try simp only [Act.put, pS1, pS2, pS3]
          refine wpAnyH_take (i := 2) (oi := { dst := some 19, op := Op.indexAddr 29 (Operand.tmp 17) (Operand.tmp 18), type := 0, pos := "ref.go:53", after := #[zD 0, zD 1], guard := none }) (v := .pointer (some ⟨b1, o1 + k, none⟩)) rfl (by kernel_rfl) (by kernel_rfl) (by kernel_rfl) (fun _ _ _ h => h) (Or.inl ⟨by rfl, by intro W hSw; go_simp⟩) hHeld ?_
          try simp only [Act.put, pS1, pS2, pS3]
          refine wpAnyH_take (i := 3) (oi := { dst := some 20, op := Op.load 9 (Operand.tmp 19), type := 9, pos := "ref.go:53", after := #[zD 2], guard := none }) (v := .string s) rfl (by kernel_rfl) (by kernel_rfl) (by kernel_rfl) (fun _ _ _ h => h) (Or.inl ⟨by rfl, by intro W hSw; have h1 := hSw.1; go_simp⟩) hHeld ?_
          try simp only [Act.put, pS1, pS2, pS3]
          refine wpAnyH_take (i := 4) (oi := { dst := some 21, op := Op.move (Operand.tmp 1), type := 29, pos := "ref.go:53", after := #[], guard := none }) (v := .slice (some ⟨b2, o2, none⟩) la cb) rfl (by kernel_rfl) (by kernel_rfl) (by kernel_rfl) (fun _ _ _ h => h) (Or.inl ⟨by rfl, by intro W hSw; go_simp⟩) hHeld ?_
          try simp only [Act.put, pS1, pS2, pS3]
          refine wpAnyH_take (i := 5) (oi := { dst := some 22, op := Op.move (Operand.tmp 5), type := 3, pos := "ref.go:53", after := #[], guard := none }) (v := .int .i64 k) rfl (by kernel_rfl) (by kernel_rfl) (by kernel_rfl) (fun _ _ _ h => h) (Or.inl ⟨by rfl, by intro W hSw; go_simp⟩) hHeld ?_
          try simp only [Act.put, pS1, pS2, pS3]
          refine wpAnyH_take (i := 6) (oi := { dst := some 23, op := Op.indexAddr 29 (Operand.tmp 21) (Operand.tmp 22), type := 0, pos := "ref.go:53", after := #[zD 4, zD 5], guard := none }) (v := .pointer (some ⟨b2, o2 + k, none⟩)) rfl (by kernel_rfl) (by kernel_rfl) (by kernel_rfl) (fun _ _ _ h => h) (Or.inl ⟨by rfl, by intro W hSw; go_simp⟩) hHeld ?_
          try simp only [Act.put, pS1, pS2, pS3]
          refine wpAnyH_take (i := 7) (oi := { dst := some 24, op := Op.load 9 (Operand.tmp 23), type := 9, pos := "ref.go:53", after := #[zD 6], guard := none }) (v := .string t) rfl (by kernel_rfl) (by kernel_rfl) (by kernel_rfl) (fun _ _ _ h => h) (Or.inl ⟨by rfl, by intro W hSw; have h1 := hSw.2; go_simp⟩) hHeld ?_
          try simp only [Act.put, pS1, pS2, pS3]
          refine wpAnyH_take (i := 8) (oi := { dst := some 25, op := Op.binOp BinOp.neq 9 (Operand.tmp 20) (Operand.tmp 24) 9, type := 4, pos := "ref.go:53", after := #[zD 3, zD 7], guard := none }) (v := .bool true) rfl (by kernel_rfl) (by kernel_rfl) (by kernel_rfl) (fun _ _ _ h => h) (Or.inl ⟨by rfl, by intro W hSw; go_simp⟩) hHeld ?_
          try simp only [Act.put, pS1, pS2, pS3]
          refine wpAnyH_done (by kernel_rfl) ?_ _
          go_wp2
          go_ret
          exact ⟨by rw [HN.out]; rfl, HW2.out⟩
      · obtain rfl : la = k := by omega
        have hd : decide ((la : Int) < (la : Int)) = false := by rw [decide_eq_false_iff_not]; omega
        have HN : Hid (decide (A = B) = true) := by
          show _ = _
          rw [decide_eq_true_eq]
          have := HE.out
          rwa [List.take_of_length_le (by rw [HLA.out]; omega), List.take_of_length_le (by rw [HLB.out]; omega)] at this
        go_wp2
        go_ret
        exact ⟨by rw [HN.out]; rfl, HW.out⟩
  · have hd0 : ((la : Int) != (lb : Int)) = true := bne_iff_ne.2 (by omega)
    have HN : Hid (decide (A = B) = false) := by
      show _ = _
      rw [decide_eq_false_iff_not]
      rintro rfl
      exact he (HLA.out.symm.trans HLB.out)
    go_enter Tryd.func27, Tryd.ntmps27
    go_wp2
    go_ret
    exact ⟨by rw [HN.out]; rfl, Below.refl _ _⟩
end Go.Proofs.YtdnnhmihigdnkaaDoor
