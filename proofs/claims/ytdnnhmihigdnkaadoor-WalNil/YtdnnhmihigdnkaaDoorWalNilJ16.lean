/- Texts of our own that the row of WalNil leans on, part 16. -/
import Derived.Test.YtdnnhmihigdnkaaDoorWalNilJ1
import Derived.Test.YtdnnhmihigdnkaaDoorWalNilJ14
import Derived.Test.YtdnnhmihigdnkaaDoorWalNilJ15

/- The document's Batch, Cost and Same. -/
namespace Go.Proofs.YtdnnhmihigdnkaaDoor
open Go.RowKit Nums
set_option linter.unusedVariables false
set_option linter.unusedSimpArgs false
set_option maxRecDepth 100000
/-- Texts that are no more than is looked at. -/
def Small (n m : Nat) (l : List ByteArray) : Prop := l.length ≤ n ∧ ∀ s ∈ l, s.size ≤ m
theorem Small.mono {n m n' m' : Nat} {l : List ByteArray} (h : Small n m l) (hn : n ≤ n') (hm : m ≤ m') : Small n' m' l := ⟨Nat.le_trans h.1 hn, fun s hs => Nat.le_trans (h.2 s hs) hm⟩
theorem costN_take (l : List ByteArray) (k : Nat) (h : k < l.length) : costN (l.take (k + 1)) = costN (l.take k) + 8 + l[k].size := by
  induction l generalizing k with
  | nil => simp at h
  | cons s r ih =>
    cases k with
    | zero => simp [costN]
    | succ k =>
      have h' : k < r.length := by simpa using h
      simp only [List.take_succ_cons, costN, List.getElem_cons_succ]
      rw [ih k h']
      omega
theorem costN_le {m : Nat} {l : List ByteArray} (h : ∀ s ∈ l, s.size ≤ m) : costN l ≤ 16 + l.length * (8 + m) := by
  induction l with
  | nil => simp [costN]
  | cons s r ih =>
    have h1 := ih fun x hx => h x (List.mem_cons_of_mem _ hx)
    have h2 := h s (List.mem_cons_self ..)
    simp only [costN, List.length_cons, Nat.add_mul]
    omega
theorem costN_pos (l : List ByteArray) : 16 ≤ costN l := by
  induction l with
  | nil => simp [costN]
  | cons s r ih => simp only [costN]; omega
set_option maxHeartbeats 4000000 in
theorem refSame_any (a : Option Addr) (la ca : Nat) (A : List ByteArray) (b : Option Addr) (lb cb : Nat) (B : List ByteArray) (w : World) (hA : Texts w a la A) (hB : Texts w b lb B) (hla : la ≤ maxLen) (hlb : lb ≤ maxLen) :
    Calls Tryd.prog 27 #[.slice a la ca, .slice b lb cb] w fun e w' => e = .returned (.bool (decide (A = B))) ∧ Below w.heap.size w w' := by
  unfold maxLen at hla hlb
  have HA := hidd hA
  have HB := hidd hB
  have HLA := hidd hA.1
  have HLB := hidd hB.1
  have hma : la ≤ 9223372036854775807 := by omega
  have hmb : lb ≤ 9223372036854775807 := by omega
  clear hA hB
  by_cases he : la = lb
  · subst he
    have hd0 : ((la : Int) != (la : Int)) = false := by simp
    go_enter Tryd.func27, Tryd.ntmps27
    go_wp2
    go_loopw [5] (fun i wr => ∃ k : Nat, k ≤ la ∧ i = .int .i64 k ∧ Hid (A.take k = B.take k) ∧ Hid (Below w.heap.size w wr)) (fun i _ => la - (intOf i).toNat)
    case atStart => exact ⟨0, by omega, rfl, rfl, Below.refl _ _⟩
    case round =>
      obtain ⟨k, hk, rfl, HE, HW⟩ := hrel
      by_cases hlt : k < la
      · obtain ⟨b1, o1, s, rfl, hc1, hs⟩ := (HA.out.keep HW.out).cell k hlt
        obtain ⟨b2, o2, t, rfl, hc2, ht⟩ := (HB.out.keep HW.out).cell k hlt
        have hd : decide ((k : Int) < (la : Int)) = true := by rw [decide_eq_true_eq]; omega
        have hw1 := wrap_int ((k : Int) + 1) (by omega) (by omega)
        have hkA : k < A.length := by have := HLA.out; omega
        have hkB : k < B.length := by have := HLB.out; omega
        have HSA : Hid (A[k] = s) := by rw [List.getElem?_eq_getElem hkA] at hs; exact Option.some.inj hs
        have HTB : Hid (B[k] = t) := by rw [List.getElem?_eq_getElem hkB] at ht; exact Option.some.inj ht
        have HW2 := hidd (HW.out.drew)
        clear hs ht
        by_cases hst : s = t
        · subst hst
          have HN : Hid (A.take (k + 1) = B.take (k + 1)) := by
            show _ = _
            rw [take_succ_parts A k hkA, take_succ_parts B k hkB, HE.out, HSA.out, HTB.out]
          go_wp2
          refine wp_region_held_drew (S := (fun V => V.cell? ⟨b1, o1 + k, none⟩ = some (.string s) ∧ V.cell? ⟨b2, o2 + k, none⟩ = some (.string s))) (by kernel_rfl) ⟨hc1, hc2⟩ (fun hHeld => ?_)
          refine wpAnyH_take (i := 0) (oi := { dst := some 17, op := Op.move (Operand.tmp 0), type := 29, pos := "ref.go:53", after := #[], guard := none }) (v := .slice (some ⟨b1, o1, none⟩) la ca) rfl (by kernel_rfl) (by kernel_rfl) (by kernel_rfl) (fun _ _ _ h => h) (Or.inl ⟨by rfl, by intro W hSw; go_simp⟩) hHeld ?_
          try simp only [Act.put, List.setIfInBounds_toArray, List.set_cons_zero, List.set_cons_succ]
          refine wpAnyH_take (i := 1) (oi := { dst := some 18, op := Op.move (Operand.tmp 5), type := 3, pos := "ref.go:53", after := #[], guard := none }) (v := .int .i64 k) rfl (by kernel_rfl) (by kernel_rfl) (by kernel_rfl) (fun _ _ _ h => h) (Or.inl ⟨by rfl, by intro W hSw; go_simp⟩) hHeld ?_
          try simp only [Act.put, List.setIfInBounds_toArray, List.set_cons_zero, List.set_cons_succ]
          refine wpAnyH_take (i := 2) (oi := { dst := some 19, op := Op.indexAddr 29 (Operand.tmp 17) (Operand.tmp 18), type := 0, pos := "ref.go:53", after := #[{ on := 0, ground := Ground.data }, { on := 1, ground := Ground.data }], guard := none }) (v := .pointer (some ⟨b1, o1 + k, none⟩)) rfl (by kernel_rfl) (by kernel_rfl) (by kernel_rfl) (fun _ _ _ h => h) (Or.inl ⟨by rfl, by intro W hSw; go_simp⟩) hHeld ?_
          try simp only [Act.put, List.setIfInBounds_toArray, List.set_cons_zero, List.set_cons_succ]
          refine wpAnyH_take (i := 3) (oi := { dst := some 20, op := Op.load 9 (Operand.tmp 19), type := 9, pos := "ref.go:53", after := #[{ on := 2, ground := Ground.data }], guard := none }) (v := .string s) rfl (by kernel_rfl) (by kernel_rfl) (by kernel_rfl) (fun _ _ _ h => h) (Or.inl ⟨by rfl, by intro W hSw; have h1 := hSw.1; go_simp⟩) hHeld ?_
          try simp only [Act.put, List.setIfInBounds_toArray, List.set_cons_zero, List.set_cons_succ]
          refine wpAnyH_take (i := 4) (oi := { dst := some 21, op := Op.move (Operand.tmp 1), type := 29, pos := "ref.go:53", after := #[], guard := none }) (v := .slice (some ⟨b2, o2, none⟩) la cb) rfl (by kernel_rfl) (by kernel_rfl) (by kernel_rfl) (fun _ _ _ h => h) (Or.inl ⟨by rfl, by intro W hSw; go_simp⟩) hHeld ?_
          try simp only [Act.put, List.setIfInBounds_toArray, List.set_cons_zero, List.set_cons_succ]
          refine wpAnyH_take (i := 5) (oi := { dst := some 22, op := Op.move (Operand.tmp 5), type := 3, pos := "ref.go:53", after := #[], guard := none }) (v := .int .i64 k) rfl (by kernel_rfl) (by kernel_rfl) (by kernel_rfl) (fun _ _ _ h => h) (Or.inl ⟨by rfl, by intro W hSw; go_simp⟩) hHeld ?_
          try simp only [Act.put, List.setIfInBounds_toArray, List.set_cons_zero, List.set_cons_succ]
          refine wpAnyH_take (i := 6) (oi := { dst := some 23, op := Op.indexAddr 29 (Operand.tmp 21) (Operand.tmp 22), type := 0, pos := "ref.go:53", after := #[{ on := 4, ground := Ground.data }, { on := 5, ground := Ground.data }], guard := none }) (v := .pointer (some ⟨b2, o2 + k, none⟩)) rfl (by kernel_rfl) (by kernel_rfl) (by kernel_rfl) (fun _ _ _ h => h) (Or.inl ⟨by rfl, by intro W hSw; go_simp⟩) hHeld ?_
          try simp only [Act.put, List.setIfInBounds_toArray, List.set_cons_zero, List.set_cons_succ]
          refine wpAnyH_take (i := 7) (oi := { dst := some 24, op := Op.load 9 (Operand.tmp 23), type := 9, pos := "ref.go:53", after := #[{ on := 6, ground := Ground.data }], guard := none }) (v := .string s) rfl (by kernel_rfl) (by kernel_rfl) (by kernel_rfl) (fun _ _ _ h => h) (Or.inl ⟨by rfl, by intro W hSw; have h1 := hSw.2; go_simp⟩) hHeld ?_
          try simp only [Act.put, List.setIfInBounds_toArray, List.set_cons_zero, List.set_cons_succ]
          refine wpAnyH_take (i := 8) (oi := { dst := some 25, op := Op.binOp BinOp.neq 9 (Operand.tmp 20) (Operand.tmp 24) 9, type := 4, pos := "ref.go:53", after := #[{ on := 3, ground := Ground.data }, { on := 7, ground := Ground.data }], guard := none }) (v := .bool false) rfl (by kernel_rfl) (by kernel_rfl) (by kernel_rfl) (fun _ _ _ h => h) (Or.inl ⟨by rfl, by intro W hSw; go_simp⟩) hHeld ?_
          try simp only [Act.put, List.setIfInBounds_toArray, List.set_cons_zero, List.set_cons_succ]
          refine wpAnyH_done (by kernel_rfl) ?_ _
          go_wp2
          go_roundw
          case rel => exact ⟨k + 1, by omega, by go_num, HN, HW2⟩
          case measure => simp [intOf]; omega
        · have HN : Hid (decide (A = B) = false) := by
            show _ = _
            rw [decide_eq_false_iff_not]
            rintro rfl
            exact hst (HSA.out.symm.trans HTB.out)
          have hne := text_ne hst
          go_wp2
          refine wp_region_held_drew (S := (fun V => V.cell? ⟨b1, o1 + k, none⟩ = some (.string s) ∧ V.cell? ⟨b2, o2 + k, none⟩ = some (.string t))) (by kernel_rfl) ⟨hc1, hc2⟩ (fun hHeld => ?_)
          refine wpAnyH_take (i := 0) (oi := { dst := some 17, op := Op.move (Operand.tmp 0), type := 29, pos := "ref.go:53", after := #[], guard := none }) (v := .slice (some ⟨b1, o1, none⟩) la ca) rfl (by kernel_rfl) (by kernel_rfl) (by kernel_rfl) (fun _ _ _ h => h) (Or.inl ⟨by rfl, by intro W hSw; go_simp⟩) hHeld ?_
          try simp only [Act.put, List.setIfInBounds_toArray, List.set_cons_zero, List.set_cons_succ]
          refine wpAnyH_take (i := 1) (oi := { dst := some 18, op := Op.move (Operand.tmp 5), type := 3, pos := "ref.go:53", after := #[], guard := none }) (v := .int .i64 k) rfl (by kernel_rfl) (by kernel_rfl) (by kernel_rfl) (fun _ _ _ h => h) (Or.inl ⟨by rfl, by intro W hSw; go_simp⟩) hHeld ?_
          try simp only [Act.put, List.setIfInBounds_toArray, List.set_cons_zero, List.set_cons_succ]
          refine wpAnyH_take (i := 2) (oi := { dst := some 19, op := Op.indexAddr 29 (Operand.tmp 17) (Operand.tmp 18), type := 0, pos := "ref.go:53", after := #[{ on := 0, ground := Ground.data }, { on := 1, ground := Ground.data }], guard := none }) (v := .pointer (some ⟨b1, o1 + k, none⟩)) rfl (by kernel_rfl) (by kernel_rfl) (by kernel_rfl) (fun _ _ _ h => h) (Or.inl ⟨by rfl, by intro W hSw; go_simp⟩) hHeld ?_
          try simp only [Act.put, List.setIfInBounds_toArray, List.set_cons_zero, List.set_cons_succ]
          refine wpAnyH_take (i := 3) (oi := { dst := some 20, op := Op.load 9 (Operand.tmp 19), type := 9, pos := "ref.go:53", after := #[{ on := 2, ground := Ground.data }], guard := none }) (v := .string s) rfl (by kernel_rfl) (by kernel_rfl) (by kernel_rfl) (fun _ _ _ h => h) (Or.inl ⟨by rfl, by intro W hSw; have h1 := hSw.1; go_simp⟩) hHeld ?_
          try simp only [Act.put, List.setIfInBounds_toArray, List.set_cons_zero, List.set_cons_succ]
          refine wpAnyH_take (i := 4) (oi := { dst := some 21, op := Op.move (Operand.tmp 1), type := 29, pos := "ref.go:53", after := #[], guard := none }) (v := .slice (some ⟨b2, o2, none⟩) la cb) rfl (by kernel_rfl) (by kernel_rfl) (by kernel_rfl) (fun _ _ _ h => h) (Or.inl ⟨by rfl, by intro W hSw; go_simp⟩) hHeld ?_
          try simp only [Act.put, List.setIfInBounds_toArray, List.set_cons_zero, List.set_cons_succ]
          refine wpAnyH_take (i := 5) (oi := { dst := some 22, op := Op.move (Operand.tmp 5), type := 3, pos := "ref.go:53", after := #[], guard := none }) (v := .int .i64 k) rfl (by kernel_rfl) (by kernel_rfl) (by kernel_rfl) (fun _ _ _ h => h) (Or.inl ⟨by rfl, by intro W hSw; go_simp⟩) hHeld ?_
          try simp only [Act.put, List.setIfInBounds_toArray, List.set_cons_zero, List.set_cons_succ]
          refine wpAnyH_take (i := 6) (oi := { dst := some 23, op := Op.indexAddr 29 (Operand.tmp 21) (Operand.tmp 22), type := 0, pos := "ref.go:53", after := #[{ on := 4, ground := Ground.data }, { on := 5, ground := Ground.data }], guard := none }) (v := .pointer (some ⟨b2, o2 + k, none⟩)) rfl (by kernel_rfl) (by kernel_rfl) (by kernel_rfl) (fun _ _ _ h => h) (Or.inl ⟨by rfl, by intro W hSw; go_simp⟩) hHeld ?_
          try simp only [Act.put, List.setIfInBounds_toArray, List.set_cons_zero, List.set_cons_succ]
          refine wpAnyH_take (i := 7) (oi := { dst := some 24, op := Op.load 9 (Operand.tmp 23), type := 9, pos := "ref.go:53", after := #[{ on := 6, ground := Ground.data }], guard := none }) (v := .string t) rfl (by kernel_rfl) (by kernel_rfl) (by kernel_rfl) (fun _ _ _ h => h) (Or.inl ⟨by rfl, by intro W hSw; have h1 := hSw.2; go_simp⟩) hHeld ?_
          try simp only [Act.put, List.setIfInBounds_toArray, List.set_cons_zero, List.set_cons_succ]
          refine wpAnyH_take (i := 8) (oi := { dst := some 25, op := Op.binOp BinOp.neq 9 (Operand.tmp 20) (Operand.tmp 24) 9, type := 4, pos := "ref.go:53", after := #[{ on := 3, ground := Ground.data }, { on := 7, ground := Ground.data }], guard := none }) (v := .bool true) rfl (by kernel_rfl) (by kernel_rfl) (by kernel_rfl) (fun _ _ _ h => h) (Or.inl ⟨by rfl, by intro W hSw; go_simp⟩) hHeld ?_
          try simp only [Act.put, List.setIfInBounds_toArray, List.set_cons_zero, List.set_cons_succ]
          refine wpAnyH_done (by kernel_rfl) ?_ _
          go_wp2
          go_ret
          exact ⟨by rw [HN.out]; rfl, HW2.out⟩
      · obtain rfl : la = k := by omega
        have hd : decide ((la : Int) < (la : Int)) = false := by rw [decide_eq_false_iff_not]; omega
        have HN : Hid (decide (A = B) = true) := by
          show _ = _
          rw [decide_eq_true_eq]
          have := HE.out
          rwa [List.take_of_length_le (by rw [HLA.out]; omega), List.take_of_length_le (by rw [HLB.out]; omega)] at this
        go_wp2
        go_ret
        exact ⟨by rw [HN.out]; rfl, HW.out⟩
  · have hd0 : ((la : Int) != (lb : Int)) = true := bne_iff_ne.2 (by omega)
    have HN : Hid (decide (A = B) = false) := by
      show _ = _
      rw [decide_eq_false_iff_not]
      rintro rfl
      exact he (HLA.out.symm.trans HLB.out)
    go_enter Tryd.func27, Tryd.ntmps27
    go_wp2
    go_ret
    exact ⟨by rw [HN.out]; rfl, Below.refl _ _⟩
end Go.Proofs.YtdnnhmihigdnkaaDoor
