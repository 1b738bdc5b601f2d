/- Texts of our own that the row of KeepReads leans on, part 29. -/
import Derived.Test.YtjpmmbmhkpgjcaaKeepReadsJ10
import Derived.Test.YtjpmmbmhkpgjcaaKeepReadsJ17
import Derived.Test.YtjpmmbmhkpgjcaaKeepReadsJ19
import Derived.Test.YtjpmmbmhkpgjcaaKeepReadsJ22
import Derived.Test.YtjpmmbmhkpgjcaaKeepReadsJ27
import Derived.Test.YtjpmmbmhkpgjcaaKeepReadsJ28

/- The statements' user, laid and folds. -/
namespace Go.Proofs.Ytjpmmbmhkpgjcaa
open Go.RowKit Nums Sums
set_option linter.unusedVariables false
set_option linter.unusedSimpArgs false
set_option maxRecDepth 100000
def enV (x : EnT) : Array Value := (ecells x).toArray
def uI (p s : Int) : ItT := ⟨p, ⟨1, 1, s, ByteArray.empty, zeroS, zeroC⟩⟩
theorem uI_ok (p s : Int) : OkE (uI p s).e := ⟨rfl, rfl, rfl⟩
theorem uI_in (p s : Int) (hp : In64 p) (hs : In64 s) : InI (uI p s) := ⟨hp, by show In64 1; unfold In64; decide, by show In64 1; unfold In64; decide, hs, by show 0 ≤ 100000; omega, zeroS_in, zeroC_in⟩
theorem builtUE (p s : Int) : Try.prog.built 38 [(0, .int .i64 1), (1, .int .i64 1), (2, .int .i64 s)] = some (enV (uI p s).e) := by kernel_rfl
theorem builtUI15 (p s : Int) : Try.prog.built 40 [(0, .int .i64 p), (1, .agg (enV (uI p s).e))] = some (itA (uI p s)) := by kernel_rfl
set_option maxHeartbeats 4000000 in
theorem userK_any (p s : Int) (w : World) : Calls Try.prog 51 #[.int .i64 p, .int .i64 s] w fun e w' => e = .returned (.agg (itA (uI p s))) ∧ Below w.heap.size w w' := by
  have FI : Hid (Fit Try.prog 40 (itA (uI p s))) := itA_fit _ (uI_ok p s)
  have H := hidk (Sep.start Try.prog w)
  go_enter Try.func51, Try.ntmps51
  go_wp2_with (first
    | ((with_reducible show wpList _ _ _ (⟨_, .alloc _, _, _, _, _⟩ :: _) _ _); refine newS (by rfl) (by kernel_rfl) H ?_; clear H; intro gq W hq H; clear hq; try simp only [Act.put, List.setIfInBounds_toArray, List.set_cons_zero, List.set_cons_succ])
    | ((with_reducible show wpList _ _ _ (⟨_, .build _ _, _, _, _, _⟩ :: _) _ _); refine bldS (by rfl) (by with_reducible exact builtUE p s) (by rfl) ?_; try simp only [Act.put, List.setIfInBounds_toArray, List.set_cons_zero, List.set_cons_succ])
      | ((with_reducible show wpList _ _ _ (⟨_, .build _ _, _, _, _, _⟩ :: _) _ _); refine bldS (by rfl) (by with_reducible exact builtUI15 p s) (by rfl) ?_; try simp only [Act.put, List.setIfInBounds_toArray, List.set_cons_zero, List.set_cons_succ])
    | ((with_reducible show wpList _ _ _ (⟨_, .store _ _ _, _, _, _, _⟩ :: _) _ _); refine setS (by rfl) (by rfl) (by rfl) H (by assumption) (by repeat first | exact uH .. | refine uT _ ?_) ?_; clear H; intro W H; try simp only [Act.put, List.setIfInBounds_toArray, List.set_cons_zero, List.set_cons_succ])
    | fail)

  refine bodyPost_ret (resS1 rfl rfl H (by repeat constructor) (by kernel_rfl)) rfl ?_
  exact ⟨rfl, H.out.b⟩
def laidR (p s : Int) : ReV := { zeroRv with k := 2, x := uI p s }
set_option maxHeartbeats 4000000 in
theorem laidK_any (p s : Int) (w : World) : Calls Try.prog 33 #[.int .i64 p, .int .i64 s] w fun e w' => e = .returned (.agg (reA (laidR p s))) ∧ Below w.heap.size w w' := by
  have FI : Hid (Fit Try.prog 42 (reA (laidR p s))) := reA_fit _ ⟨uI_ok p s, rfl⟩
  have W1 : Hid (∀ W, Calls Try.prog 51 #[.int .i64 p, .int .i64 s] W fun e w' => e = .returned (.agg (itA (uI p s))) ∧ Below W.heap.size W w') := fun W => userK_any p s W
  have B1 : Hid (Try.prog.built 42 [(0, .int .i64 2), (3, .agg (itA (uI p s)))] = some (reA (laidR p s))) := builtR_kx 2 _ (uI_ok p s)
  have H := hidk (Sep.start Try.prog w)
  go_enter Try.func33, Try.ntmps33
  go_wp2_with (first
    | ((with_reducible show wpList _ _ _ (⟨_, .alloc _, _, _, _, _⟩ :: _) _ _); refine newS (by rfl) (by kernel_rfl) H ?_; clear H; intro gq W hq H; clear hq; try simp only [Act.put, List.setIfInBounds_toArray, List.set_cons_zero, List.set_cons_succ])
    | ((with_reducible refine (W1.out _).mono ?_); rintro _ W ⟨rfl, hb⟩; replace H := hidk (H.out.call hb); clear hb; try simp only [Act.put, List.setIfInBounds_toArray, List.set_cons_zero, List.set_cons_succ])
    | ((with_reducible show wpList _ _ _ (⟨_, .build _ _, _, _, _, _⟩ :: _) _ _); refine bldS (by rfl) (by with_reducible exact B1.out) (by rfl) ?_; try simp only [Act.put, List.setIfInBounds_toArray, List.set_cons_zero, List.set_cons_succ])
    | ((with_reducible show wpList _ _ _ (⟨_, .store _ _ _, _, _, _, _⟩ :: _) _ _); refine setS (by rfl) (by rfl) (by rfl) H (by assumption) (by repeat first | exact uH .. | refine uT _ ?_) ?_; clear H; intro W H; try simp only [Act.put, List.setIfInBounds_toArray, List.set_cons_zero, List.set_cons_succ])
    | fail)

  refine bodyPost_ret (resS1 rfl rfl H (by repeat constructor) (by kernel_rfl)) rfl ?_
  exact ⟨rfl, H.out.b⟩
def fA : KeT := ⟨1, 1, [uI 1 1], []⟩
def fB : KeT := ⟨3, 1, [uI 1 1], []⟩
def rKE (k e : Int) : ReV := { zeroRv with k := k, e := e }
theorem fE2 : kpE fA (rKE 1 3).t = 0 := by decide +kernel
theorem fO2 : kpO fA (rKE 1 3).t = fB := (kpE_ok fE2).2.2.2.2.trans rfl
theorem in64_s {z : Int} (h0 : 0 ≤ z) (h1 : z ≤ 1000) : In64 z := by unfold In64; omega
theorem laidR_in (w : World) (p s : Int) (hp : In64 p) (hs : In64 s) : RIn w (laidR p s) := rin_kx w 2 _ (in64_s (by decide) (by decide)) (uI_in p s hp hs)
end Go.Proofs.Ytjpmmbmhkpgjcaa

/- Small pieces of a record's text: the fields of numbers and items, and back; bytes and fields behind those of one's own. -/
namespace Go.Proofs.Ytjpmmbmhkpgjcaa
open Go.RowKit Nums Sums
set_option linter.unusedVariables false
set_option linter.unusedSimpArgs false
set_option maxRecDepth 100000

section
variable {P : Program} {w0 w : World} {L : List Vr} {M : List (Nat × Obj)} {ops : Array Oper} {rest : List Oper} {a : Act} {Q : Exit → Act → World → Prop} {d : Option Tmp} {tp : TypeId} {ps : String} {af : Array Edge} {gd : Option (Nat × Bool)}
/-- A conversion, by its run. -/
theorem cvS {s t : TypeId} {x : Operand} {v r : Value} {w' : World} (hw : Region.wanted ⟨d, .convert s t x, tp, ps, af, gd⟩ (yielded ops a.tmps) = true) (hx : a.eval x = v) (hr : (Go.convert s t v).run P w = .ok r w')
    (h : wpList P ops Q rest (a.put d r) w') : wpList P ops Q (⟨d, .convert s t x, tp, ps, af, gd⟩ :: rest) a w :=
  BigFrame.wpList_want hw fun K hK => by
    unfold Oper.wp execOp
    simp only [hx, Sem.run_bind, hr, Result.andThen_ok]
    exact hK _ _ h
/-- The rest of a slice, by its run. -/
theorem slS {t : TypeId} {x lo : Operand} {v vl r : Value} (hw : Region.wanted ⟨d, .slice t x (some lo) none none, tp, ps, af, gd⟩ (yielded ops a.tmps) = true) (hx : a.eval x = v) (hl : a.eval lo = vl) (hr : (Instr.sliceAt t v (some vl) none none).run P w = .ok r w)
    (h : wpList P ops Q rest (a.put d r) w) : wpList P ops Q (⟨d, .slice t x (some lo) none none, tp, ps, af, gd⟩ :: rest) a w :=
  BigFrame.wpList_want hw fun K hK => by
    unfold Oper.wp execOp
    simp only [Option.map_some, Option.map_none, hx, hl, Sem.run_bind, hr, Result.andThen_ok]
    exact hK _ _ h
/-- '[]byte(s)': a new row that reads s. -/
theorem text_row (w : World) (src dst e : TypeId) (s : ByteArray) (hs : P.underlying src = some .string) (hd : P.underlying dst = some (.slice e)) (he : P.underlying e = some (.int .u8)) (hl : s.size ≤ maxLen) :
    ∃ c o w', (Go.convert src dst (.string s)).run P w = .ok (.slice (some ⟨w.heap.size, 0, none⟩) s.size c) w' ∧ w'.heap[w.heap.size]? = some o ∧ Below w.heap.size w w' ∧ ∀ W : World, W.heap[w.heap.size]? = some o → Reads W (some ⟨w.heap.size, 0, none⟩) s.size c s.data.toList := by
  have hr := run_bytes_of_string (P := P) w src dst e s hs hd he
  obtain ⟨c, hc⟩ : ∃ c, grownCap w s.size 0 e = c := ⟨_, rfl⟩
  have h1 : s.size ≤ c := by rw [← hc]; exact grownCap_ge w s.size 0 e
  have h2 : c ≤ maxLen := by rw [← hc]; exact grownCap_le_maxLen w s.size 0 e hl
  rw [hc] at hr
  obtain ⟨C, hC⟩ : ∃ C, bytesRow s c = C := ⟨_, rfl⟩
  rw [hC] at hr
  refine ⟨c, .cells C e (C.size, C.size + 1), _, hr, ?_, (Below.refl _ _).drew.alloc (Nat.le_refl _) _, fun W hn => ⟨Array.length_toList, h1, by unfold maxLen at h2; omega, .inr (.inr ⟨w.heap.size, 0, rfl, heap_lt hn, fun i hi => ?_⟩)⟩⟩
  · show (w.heap.push _)[w.heap.size]? = _
    simp
  · have hi' : i < s.data.size := by simpa using hi
    simp only [World.cell?, hn, Nat.zero_add]
    rw [← hC]
    unfold bytesRow
    rw [Array.getElem?_append_left (by simpa using hi')]
    simp
    exact ⟨s.data[i], Array.getElem?_eq_getElem hi', rfl⟩
theorem txS {src dst e : TypeId} {x : Operand} {s : ByteArray} (hw : Region.wanted ⟨d, .convert src dst x, tp, ps, af, gd⟩ (yielded ops a.tmps) = true) (hx : a.eval x = .string s) (hs : P.underlying src = some .string) (hd : P.underlying dst = some (.slice e)) (he : P.underlying e = some (.int .u8)) (hl : s.size ≤ maxLen) (H : Hid (Sep P w0 w L M))
    (h : ∀ g c w' o, Hid (∀ W, Has W [(g, o)] → Reads W (some ⟨g, 0, none⟩) s.size c s.data.toList) → Hid (Sep P w0 w' L ((g, o) :: M)) → wpList P ops Q rest (a.put d (.slice (some ⟨g, 0, none⟩) s.size c)) w') : wpList P ops Q (⟨d, .convert src dst x, tp, ps, af, gd⟩ :: rest) a w := by
  obtain ⟨c, o, w', hr, ho, hb, hR⟩ := text_row (P := P) w src dst e s hs hd he hl
  exact cvS hw hx hr (h _ c w' o (fun W hW => hR W (hW _ (List.mem_cons_self ..))) (H.out.row hb ho (Nat.le_refl _)))
end
/-- Where the rest of bytes lies. -/
def subK (a : Option Addr) (cap lo : Nat) : Option Addr := if cap = lo then a else a.map (·.add lo)
theorem restK (W : World) (a : Option Addr) (len cap lo : Nat) (h : lo ≤ len) (hc : len ≤ cap) : (Instr.sliceAt 61 (.slice a len cap) (some (.int .i64 lo)) none none).run Try.prog W = .ok (.slice (subK a cap lo) (len - lo) (cap - lo)) W := by
  have hz : ∀ w, (sizeOf 5).run Try.prog w = .ok 1 w := fun w => by
    have h : (Try.prog.info? 5).map (·.size) = some 1 := by kernel_rfl
    cases hq : Try.prog.info? 5 with
    | none => rw [hq] at h; cases h
    | some i =>
      rw [hq] at h
      simp only [Option.map_some, Option.some.injEq] at h
      simp [sizeOf, typeInfo, hq, h]
  simp [Instr.sliceAt, Instr.slice, Instr.sliceBounds, Instr.sliceBound, asIntOf, run_underlying Try.underlying61, hz, h, hc, subK]
theorem Reads.restK {W : World} {a : Option Addr} {len cap : Nat} {l : List UInt8} (h : Reads W a len cap l) (lo : Nat) (h2 : lo ≤ len) : Reads W (subK a cap lo) (len - lo) (cap - lo) (l.drop lo) := by
  obtain ⟨e1, e2, e3, e4⟩ := h
  refine ⟨by rw [List.length_drop]; omega, by omega, by omega, ?_⟩
  unfold subK
  rcases e4 with ⟨rfl, h0⟩ | ⟨ad, rfl, h0⟩ | ⟨b, off, rfl, hlt, hc⟩
  · exact .inl ⟨by split <;> rfl, by omega⟩
  · refine .inr (.inl ?_)
    split
    · exact ⟨ad, rfl, by omega⟩
    · exact ⟨ad.add lo, rfl, by omega⟩
  · by_cases hcl : cap = lo
    · rw [if_pos hcl]; exact .inr (.inl ⟨_, rfl, by omega⟩)
    · rw [if_neg hcl]
      refine .inr (.inr ⟨b, off + lo, by show some (Addr.add ⟨b, off, none⟩ lo) = some _; rw [add_plain], hlt, fun i hi => ?_⟩)
      have hi' : lo + i < l.length := by rw [List.length_drop] at hi; omega
      have := hc (lo + i) hi'
      rw [← Nat.add_assoc] at this
      rw [this]
      simp
def fdA (t : Int) (s : ByteArray) : Array Value := #[.int .i64 t, .string s]
theorem fdA_fit (t : Int) (s : ByteArray) : Fit Try.prog 85 (fdA t s) := ⟨by kernel_rfl, by unfold fdA; simp [Value.oneCell']⟩
theorem fdA_0 (t : Int) (s : ByteArray) : (fdA t s)[0]? = some (.int .i64 t) := rfl
theorem fdA_1 (t : Int) (s : ByteArray) : (fdA t s)[1]? = some (.string s) := rfl
theorem builtFd (t : Int) (s : ByteArray) : Try.prog.built 85 [(0, .int .i64 t), (1, .string s)] = some (fdA t s) := by kernel_rfl
set_option maxHeartbeats 8000000 in
theorem ktNum (t n : Int) (w : World) : Calls Try.prog 47 #[.int .i64 t, .int .i64 n] w fun e w' => e = .returned (.agg (fdA t (nOf n))) ∧ Below w.heap.size w w' := by
  have FX := hidk (fdA_fit t (nOf n))
  have N1 : Hid (∀ W, Calls Try.prog 74 #[.int .i64 n] W fun e w' => e = .returned (.tuple #[.string (nOf n), .int .i64 (neOf n)]) ∧ Below W.heap.size W w') := fun W => number_any n W
  have H := hidk (Sep.start Try.prog w)
  go_enter Try.func47, Try.ntmps47
  go_wp2_with (first
    | ((with_reducible show wpList _ _ _ (⟨_, .alloc _, _, _, _, _⟩ :: _) _ _); refine newS (by rfl) (by kernel_rfl) H ?_; clear H; intro gq W hq H; clear hq; try simp only [Act.put, List.setIfInBounds_toArray, List.set_cons_zero, List.set_cons_succ])
    | ((with_reducible show wpList _ _ _ (⟨_, .store _ _ _, _, _, _, _⟩ :: _) _ _); refine setS (by rfl) (by rfl) (by rfl) H (by assumption) (by repeat first | apply uH | apply uT) ?_; clear H; intro W H; try simp only [Act.put, List.setIfInBounds_toArray, List.set_cons_zero, List.set_cons_succ])
    | ((with_reducible refine (N1.out _).mono ?_); rintro _ W ⟨rfl, hb⟩; replace H := hidk (H.out.call hb); clear hb; try simp only [Act.put, List.setIfInBounds_toArray, List.set_cons_zero, List.set_cons_succ])
    | ((with_reducible show wpList _ _ _ (⟨_, .build _ _, _, _, _, _⟩ :: _) _ _); refine bldS (by rfl) (by with_reducible exact builtFd t (nOf n)) (by rfl) ?_; try simp only [Act.put, List.setIfInBounds_toArray, List.set_cons_zero, List.set_cons_succ])
    | fail)
  refine bodyPost_ret (resS1 rfl rfl H (by repeat constructor) (by kernel_rfl)) rfl ?_
  exact ⟨rfl, H.out.b⟩
set_option maxHeartbeats 8000000 in
theorem ktItm (E : EntryC) (t : Int) (x : ItT) (hx : InI x) (w : World) : Calls Try.prog 48 #[.int .i64 t, .agg (itA x)] w fun e w' => e = .returned (.agg (fdA t (bA (iB x)))) ∧ Below w.heap.size w w' := by
  have FX : Hid (Fit Try.prog 40 (itA x)) := itA_fit x hx.e.ok
  have FF := hidk (fdA_fit t (bA (iB x)))
  have P1 : Hid (∀ W, Calls Try.prog 75 #[.agg (itA x)] W fun e w' => BytesE (iB x) (iE x) e w' ∧ Below W.heap.size W w') := fun W => E.putI x hx W _ (hidk rfl)
  have H := hidk (Sep.start Try.prog w)
  clear hx E
  go_enter Try.func48, Try.ntmps48
  go_wp2_with (first
    | ((with_reducible show wpList _ _ _ (⟨_, .box _ _, _, _, _, _⟩ :: _) _ _); refine boxS (by rfl) (by rfl) H (by assumption) ?_; clear H; intro gq W hq H; clear hq; try simp only [Act.put, List.setIfInBounds_toArray, List.set_cons_zero, List.set_cons_succ])
    | ((with_reducible show wpList _ _ _ (⟨_, .alloc _, _, _, _, _⟩ :: _) _ _); refine newS (by rfl) (by kernel_rfl) H ?_; clear H; intro gq W hq H; clear hq; try simp only [Act.put, List.setIfInBounds_toArray, List.set_cons_zero, List.set_cons_succ])
    | ((with_reducible show wpList _ _ _ (⟨_, .store _ _ _, _, _, _, _⟩ :: _) _ _); refine setS (by rfl) (by rfl) (by rfl) H (by assumption) (by repeat first | apply uH | apply uT) ?_; clear H; intro W H; try simp only [Act.put, List.setIfInBounds_toArray, List.set_cons_zero, List.set_cons_succ])
    | ((with_reducible show wpList _ _ _ (⟨_, .load _ _, _, _, _, _⟩ :: _) _ _); refine rdS (by rfl) (by rfl) (by decide +kernel) H (by repeat constructor) ?_; try simp only [Act.put, List.setIfInBounds_toArray, List.set_cons_zero, List.set_cons_succ])
    | ((with_reducible refine (P1.out _).mono ?_); rintro _ W ⟨⟨pa, pc, rfl, hrd⟩, hb⟩; replace H := hidk (H.out.call hb); clear hb; have hcv := conv_reads hrd; try simp only [Act.put, List.setIfInBounds_toArray, List.set_cons_zero, List.set_cons_succ])
    | ((with_reducible show wpList _ _ _ (⟨_, .convert _ _ _, _, _, _, _⟩ :: _) _ _); refine cvS (by rfl) (by rfl) (hcv) ?_; try simp only [Act.put, List.setIfInBounds_toArray, List.set_cons_zero, List.set_cons_succ])
    | ((with_reducible show wpList _ _ _ (⟨_, .build _ _, _, _, _, _⟩ :: _) _ _); refine bldS (by rfl) (by with_reducible exact builtFd t (bA (iB x))) (by rfl) ?_; try simp only [Act.put, List.setIfInBounds_toArray, List.set_cons_zero, List.set_cons_succ])
    | fail)
  refine bodyPost_ret (resS1 rfl rfl H (by repeat constructor) (by kernel_rfl)) rfl ?_
  exact ⟨rfl, H.out.b⟩
set_option maxHeartbeats 8000000 in
theorem ktVal (t : Int) (s : ByteArray) (hs : s.size ≤ maxLen) (w : World) : Calls Try.prog 78 #[.agg (fdA t s)] w fun e w' => e = .returned (.int .i64 (vOf s.data.toList)) ∧ Below w.heap.size w w' := by
  have FX := hidk (fdA_fit t s)
  have V1 : Hid (∀ W, Calls Try.prog 93 #[.string s] W fun e w' => e = .returned (.tuple #[.int .i64 (vOf s.data.toList), .int .i64 (eOf s.data.toList)]) ∧ Below W.heap.size W w') := fun W => (value_any s W hs).mono fun e w' ⟨he, hw⟩ => ⟨he, by subst hw; exact Below.refl _ _⟩
  have H := hidk (Sep.start Try.prog w)
  go_enter Try.func78, Try.ntmps78
  go_wp2_with (first
    | ((with_reducible show wpList _ _ _ (⟨_, .box _ _, _, _, _, _⟩ :: _) _ _); refine boxS (by rfl) (by rfl) H (by assumption) ?_; clear H; intro gq W hq H; clear hq; try simp only [Act.put, List.setIfInBounds_toArray, List.set_cons_zero, List.set_cons_succ])
    | ((with_reducible refine (V1.out _).mono ?_); rintro _ W ⟨rfl, hb⟩; replace H := hidk (H.out.call hb); clear hb; try simp only [Act.put, List.setIfInBounds_toArray, List.set_cons_zero, List.set_cons_succ])
    | ((with_reducible show wpList _ _ _ (⟨_, .load _ _, _, _, _, _⟩ :: _) _ _); refine fldS (by rfl) (by rfl) (by decide +kernel) H (by repeat constructor) (by first | exact fdA_0 _ _ | exact fdA_1 _ _) ?_; try simp only [Act.put, List.setIfInBounds_toArray, List.set_cons_zero, List.set_cons_succ])
    | fail)
  go_ret
  exact ⟨rfl, H.out.b⟩
set_option maxHeartbeats 8000000 in
theorem ktIt (E : EntryC) (t : Int) (s : ByteArray) (hs : s.size ≤ 100000) (w : World) : Calls Try.prog 79 #[.agg (fdA t s)] w fun e w' => e = .returned (.agg (itA (getIO s.data.toList))) ∧ Below w.heap.size w w' := by
  have FX := hidk (fdA_fit t s)
  have HTL : Hid (s.size ≤ maxLen) := by show _ ≤ _; unfold maxLen; omega
  have FI := hidk (itA_fit (getIO s.data.toList) (getIO_in _).e.ok)
  have G1 : Hid (∀ W a c, Reads W a s.size c s.data.toList → Calls Try.prog 94 #[.slice a s.size c] W fun e w' => e = .returned (.tuple #[.agg (itA (getIO s.data.toList)), .int .i64 (getIE s.data.toList)]) ∧ Below W.heap.size W w') := fun W a c h => E.getI a _ c _ W h hs _ (hidk rfl)
  have H := hidk (Sep.start Try.prog w)
  clear E
  go_enter Try.func79, Try.ntmps79
  go_wp2_with (first
    | ((with_reducible show wpList _ _ _ (⟨_, .box _ _, _, _, _, _⟩ :: _) _ _); refine boxS (by rfl) (by rfl) H (by assumption) ?_; clear H; intro gq W hq H; clear hq; try simp only [Act.put, List.setIfInBounds_toArray, List.set_cons_zero, List.set_cons_succ])
    | ((with_reducible show wpList _ _ _ (⟨_, .alloc _, _, _, _, _⟩ :: _) _ _); refine newS (by rfl) (by kernel_rfl) H ?_; clear H; intro gq W hq H; clear hq; try simp only [Act.put, List.setIfInBounds_toArray, List.set_cons_zero, List.set_cons_succ])
    | ((with_reducible show wpList _ _ _ (⟨_, .store _ _ _, _, _, _, _⟩ :: _) _ _); refine setS (by rfl) (by rfl) (by rfl) H (by assumption) (by repeat first | apply uH | apply uT) ?_; clear H; intro W H; try simp only [Act.put, List.setIfInBounds_toArray, List.set_cons_zero, List.set_cons_succ])
    | ((with_reducible refine (G1.out _ _ _ (HTX.out _ H.out.has)).mono ?_); rintro _ W ⟨rfl, hb⟩; replace H := hidk (H.out.call hb); clear hb; try simp only [Act.put, List.setIfInBounds_toArray, List.set_cons_zero, List.set_cons_succ])
    | ((with_reducible show wpList _ _ _ (⟨_, .convert _ _ _, _, _, _, _⟩ :: _) _ _); refine txS (by rfl) (by rfl) Try.underlying9 Try.underlying61 Try.underlying5 HTL.out H ?_; clear H; intro gt ct W o HTX H; try simp only [Act.put, List.setIfInBounds_toArray, List.set_cons_zero, List.set_cons_succ])
    | ((with_reducible show wpList _ _ _ (⟨_, .load _ _, _, _, _, _⟩ :: _) _ _); refine rdS (by rfl) (by rfl) (by decide +kernel) H (by repeat constructor) ?_; try simp only [Act.put, List.setIfInBounds_toArray, List.set_cons_zero, List.set_cons_succ])
    | ((with_reducible show wpList _ _ _ (⟨_, .load _ _, _, _, _, _⟩ :: _) _ _); refine fldS (by rfl) (by rfl) (by decide +kernel) H (by repeat constructor) (by first | exact fdA_0 _ _ | exact fdA_1 _ _) ?_; try simp only [Act.put, List.setIfInBounds_toArray, List.set_cons_zero, List.set_cons_succ])
    | fail)
  refine bodyPost_ret (resS1 rfl rfl H (by repeat constructor) (by kernel_rfl)) rfl ?_
  exact ⟨rfl, H.out.b⟩
end Go.Proofs.Ytjpmmbmhkpgjcaa

/- Rows of bytes and of fields of one's own: what is put behind them; a literal of fields. -/
namespace Go.Proofs.Ytjpmmbmhkpgjcaa
open Go.RowKit Nums Sums
set_option linter.unusedVariables false
set_option linter.unusedSimpArgs false
set_option maxRecDepth 100000
/-- Bytes put behind those of a row of the call's own. -/
theorem app_bytes {w0 W : World} {L : List Vr} {A N M : List (Nat × Obj)} (H : Sep Try.prog w0 W L (A ++ (N ++ M))) {v : Value} {n : Nat} {l : List UInt8} (F : OwnIn v N ∧ ∀ W, Has W N → W.ownsRow w0.heap.size 5 1 v n (cellsOf l)) {b : Option Addr} {m d : Nat} {k : List UInt8} (hk : Reads W b m d k) (hn : n + m ≤ 100000000) :
    ∃ a2 c2 V N', (Builtin.append_ #[61, 61] 61 #[v, .slice b m d]).run Try.prog W = .ok (.slice a2 (n + m) c2) V ∧ Hid (Sep Try.prog w0 V L (A ++ (N' ++ M))) ∧ Hid (OwnIn (.slice a2 (n + m) c2) N' ∧ ∀ W, Has W N' → W.ownsRow w0.heap.size 5 1 (.slice a2 (n + m) c2) (n + m) (cellsOf (l ++ k))) := by
  obtain ⟨i0, hi, hz0, hz1, hz2⟩ := info_parts info5
  have ho := F.2 W H.has.r.l
  have shp : ∀ (v' : Value) (V : World) (xs : List Value), V.ownsRow w0.heap.size 5 1 v' (n + m) xs → ∃ a2 c2, v' = .slice a2 (n + m) c2 := fun v' V xs h => by
    rcases h.2 with ⟨rfl, h0⟩ | ⟨g, cap, cur, rfl, _⟩
    · exact ⟨none, 0, by rw [h0]⟩
    · exact ⟨_, _, rfl⟩
  obtain ⟨h1, h2, h3, ⟨rfl, h0⟩ | ⟨ad, rfl, h0⟩ | ⟨x, off, rfl, hlt, hc⟩⟩ := hk
  · obtain rfl : m = 0 := by omega
    subst h0
    obtain rfl : k = [] := List.eq_nil_of_length_eq_zero h1
    rw [List.append_nil]
    obtain ⟨a2, c2, rfl⟩ := shp v W _ (by simpa using ho)
    exact ⟨a2, c2, W, N, run_append_owned_none (P := Try.prog) W _ 61 61 5 i0 1 Try.underlying61 hi _ _ _ (by simpa using ho), H, F⟩
  · subst h0
    obtain rfl : k = [] := List.eq_nil_of_length_eq_zero h1
    obtain ⟨v', V, hr, ho', hg, hw⟩ := append_where (P := Try.prog) w0.heap.size 61 61 5 i0 (.int .u8 0) 1 1 Try.underlying61 hi hz0 hz1 hz2 rfl (by decide) v n _ ho ad 0 d [] rfl (by simp) (by simp) (by unfold maxLen; omega) (by omega) H.b.size
    obtain ⟨a2, c2, rfl⟩ := shp v' V _ ho'
    have ho2 : V.ownsRow w0.heap.size 5 1 (.slice a2 (n + 0) c2) (n + 0) (cellsOf (l ++ [])) := by simpa using ho'
    obtain ⟨N', q1, q2⟩ := H.app F.1 ho2 hg hw
    exact ⟨a2, c2, V, N', hr, q1, q2⟩
  · obtain ⟨v', V, hr, ho', hg, hw⟩ := append_where (P := Try.prog) w0.heap.size 61 61 5 i0 (.int .u8 0) 1 1 Try.underlying61 hi hz0 hz1 hz2 rfl (by decide) v n _ ho ⟨x, off, none⟩ m d (cellsOf k) (by rw [cellsOf_length, h1]; omega) (fun j u hj => by
      rw [add_plain]
      have hjl : j < k.length := by
        rcases Nat.lt_or_ge j k.length with h | h
        · exact h
        · rw [List.getElem?_eq_none (by rw [cellsOf_length]; exact h)] at hj; cases hj
      rw [hc j hjl]
      simpa [cellsOf, List.getElem?_eq_getElem hjl] using hj) (cellsOf_one k) (by unfold maxLen; omega) (by omega) H.b.size
    obtain ⟨a2, c2, rfl⟩ := shp v' V _ ho'
    rw [← cellsOf_append] at ho'
    obtain ⟨N', q1, q2⟩ := H.app F.1 ho' hg hw
    exact ⟨a2, c2, V, N', hr, q1, q2⟩
theorem fcells_oneK : ∀ (fs : List (Int × ByteArray)), ∀ v ∈ fcells fs, v.oneCell' = true
  | [], v, hv => by simp [fcells] at hv
  | f :: r, v, hv => by
    have e : fcells (f :: r) = [.int .i64 f.1, .string f.2] ++ fcells r := rfl
    rw [e] at hv
    simp only [List.mem_append, List.mem_cons, List.not_mem_nil, or_false] at hv
    rcases hv with (rfl | rfl) | hv
    · rfl
    · rfl
    · exact fcells_oneK r v hv
/-- A literal of fields. -/
theorem fill_fields (ds : List (List Value)) : ∀ (k : Nat) (cs : Array Value) (pre old : List Value), cs.toList = pre ++ old → pre.length = k * 2 → (∀ d ∈ ds, d.length = 2) → old.length = ds.length * 2 →
    Instr.fill (fun i => some (i * 2, 2)) cs ((ds.zipIdx k).map fun x => (x.2, Value.agg x.1.toArray)) = some (pre ++ ds.flatten).toArray := by
  induction ds with
  | nil =>
    intro k cs pre old h hp hd ho
    have : old = [] := List.eq_nil_of_length_eq_zero (by simpa using ho)
    subst this
    simp only [List.zipIdx_nil, List.map_nil, Instr.fill, List.flatten_nil, ← h]
  | cons d ds ih =>
    intro k cs pre old h hp hd ho
    have h32 := hd d (List.mem_cons_self ..)
    simp only [List.length_cons] at ho
    have hcs : cs.size = k * 2 + old.length := by rw [← Array.length_toList, h, List.length_append, hp]
    rw [List.zipIdx_cons, List.map_cons]
    unfold Instr.fill
    have hsz : (Value.agg d.toArray).cells.size = 2 := by show d.toArray.size = 2; simp [h32]
    simp only [hsz]
    rw [if_neg (by simp; omega)]
    refine (ih (k + 1) _ (pre ++ d) (old.drop 2) ?_ (by simp; omega) (fun x hx => hd x (List.mem_cons_of_mem _ hx)) (by simp; omega)).trans (by simp)
    have := fold_setD d 0 (k * 2) cs pre (old.take 2) (old.drop 2) (by rw [h, List.append_assoc, List.take_append_drop]) (by omega) (by simp; omega)
    rw [← this, ← Array.foldl_toList]
    congr 2
    simp [Value.cells]
def fdL (f : Int × ByteArray) : List Value := [.int .i64 f.1, .string f.2]
theorem fcells_flat : ∀ fs : List (Int × ByteArray), (fs.map fdL).flatten = fcells fs
  | [] => rfl
  | f :: r => by
    show fdL f ++ (r.map fdL).flatten = _
    rw [fcells_flat r]; rfl
theorem run_build_fields (w : World) (n : Nat) (fs : List (Int × ByteArray)) (hn : fs.length = n) (h1 : 0 < n) (h2 : n ≤ 100) (parts : Array (Nat × Value)) (hp : parts.toList = ((fs.map fdL).zipIdx 0).map fun x => (x.2, Value.agg x.1.toArray)) :
    (Instr.buildSlice 88 n parts).run Try.prog w = .ok (.slice (some ⟨w.heap.size, 0, none⟩) n n) (w.alloc (.cells (fcells fs).toArray 85)) := by
  obtain ⟨ie, hie, hz, hs, hy⟩ := info_parts info37
  refine run_buildSlice w 88 85 n parts _ ie _ Try.underlying88 hie hz (by rw [hs]; omega) (by rw [hs]; omega) ?_
  rw [hs, hp]
  generalize hcs : Array.map _ (Array.range (n * 2)) = cs
  have hcz : cs.size = n * 2 := by rw [← hcs]; simp
  rw [fill_fields (fs.map fdL) 0 cs [] cs.toList rfl rfl (fun d h => by
    obtain ⟨x, hx, rfl⟩ := List.mem_map.1 h
    rfl) (by simp [hcz, hn]), fcells_flat]
  rfl
/-- A literal of fields, as what pack.Lay takes. -/
theorem lay_lit (w W : World) (fs : List (Int × ByteArray)) (n : Nat) (hn : fs.length = n) (h2 : n ≤ 100) (hm : ∀ f ∈ fs, f.2.size ≤ maxLen) (h0 : layE 0 fs = 0) (w' : World) (hw : w' = W.alloc (.cells (fcells fs).toArray 85)) :
    Calls Try.prog 46 #[.slice (some ⟨W.heap.size, 0, none⟩) n n] w' fun e V => ∃ a c, e = .returned (.tuple #[.slice a (rowB fs).length c, .int .i64 0]) ∧ V.ownsRow w'.heap.size 5 1 (.slice a (rowB fs).length c) (rowB fs).length (cellsOf (rowB fs)) ∧ Below w'.heap.size w' V := by
  subst hw hn
  have hF := freads_lit W (fcells fs).toArray (0, 0) fs (by simp) (by omega) hm
  refine (lay_any _ _ _ fs _ (by rw [World.size_alloc]; exact hF) (by omega)).mono ?_
  rintro e V ⟨v, rfl, ho, hb⟩
  have hr : rowOf fs = rowB fs := by unfold rowOf; rw [if_pos h0]
  rw [hr] at ho
  obtain ⟨a, c, rfl, _⟩ := reads_own ho
  exact ⟨a, c, by rw [h0], ho, hb⟩
/-- One field put behind those of a row of the call's own: the literal, and the append. -/
theorem app_field {w0 W : World} {L : List Vr} {A N M : List (Nat × Obj)} (H : Sep Try.prog w0 W L (A ++ (N ++ M))) {v : Value} {n : Nat} {l : List (Int × ByteArray)} (F : OwnIn v N ∧ ∀ W, Has W N → W.ownsRow w0.heap.size 85 2 v n (fcells l)) (f : Int × ByteArray) (hn : n + 1 ≤ 100000000) :
    (Instr.buildSlice 88 1 #[(0, .agg (fdA f.1 f.2))]).run Try.prog W = .ok (.slice (some ⟨W.heap.size, 0, none⟩) 1 1) (W.alloc (.cells (fcells [f]).toArray 85)) ∧
    ∃ a2 c2 V N', (Builtin.append_ #[88, 88] 88 #[v, .slice (some ⟨W.heap.size, 0, none⟩) 1 1]).run Try.prog (W.alloc (.cells (fcells [f]).toArray 85)) = .ok (.slice a2 (n + 1) c2) V ∧ Hid (Sep Try.prog w0 V L (A ++ (N' ++ M))) ∧ Hid (OwnIn (.slice a2 (n + 1) c2) N' ∧ ∀ W, Has W N' → W.ownsRow w0.heap.size 85 2 (.slice a2 (n + 1) c2) (n + 1) (fcells (l ++ [f]))) := by
  refine ⟨run_build_fields W 1 [f] rfl (by omega) (by omega) _ rfl, ?_⟩
  obtain ⟨i0, hi, hz0, hz1, hz2⟩ := info_parts info37
  have H1 := H.call ((Below.refl W.heap.size W).alloc (Nat.le_refl _) (.cells (fcells [f]).toArray 85))
  have ho := F.2 _ H1.has.r.l
  have hcell : ∀ (j : Nat) (u : Value), (fcells [f])[j]? = some u → (W.alloc (.cells (fcells [f]).toArray 85)).cell? ((⟨W.heap.size, 0, none⟩ : Addr).add j) = some u := by
    intro j u hj
    rw [add_plain, Nat.zero_add, cell_of_row _ _ j _ 85 (0, 0) (heap_alloc_new W _)]
    simpa using hj
  obtain ⟨v', V, hr, ho', hg, hw⟩ := append_where (P := Try.prog) w0.heap.size 88 88 85 i0 _ 2 24 Try.underlying88 hi hz0 hz1 hz2 (by rfl) (by decide) v n _ ho ⟨W.heap.size, 0, none⟩ 1 1 (fcells [f]) (by rw [fcells_length]; rfl) hcell (fcells_oneK [f]) (by unfold maxLen; omega) (by omega) H1.b.size
  rw [← fcells_append] at ho'
  obtain ⟨a2, c2, rfl⟩ : ∃ a2 c2, v' = .slice a2 (n + 1) c2 := by
    rcases ho'.2 with ⟨rfl, h0⟩ | ⟨g, cap, cur, rfl, _⟩
    · omega
    · exact ⟨_, _, rfl⟩
  obtain ⟨N', h1, h2⟩ := H1.app F.1 ho' hg hw
  exact ⟨a2, c2, V, N', hr, h1, h2⟩
end Go.Proofs.Ytjpmmbmhkpgjcaa

/- What keep's fields answers. -/
namespace Go.Proofs.Ytjpmmbmhkpgjcaa
open Go.RowKit Nums Sums
set_option linter.unusedVariables false
set_option linter.unusedSimpArgs false
set_option maxRecDepth 100000
theorem flds_go {m : Nat} {zs : List UInt8} (h : gE zs = 0) : fldsK (m + 1) zs = ((gT zs : Int), (⟨(gD zs).toArray⟩ : ByteArray)) :: fldsK m (zs.drop (gN zs)) := by
  show (if gE zs = 0 then _ else _) = _
  rw [if_pos h]
theorem flds_stop : ∀ {m : Nat} {zs : List UInt8}, gE zs ≠ 0 → fldsK m zs = []
  | 0, _, _ => rfl
  | m + 1, zs, h => by
    show (if gE zs = 0 then _ else _) = _
    rw [if_neg h]
theorem gotK (zs : List UInt8) : gotten zs = .returned (.tuple #[.agg (fdA (gT zs) ⟨(gD zs).toArray⟩), .int .i64 (gN zs), .int .i64 (gE zs)]) := rfl
set_option maxHeartbeats 32000000 in
theorem ktFlds (s : ByteArray) (hs : s.size ≤ 100000) (w : World) : Calls Try.prog 53 #[.string s] w fun e w' => ∃ v, e = .returned v ∧ w'.ownsRow w.heap.size 85 2 v (fldsK 2005 s.data.toList).length (fcells (fldsK 2005 s.data.toList)) ∧ Below w.heap.size w w' := by
  have HTL : Hid (s.size ≤ maxLen) := by show _ ≤ _; unfold maxLen; omega
  have H := hidk (Sep.start Try.prog w)
  obtain ⟨bs, hbs⟩ : ∃ bs, s.data.toList = bs := ⟨_, rfl⟩
  obtain ⟨R, HR⟩ : ∃ R, Hid (fldsK 2005 bs = R) := ⟨_, hidk rfl⟩
  have HBS := hidk hbs
  rw [hbs, HR.out]
  clear hbs
  go_enter Try.func53, Try.ntmps53
  go_wp2_with (first
    | ((with_reducible show wpList _ _ _ (⟨_, .convert _ _ _, _, _, _, _⟩ :: _) _ _); refine txS (by rfl) (by rfl) Try.underlying9 Try.underlying61 Try.underlying5 HTL.out H ?_; clear H; intro gt ct W o HTX H; try simp only [Act.put, List.setIfInBounds_toArray, List.set_cons_zero, List.set_cons_succ])
    | fail)
  have HTX2 := HTX.out
  rw [HBS.out] at HTX2
  have HTX := hidk HTX2
  clear HTX2
  go_loopw [3, 4, 10] (fun lv rv iv wr => ∃ (k : Nat) (N : List (Nat × Obj)) (a : Option Addr) (len cap : Nat) (zs : List UInt8) (fs : List (Int × ByteArray)) (al : Option Addr) (cl : Nat), k ≤ 2005 ∧ iv = .int .i64 k ∧ rv = .slice a len cap ∧ lv = .slice al fs.length cl ∧ Hid (∀ V, Has V [(gt, o)] → Reads V a len cap zs) ∧ Hid (R = fs ++ fldsK (2005 - k) zs) ∧ Hid (fs.length ≤ k) ∧ Hid (Sep Try.prog w wr [] (N ++ [(gt, o)])) ∧ Hid (OwnIn (.slice al fs.length cl) N ∧ ∀ W, Has W N → W.ownsRow w.heap.size 85 2 (.slice al fs.length cl) fs.length (fcells fs))) (fun _ _ iv _ => 2005 - (intOf iv).toNat)
  case atStart => exact ⟨0, [], _, _, _, bs, [], none, 0, by omega, rfl, rfl, rfl, HTX, HR.out.symm, hidk (Nat.le_refl _), H, fun g hg => (by cases hg), fun W _ => World.ownsRow_nil _ _ _ _⟩
  case round =>
    obtain ⟨k, N, a, len, cap, zs, fs, al, cl, hk, rfl, rfl, rfl, HRD, HQ, HL, H, F⟩ := hrel
    by_cases hlt : k < 2005
    · have hd : decide ((k : Int) < (2005 : Int)) = true := by rw [decide_eq_true_eq]; omega
      have hw1 := wrap_int ((k : Int) + 1) (by omega) (by omega)
      have ln := (HRD.out _ H.out.has.r)
      by_cases he : gE zs = 0
      · obtain ⟨g1, g2, g3, g4, g5⟩ := gN_le he
        have hzl : gN zs ≤ len := by rw [← ln.1]; exact g2
        have hsl : Hid (∀ W, (Instr.sliceAt 61 (.slice a len cap) (some (.int .i64 (gN zs : Nat))) none none).run Try.prog W = .ok (.slice (subK a cap (gN zs)) (len - gN zs) (cap - gN zs)) W) := fun W => restK W a len cap _ hzl ln.2.1
        have HR2 : Hid (∀ V, Has V [(gt, o)] → Reads V (subK a cap (gN zs)) (len - gN zs) (cap - gN zs) (zs.drop (gN zs))) := fun V hV => (HRD.out V hV).restK _ hzl
        have HQ2 : Hid (R = (fs ++ [((gT zs : Int), (⟨(gD zs).toArray⟩ : ByteArray))]) ++ fldsK (2005 - (k + 1)) (zs.drop (gN zs))) := by
          show _ = _
          rw [HQ.out, show 2005 - k = (2005 - (k + 1)) + 1 by omega, flds_go he, List.append_assoc]
          rfl
        have HE : Hid (gE zs = 0) := he
        obtain ⟨t0, ht0⟩ : ∃ t : Int, (gT zs : Int) = t := ⟨_, rfl⟩
        obtain ⟨s0, hs0⟩ : ∃ t : ByteArray, ⟨(gD zs).toArray⟩ = t := ⟨_, rfl⟩
        obtain ⟨n0, hn0⟩ : ∃ n : Nat, gN zs = n := ⟨_, rfl⟩
        have GC : Hid (∀ W, Has W [(gt, o)] → Calls Try.prog 81 #[.slice a len cap] W fun e w' => e = .returned (.tuple #[.agg (fdA t0 s0), .int .i64 n0, .int .i64 0]) ∧ Below W.heap.size W w') := fun W hW => by
          have := get_any a len cap zs W (HRD.out W hW)
          rw [gotK, he, ht0, hs0, hn0] at this
          exact this
        rw [ht0, hs0] at HQ2
        rw [hn0] at hsl HR2 HQ2
        have FX := hidk (fdA_fit t0 s0)
        clear ht0 hs0 hn0 he g1 g2 g3 g4 g5 hzl ln HE HRD HQ
        go_wp2_with (first
          | ((with_reducible show wpList _ _ _ (⟨_, .alloc _, _, _, _, _⟩ :: _) _ _); refine newS (by rfl) (by kernel_rfl) H ?_; clear H; intro gq W hq H; clear hq; try simp only [Act.put, List.setIfInBounds_toArray, List.set_cons_zero, List.set_cons_succ])
          | ((with_reducible show wpList _ _ _ (⟨_, .store _ _ _, _, _, _, _⟩ :: _) _ _); refine setS (by rfl) (by rfl) (by rfl) H (by assumption) (by repeat first | apply uH | apply uT) ?_; clear H; intro W H; try simp only [Act.put, List.setIfInBounds_toArray, List.set_cons_zero, List.set_cons_succ])
          | ((with_reducible show wpList _ _ _ (⟨_, .load _ _, _, _, _, _⟩ :: _) _ _); refine rdS (by rfl) (by rfl) (by decide +kernel) H (by repeat constructor) ?_; try simp only [Act.put, List.setIfInBounds_toArray, List.set_cons_zero, List.set_cons_succ])
          | ((with_reducible refine (GC.out _ H.out.has.r).mono ?_); rintro _ W ⟨rfl, hb⟩; replace H := hidk (H.out.call hb); clear hb; try simp only [Act.put, List.setIfInBounds_toArray, List.set_cons_zero, List.set_cons_succ])
          | ((with_reducible show wpList _ _ _ (⟨_, .buildSlice _ _ _, _, _, _, _⟩ :: _) _ _); obtain ⟨hbr, a2, c2, V, Nx, har, HV, FV⟩ := app_field (A := []) H.out F.out (t0, s0) (by have := HL.out; omega); refine bslS (by rfl) hbr (by rfl) ?_; try simp only [Act.put, List.setIfInBounds_toArray, List.set_cons_zero, List.set_cons_succ])
          | ((with_reducible show wpList _ _ _ (⟨_, .call _, _, _, _, _⟩ :: _) _ _); refine appS (by rfl) (by rfl) (by rfl) har ?_; clear H; have H := HV; clear HV; try simp only [Act.put, List.setIfInBounds_toArray, List.set_cons_zero, List.set_cons_succ])
          | ((with_reducible show wpList _ _ _ (⟨_, .slice _ _ _ _ _, _, _, _, _⟩ :: _) _ _); refine slS (by rfl) (by rfl) (by rfl) (hsl.out _) ?_; try simp only [Act.put, List.setIfInBounds_toArray, List.set_cons_zero, List.set_cons_succ])
          | fail)
        go_roundw
        case rel => exact ⟨k + 1, Nx, _, _, _, _, fs ++ [(t0, s0)], a2, c2, by omega, by go_num, rfl, by simp, HR2, HQ2, by show _ ≤ _; have := HL.out; simp; omega, H.out.sub (List.nil_sublist _) (List.Sublist.refl _), by show _ ∧ _; simpa using FV.out⟩
        case measure => simp [intOf]; omega
      · have HE : Hid (R = fs) := by show _ = _; rw [HQ.out, flds_stop he, List.append_nil]
        obtain ⟨t0, ht0⟩ : ∃ t : Int, (gT zs : Int) = t := ⟨_, rfl⟩
        obtain ⟨s0, hs0⟩ : ∃ t : ByteArray, ⟨(gD zs).toArray⟩ = t := ⟨_, rfl⟩
        obtain ⟨n0, hn0⟩ : ∃ n : Nat, gN zs = n := ⟨_, rfl⟩
        obtain ⟨e0, he0⟩ : ∃ n : Int, (gE zs : Int) = n := ⟨_, rfl⟩
        have hne : (e0 != (0 : Int)) = true := by rw [bne_iff_ne, ← he0]; omega
        have GC : Hid (∀ W, Has W [(gt, o)] → Calls Try.prog 81 #[.slice a len cap] W fun e w' => e = .returned (.tuple #[.agg (fdA t0 s0), .int .i64 n0, .int .i64 e0]) ∧ Below W.heap.size W w') := fun W hW => by
          have := get_any a len cap zs W (HRD.out W hW)
          rw [gotK, he0, ht0, hs0, hn0] at this
          exact this
        have FX := hidk (fdA_fit t0 s0)
        clear ht0 hs0 hn0 he0 he ln HRD HQ
        go_wp2_with (first
          | ((with_reducible show wpList _ _ _ (⟨_, .alloc _, _, _, _, _⟩ :: _) _ _); refine newS (by rfl) (by kernel_rfl) H ?_; clear H; intro gq W hq H; clear hq; try simp only [Act.put, List.setIfInBounds_toArray, List.set_cons_zero, List.set_cons_succ])
          | ((with_reducible show wpList _ _ _ (⟨_, .store _ _ _, _, _, _, _⟩ :: _) _ _); refine setS (by rfl) (by rfl) (by rfl) H (by assumption) (by repeat first | apply uH | apply uT) ?_; clear H; intro W H; try simp only [Act.put, List.setIfInBounds_toArray, List.set_cons_zero, List.set_cons_succ])
          | ((with_reducible show wpList _ _ _ (⟨_, .load _ _, _, _, _, _⟩ :: _) _ _); refine rdS (by rfl) (by rfl) (by decide +kernel) H (by repeat constructor) ?_; try simp only [Act.put, List.setIfInBounds_toArray, List.set_cons_zero, List.set_cons_succ])
          | ((with_reducible refine (GC.out _ H.out.has.r).mono ?_); rintro _ W ⟨rfl, hb⟩; replace H := hidk (H.out.call hb); clear hb; try simp only [Act.put, List.setIfInBounds_toArray, List.set_cons_zero, List.set_cons_succ])
          | fail)
        go_ret
        refine ⟨_, rfl, ?_, H.out.b⟩
        rw [HE.out]
        exact F.out.2 _ H.out.has.l
    · obtain rfl : k = 2005 := by omega
      have HE : Hid (R = fs) := by show _ = _; rw [HQ.out]; simp [fldsK]
      go_wp2
      go_ret
      refine ⟨_, rfl, ?_, H.out.b⟩
      rw [HE.out]
      exact F.out.2 _ H.out.has.l
end Go.Proofs.Ytjpmmbmhkpgjcaa
