/- Texts of our own that the row of KeepClaims leans on, part 35. -/
import Derived.Test.YtjpmmbmhkpgjcabKeepClaimsJ22
import Derived.Test.YtjpmmbmhkpgjcabKeepClaimsJ27
import Derived.Test.YtjpmmbmhkpgjcabKeepClaimsJ34

/- The statements' user, laid and folds. -/
namespace Go.Proofs.Ytjpmmbmhkpgjcab
open Go.RowKit Nums Sums
set_option linter.unusedVariables false
set_option linter.unusedSimpArgs false
set_option maxRecDepth 100000
def enV (x : EnT) : Array Value := (ecells x).toArray
def uI (p s : Int) : ItT := ⟨p, ⟨1, 1, s, ByteArray.empty, zeroS, zeroC⟩⟩
theorem uI_ok (p s : Int) : OkE (uI p s).e := ⟨rfl, rfl, rfl⟩
theorem uI_in (p s : Int) (hp : In64 p) (hs : In64 s) : InI (uI p s) := ⟨hp, by show In64 1; unfold In64; decide, by show In64 1; unfold In64; decide, hs, by show 0 ≤ 100000; omega, zeroS_in, zeroC_in⟩
theorem builtUE (p s : Int) : Try.prog.built 38 [(0, .int .i64 1), (1, .int .i64 1), (2, .int .i64 s)] = some (enV (uI p s).e) := by kernel_rfl
theorem builtUI15 (p s : Int) : Try.prog.built 40 [(0, .int .i64 p), (1, .agg (enV (uI p s).e))] = some (itA (uI p s)) := by kernel_rfl
set_option maxHeartbeats 4000000 in
theorem userK_any (p s : Int) (w : World) : Calls Try.prog 33 #[.int .i64 p, .int .i64 s] w fun e w' => e = .returned (.agg (itA (uI p s))) ∧ Below w.heap.size w w' := by
  have FI : Hid (Fit Try.prog 40 (itA (uI p s))) := itA_fit _ (uI_ok p s)
  have H := hidk (Sep.start Try.prog w)
  go_enter Try.func33, Try.ntmps33
  go_wp2_with (first
    | ((with_reducible show wpList _ _ _ (⟨_, .alloc _, _, _, _, _⟩ :: _) _ _); refine newS (by rfl) (by kernel_rfl) H ?_; clear H; intro gq W hq H; clear hq; try simp only [Act.put, List.setIfInBounds_toArray, List.set_cons_zero, List.set_cons_succ])
    | ((with_reducible show wpList _ _ _ (⟨_, .build _ _, _, _, _, _⟩ :: _) _ _); refine bldS (by rfl) (by with_reducible exact builtUE p s) (by rfl) ?_; try simp only [Act.put, List.setIfInBounds_toArray, List.set_cons_zero, List.set_cons_succ])
      | ((with_reducible show wpList _ _ _ (⟨_, .build _ _, _, _, _, _⟩ :: _) _ _); refine bldS (by rfl) (by with_reducible exact builtUI15 p s) (by rfl) ?_; try simp only [Act.put, List.setIfInBounds_toArray, List.set_cons_zero, List.set_cons_succ])
    | ((with_reducible show wpList _ _ _ (⟨_, .store _ _ _, _, _, _, _⟩ :: _) _ _); refine setS (by rfl) (by rfl) (by rfl) H (by assumption) (by repeat first | exact uH .. | refine uT _ ?_) ?_; clear H; intro W H; try simp only [Act.put, List.setIfInBounds_toArray, List.set_cons_zero, List.set_cons_succ])
    | fail)

  refine bodyPost_ret (resS1 rfl rfl H (by repeat constructor) (by kernel_rfl)) rfl ?_
  exact ⟨rfl, H.out.b⟩
def laidR (p s : Int) : ReV := { zeroRv with k := 2, x := uI p s }
set_option maxHeartbeats 4000000 in
theorem laidK_any (p s : Int) (w : World) : Calls Try.prog 17 #[.int .i64 p, .int .i64 s] w fun e w' => e = .returned (.agg (reA (laidR p s))) ∧ Below w.heap.size w w' := by
  have FI : Hid (Fit Try.prog 42 (reA (laidR p s))) := reA_fit _ ⟨uI_ok p s, rfl⟩
  have W1 : Hid (∀ W, Calls Try.prog 33 #[.int .i64 p, .int .i64 s] W fun e w' => e = .returned (.agg (itA (uI p s))) ∧ Below W.heap.size W w') := fun W => userK_any p s W
  have B1 : Hid (Try.prog.built 42 [(0, .int .i64 2), (3, .agg (itA (uI p s)))] = some (reA (laidR p s))) := builtR_kx 2 _ (uI_ok p s)
  have H := hidk (Sep.start Try.prog w)
  go_enter Try.func17, Try.ntmps17
  go_wp2_with (first
    | ((with_reducible show wpList _ _ _ (⟨_, .alloc _, _, _, _, _⟩ :: _) _ _); refine newS (by rfl) (by kernel_rfl) H ?_; clear H; intro gq W hq H; clear hq; try simp only [Act.put, List.setIfInBounds_toArray, List.set_cons_zero, List.set_cons_succ])
    | ((with_reducible refine (W1.out _).mono ?_); rintro _ W ⟨rfl, hb⟩; replace H := hidk (H.out.call hb); clear hb; try simp only [Act.put, List.setIfInBounds_toArray, List.set_cons_zero, List.set_cons_succ])
    | ((with_reducible show wpList _ _ _ (⟨_, .build _ _, _, _, _, _⟩ :: _) _ _); refine bldS (by rfl) (by with_reducible exact B1.out) (by rfl) ?_; try simp only [Act.put, List.setIfInBounds_toArray, List.set_cons_zero, List.set_cons_succ])
    | ((with_reducible show wpList _ _ _ (⟨_, .store _ _ _, _, _, _, _⟩ :: _) _ _); refine setS (by rfl) (by rfl) (by rfl) H (by assumption) (by repeat first | exact uH .. | refine uT _ ?_) ?_; clear H; intro W H; try simp only [Act.put, List.setIfInBounds_toArray, List.set_cons_zero, List.set_cons_succ])
    | fail)

  refine bodyPost_ret (resS1 rfl rfl H (by repeat constructor) (by kernel_rfl)) rfl ?_
  exact ⟨rfl, H.out.b⟩
/-- What is kept, of such a size. -/
structure OkKe (t : KeT) : Prop where
  i : ∀ x ∈ t.l, InI x
  c : ∀ x ∈ t.k, InC x
  n : t.l.length ≤ 250
  m : t.k.length ≤ 250
  e : In64 t.e
  g : In64 t.g
theorem KOut.kin_of {W : World} {B : Nat} {v : KeV} {t : KeT} (h : KOut W B v) (et : v.t = t) (ok : OkKe t) : KIn W v := by
  subst et
  exact h.kin ok.i ok.c (by rw [h.n]; exact ok.n) (by rw [h.m]; exact ok.m) ok.e ok.g
/-- A Fold whose answer is known. -/
theorem foldS (C : KeepC) {t t' : KeT} {r : ReV} {E : Int} (hE : kpE t r.t = E) (hO : kpO t r.t = t') (ok : OkKe t) (v : KeV) (W : World) (B : Nat) (et : v.t = t) (ho : KOut W B v) (hr : RIn W r) (hl : r.n ≤ 250) :
    Calls Try.prog 6 #[.agg (keA v), .agg (reA r)] W fun x w' => ∃ v, x = .returned (.tuple #[.agg (keA v), .int .i64 E]) ∧ v.t = t' ∧ KOut w' W.heap.size v ∧ Below W.heap.size W w' := by
  refine (C.fold v r W (ho.kin_of et ok) hr hl).mono ?_
  rintro x w' ⟨v', rfl, e2, h3, h4⟩
  rw [et] at e2
  exact ⟨v', by rw [et, hE], e2.trans hO, h3, h4⟩
theorem Sep.lit {P : Program} {w0 w : World} {L : List Vr} {M : List (Nat × Obj)} (h : Sep P w0 w L M) (X : Array Value) (t : TypeId) : Sep P w0 (w.alloc (.cells X t)) L ([(w.heap.size, .cells X t (0, 0))] ++ M) :=
  h.row ((Below.refl _ _).alloc (Nat.le_refl _) _) (heap_alloc_new w _) (Nat.le_refl _)
theorem ireads_row {W : World} {g : Nat} (l : List ItT) (n : Nat) (hn : l.length = n) (hd : ∀ x ∈ l, OkE x.e) (h1 : n ≤ 1000) (h : W.heap[g]? = some (.cells (icL l).toArray 40 (0, 0))) : IReads W (some ⟨g, 0, none⟩) n n l := by
  refine ⟨hn, Nat.le_refl _, by unfold maxLen; omega, hd, .inr ⟨_, _, rfl, fun i hi j v hj => ?_⟩⟩
  have := icL_at l hd i hi j v hj
  rw [cell_of_row _ _ _ _ 40 (0, 0) h, Nat.zero_add]
  simpa using this
def cC : ClT := ⟨1, 3, 2, 0, List.replicate 32 0⟩
def cI : ItT := ⟨3, ⟨3, 0, 0, ByteArray.empty, zeroS, cC⟩⟩
theorem cC_in : InC cC := ⟨rfl, by show In64 1; unfold In64; decide, by show In64 3; unfold In64; decide, by show In64 2; unfold In64; decide, by show In64 0; unfold In64; decide⟩
theorem cI_ok : OkE cI.e := ⟨rfl, rfl, rfl⟩
theorem cI_in : InI cI := ⟨by show In64 3; unfold In64; decide, by show In64 3; unfold In64; decide, by show In64 0; unfold In64; decide, by show In64 0; unfold In64; decide, by show 0 ≤ 100000; omega, zeroS_in, cC_in⟩
theorem builtCC : Try.prog.built 29 [(0, .int .i64 1), (1, .int .i64 3), (2, .int .i64 2)] = some (clA cC) := by kernel_rfl
theorem builtCE : Try.prog.built 38 [(0, .int .i64 3), (5, .agg (clA cC))] = some (enV cI.e) := by kernel_rfl
theorem builtCI : Try.prog.built 40 [(0, .int .i64 3), (1, .agg (enV cI.e))] = some (itA cI) := by kernel_rfl
def fA : KeT := ⟨1, 1, [uI 1 1], []⟩
def fB : KeT := ⟨3, 1, [uI 1 1], []⟩
def fC : KeT := ⟨3, 3, [uI 1 1, cI], []⟩
def rKE (k e : Int) : ReV := { zeroRv with k := k, e := e }
def rC (a : Option Addr) : ReV := { zeroRv with k := 3, e := 3, f := 1, a := a, n := 1, c := 1, l := [cI] }
theorem fE1 : kpE newK (laidR 1 1).t = 0 := by decide +kernel
theorem fE2 : kpE fA (rKE 1 3).t = 0 := by decide +kernel
theorem fE3 : kpE fB (rKE 1 2).t = 140 := by decide +kernel
theorem fE4 : kpE fB (laidR 3 2).t = 140 := by decide +kernel
def rCt : ReT := ⟨3, 3, 1, zeroI, [cI], zeroC⟩
theorem rC_t (a : Option Addr) : (rC a).t = rCt := rfl
theorem fE5 (a : Option Addr) : kpE fB (rC a).t = 0 := by rw [rC_t]; decide +kernel
theorem fE6 : kpE fC (rKE 3 4).t = 140 := by decide +kernel
theorem fO1 : kpO newK (laidR 1 1).t = fA := (kpE_ok fE1).2.2.2.2.trans rfl
theorem fO2 : kpO fA (rKE 1 3).t = fB := (kpE_ok fE2).2.2.2.2.trans rfl
theorem fO5 (a : Option Addr) : kpO fB (rC a).t = fC := (kpE_ok (fE5 a)).2.2.2.2.trans rfl
theorem in64_s {z : Int} (h0 : 0 ≤ z) (h1 : z ≤ 1000) : In64 z := by unfold In64; omega
theorem okFA : OkKe fA := ⟨(fun x hx => by rw [List.mem_singleton.1 hx]; exact uI_in _ _ (in64_s (by decide) (by decide)) (in64_s (by decide) (by decide))), (fun x hx => by cases hx), by decide, by decide, in64_s (by decide) (by decide), in64_s (by decide) (by decide)⟩
theorem okFB : OkKe fB := ⟨okFA.i, okFA.c, by decide, by decide, in64_s (by decide) (by decide), in64_s (by decide) (by decide)⟩
theorem okFC : OkKe fC := ⟨fun x hx => by
  rcases List.mem_cons.1 hx with e | e
  · rw [e]; exact uI_in _ _ (in64_s (by decide) (by decide)) (in64_s (by decide) (by decide))
  · rw [List.mem_singleton.1 e]; exact cI_in, (fun x hx => by cases hx), by decide, by decide, in64_s (by decide) (by decide), in64_s (by decide) (by decide)⟩
theorem okFN : OkKe newK := ⟨(fun x hx => by cases hx), (fun x hx => by cases hx), by decide, by decide, in64_s (by decide) (by decide), in64_s (by decide) (by decide)⟩
theorem builtR_KE (k e : Int) : Try.prog.built 42 [(0, .int .i64 k), (1, .int .i64 e)] = some (reA (rKE k e)) := builtR_ke k e
theorem rKE_in (w : World) (k e : Int) (hk : In64 k) (he : In64 e) : RIn w (rKE k e) := rin_ke w k e hk he
theorem laidR_in (w : World) (p s : Int) (hp : In64 p) (hs : In64 s) : RIn w (laidR p s) := rin_kx w 2 _ (in64_s (by decide) (by decide)) (uI_in p s hp hs)
theorem rC_in (W : World) (gr : Nat) (hh : Has W [(gr, .cells (itA cI) 40 (0, 0))]) : RIn W (rC (some ⟨gr, 0, none⟩)) := by
  have h0 : W.heap[gr]? = some (.cells (itA cI) 40 (0, 0)) := hh _ (.head _)
  have e : (icL [cI]).toArray = itA cI := by rw [icL_cons, icL_nil, List.append_nil]; rfl
  rw [← e] at h0
  exact ⟨⟨ireads_row [cI] 1 rfl (fun x hx => by rw [List.mem_singleton.1 hx]; exact cI_ok) (by decide) h0, (fun e => by cases e), (fun x hx => by rw [List.mem_singleton.1 hx]; exact cI_in), by show 1 ≤ 3000; omega⟩, (rin_0 W).x, (rin_0 W).xo, (rin_0 W).m, (show In64 3 from in64_s (by decide) (by decide)), (show In64 3 from in64_s (by decide) (by decide)), (show In64 1 from in64_s (by decide) (by decide))⟩
set_option maxHeartbeats 32000000 in
theorem folds_true (C : KeepC) (w : World) : Calls Try.prog 7 #[] w fun e w' => e = .returned (.bool true) ∧ Below w.heap.size w w' := by
  have FK := hidk keA_fit
  have FI := hidk (itA_fit cI cI_ok)
  have ZI := fun {z : Int} (h0 : 0 ≤ z) (h1 : z ≤ 1000) => in64_s h0 h1
  have CN : Hid (∀ W, Calls Try.prog 16 #[] W fun e w' => e = .returned (.agg (keA newKv)) ∧ Below W.heap.size W w') := fun W => C.new W
  have LA1 : Hid (∀ W, Calls Try.prog 17 #[.int .i64 1, .int .i64 1] W fun e w' => e = .returned (.agg (reA (laidR 1 1))) ∧ Below W.heap.size W w') := fun W => laidK_any 1 1 W
  have LA4 : Hid (∀ W, Calls Try.prog 17 #[.int .i64 3, .int .i64 2] W fun e w' => e = .returned (.agg (reA (laidR 3 2))) ∧ Below W.heap.size W w') := fun W => laidK_any 3 2 W
  have F1 : Hid (∀ W, Calls Try.prog 6 #[.agg (keA newKv), .agg (reA (laidR 1 1))] W fun x w' => ∃ v, x = .returned (.tuple #[.agg (keA v), .int .i64 0]) ∧ v.t = fA ∧ KOut w' W.heap.size v ∧ Below W.heap.size W w') := fun W => foldS C fE1 fO1 okFN newKv W 0 rfl ⟨.inl ⟨rfl, rfl⟩, .inl ⟨rfl, rfl⟩, rfl, rfl⟩ (laidR_in W 1 1 (ZI (by decide) (by decide)) (ZI (by decide) (by decide))) (Nat.zero_le _)
  have F2 : Hid (∀ W v, v.t = fA → KOut W w.heap.size v → Calls Try.prog 6 #[.agg (keA v), .agg (reA (rKE 1 3))] W fun x w' => ∃ v, x = .returned (.tuple #[.agg (keA v), .int .i64 0]) ∧ v.t = fB ∧ KOut w' W.heap.size v ∧ Below W.heap.size W w') := fun W v et ho => foldS C fE2 fO2 okFA v W _ et ho (rKE_in W 1 3 (ZI (by decide) (by decide)) (ZI (by decide) (by decide))) (Nat.zero_le _)
  have F3 : Hid (∀ W v, v.t = fB → KOut W w.heap.size v → Calls Try.prog 6 #[.agg (keA v), .agg (reA (rKE 1 2))] W fun x w' => ∃ v, x = .returned (.tuple #[.agg (keA v), .int .i64 140]) ∧ v.t = zeroKe ∧ KOut w' W.heap.size v ∧ Below W.heap.size W w') := fun W v et ho => foldS C fE3 (kp_no (by rw [fE3]; decide)) okFB v W _ et ho (rKE_in W 1 2 (ZI (by decide) (by decide)) (ZI (by decide) (by decide))) (Nat.zero_le _)
  have F4 : Hid (∀ W v, v.t = fB → KOut W w.heap.size v → Calls Try.prog 6 #[.agg (keA v), .agg (reA (laidR 3 2))] W fun x w' => ∃ v, x = .returned (.tuple #[.agg (keA v), .int .i64 140]) ∧ v.t = zeroKe ∧ KOut w' W.heap.size v ∧ Below W.heap.size W w') := fun W v et ho => foldS C fE4 (kp_no (by rw [fE4]; decide)) okFB v W _ et ho (laidR_in W 3 2 (ZI (by decide) (by decide)) (ZI (by decide) (by decide))) (Nat.zero_le _)
  have F5 : Hid (∀ W v (gr : Nat), v.t = fB → KOut W w.heap.size v → Has W [(gr, .cells (itA cI) 40 (0, 0))] → Calls Try.prog 6 #[.agg (keA v), .agg (reA (rC (some ⟨gr, 0, none⟩)))] W fun x w' => ∃ v, x = .returned (.tuple #[.agg (keA v), .int .i64 0]) ∧ v.t = fC ∧ KOut w' W.heap.size v ∧ Below W.heap.size W w') := fun W v gr et ho hh => foldS C (fE5 _) (fO5 _) okFB v W _ et ho (rC_in W gr hh) (by show 1 ≤ 250; omega)
  have F6 : Hid (∀ W v, v.t = fC → KOut W w.heap.size v → Calls Try.prog 6 #[.agg (keA v), .agg (reA (rKE 3 4))] W fun x w' => ∃ v, x = .returned (.tuple #[.agg (keA v), .int .i64 140]) ∧ v.t = zeroKe ∧ KOut w' W.heap.size v ∧ Below W.heap.size W w') := fun W v et ho => foldS C fE6 (kp_no (by rw [fE6]; decide)) okFC v W _ et ho (rKE_in W 3 4 (ZI (by decide) (by decide)) (ZI (by decide) (by decide))) (Nat.zero_le _)
  have CK : Hid (∀ W, Calls Try.prog 10 #[.agg (keA newKv)] W fun e w' => e = .returned (.int .i64 0) ∧ Below W.heap.size W w') := fun W => by
    have h := C.check newKv W (newKv_in W)
    rw [show kchkE newKv.t = 0 by decide +kernel] at h
    exact h
  have CZ : Hid (∀ W, Calls Try.prog 10 #[.agg (keA zeroKv)] W fun e w' => e = .returned (.int .i64 1) ∧ Below W.heap.size W w') := fun W => by
    have h := C.check zeroKv W (zeroKv_in W)
    rw [show kchkE zeroKv.t = 1 by decide +kernel] at h
    exact h
  have CL : Hid (∀ W, Calls Try.prog 18 #[.agg (keA newKv)] W fun e w' => e = .returned (.int .i64 1) ∧ Below W.heap.size W w') := fun W => by
    have h := C.leader newKv W (newKv_in W)
    rw [show leaderK newKv.t = 1 by decide +kernel] at h
    exact h
  have CM : Hid (∀ W v, v.t = fC → KOut W w.heap.size v → Calls Try.prog 18 #[.agg (keA v)] W fun e w' => e = .returned (.int .i64 2) ∧ Below W.heap.size W w') := fun W v et ho => by
    have h := C.leader v W (ho.kin_of et okFC)
    rw [et, show leaderK fC = 2 by decide +kernel] at h
    exact h
  have HBU : Hid (∀ W : World, (Instr.buildSlice 22 1 #[(0, .agg (itA cI))]).run Try.prog W = .ok (.slice (some ⟨W.heap.size, 0, none⟩) 1 1) (W.alloc (.cells (itA cI) 40))) := fun W => by
    rw [run_build_items W 1 [cI] (fun x hx => by rw [List.mem_singleton.1 hx]; exact cI_ok) rfl (by omega) (by omega) _ (by rfl), icL_cons, icL_nil, List.append_nil]; rfl
  have B5 : Hid (∀ gr : Nat, Try.prog.built 42 [(0, .int .i64 3), (1, .int .i64 3), (2, .int .i64 1), (4, .slice (some ⟨gr, 0, none⟩) 1 1)] = some (reA (rC (some ⟨gr, 0, none⟩)))) := fun gr => builtR_kefl 3 3 1 _ 1 1 [cI]
  have H := hidk (Sep.start Try.prog w)
  clear C ZI
  go_enter Try.func7, Try.ntmps7
  go_wp2_with (first
    | ((with_reducible refine (CN.out _).mono ?_); rintro _ W ⟨rfl, hb⟩; replace H := hidk (H.out.call hb); clear hb; try simp only [Act.put, List.setIfInBounds_toArray, List.set_cons_zero, List.set_cons_succ])
    | ((with_reducible show wpList _ _ _ (⟨_, .alloc _, _, _, _, _⟩ :: _) _ _); refine newS (by rfl) (by kernel_rfl) H ?_; clear H; intro gq W hq H; clear hq; try simp only [Act.put, List.setIfInBounds_toArray, List.set_cons_zero, List.set_cons_succ])
    | ((with_reducible show wpList _ _ _ (⟨_, .store _ _ _, _, _, _, _⟩ :: _) _ _); refine setS (by rfl) (by rfl) (by rfl) H (by first | exact FK.out _ | exact FI.out) (by repeat first | exact uH .. | refine uT _ ?_) ?_; clear H; intro W H; try simp only [Act.put, List.setIfInBounds_toArray, List.set_cons_zero, List.set_cons_succ])
    | fail)

  replace H := hidk H.out.drew
  refine region_join (fun a a' W => ∃ g2 v1 N1, a' = ((((((((a.put (some 18) (.agg (keA newKv))).put (some 19) (.agg (reA (laidR 1 1)))).put (some 20) (.tuple #[.agg (keA v1), .int .i64 0])).put (some 17) (.tuple #[.agg (keA v1), .int .i64 0])).put (some 21) (.agg (keA v1))).put (some 22) (.int .i64 0)).put (some 2) (.pointer (some ⟨g2, 0, none⟩))).put (some 3) (.int .i64 0)) ∧ Hid (Sep Try.prog w W ((g2, keA v1, 25) :: [(gq, keA newKv, 25)]) (N1 ++ [])) ∧ Hid (KeV.t v1 = fA) ∧ Hid (∀ W, Has W N1 → KOut W w.heap.size v1)) ?_ ?_
  ·
    refine wp_region_held_drew (S := (fun W => Sep Try.prog w W _ _)) (by kernel_rfl) H.out (fun hHeld => ?_)
    refine wpAnyH_take (i := 0) (oi := { dst := some 18, op := Op.load 25 (Operand.tmp 1), type := 25, pos := "law.go:24", after := #[], guard := none }) (v := .agg (keA newKv)) rfl (by kernel_rfl) (by kernel_rfl) (by kernel_rfl) (fun _ _ _ h => h) (yR (by rfl) (by rfl) (by decide +kernel) (by repeat constructor) (by kernel_rfl)) hHeld ?_
    try simp only [Act.put, List.setIfInBounds_toArray, List.set_cons_zero, List.set_cons_succ]
    refine wpAnyH_ready (rs := [1, 6]) (by kernel_rfl) (by simp) ?_
    refine (AllReadyH.cons (o := { dst := some 19, op := Op.call { callee := Callee.value (Operand.func 17), args := #[Operand.const (Value.int IntKind.i64 1), Operand.const (Value.int IntKind.i64 1)], argTypes := #[3, 3] }, type := 42, pos := "law.go:24", after := #[], guard := none }) rfl (fun K hK => ?_) (AllReadyH.cons (o := { dst := some 2, op := Op.alloc 25, type := 0, pos := "law.go:24", after := #[], guard := none }) rfl (fun K hK => ?_) AllReadyH.nil))
    · go_simp
      refine (LA1.out _).mono ?_
      rintro _ W ⟨rfl, hb⟩
      replace H := hidk (H.out.call hb)
      clear hb
      go_wp2_with fail
      refine hK.out _ _ (by first | exact H.out | exact H.out.tl | exact H.out.tn | exact H.out.tl.tn) (fun hHeld => ?_)
      clear hK K
      try simp only [Act.put, List.setIfInBounds_toArray, List.set_cons_zero, List.set_cons_succ]
      refine wpAnyH_ready (rs := [2, 6]) (by kernel_rfl) (by simp) ?_
      refine (AllReadyH.cons (o := { dst := some 20, op := Op.call { callee := Callee.value (Operand.func 6), args := #[Operand.tmp 18, Operand.tmp 19], argTypes := #[25, 42] }, type := 44, pos := "law.go:24", after := #[{ on := 0, ground := Ground.data }, { on := 1, ground := Ground.data }, { on := 1, ground := Ground.chain }], guard := none }) rfl (fun K hK => ?_) (AllReadyH.cons (o := { dst := some 2, op := Op.alloc 25, type := 0, pos := "law.go:24", after := #[], guard := none }) rfl (fun K hK => ?_) AllReadyH.nil))
      · go_simp
        refine (F1.out _ ).mono ?_
        rintro _ W ⟨v1, rfl, et1, ho, hb⟩
        obtain ⟨N1, HQ, K1⟩ := H.out.kout hb ho
        clear H ho hb
        have H := HQ
        clear HQ
        go_wp2_with fail
        refine hK.out _ _ (by first | exact H.out | exact H.out.tl | exact H.out.tn | exact H.out.tl.tn) (fun hHeld => ?_)
        clear hK K
        try simp only [Act.put, List.setIfInBounds_toArray, List.set_cons_zero, List.set_cons_succ]
        refine wpAnyH_take (i := 3) (oi := { dst := some 17, op := Op.move (Operand.tmp 20), type := 44, pos := "law.go:24", after := #[{ on := 2, ground := Ground.data }], guard := none }) (v := .tuple #[.agg (keA v1), .int .i64 0]) rfl (by kernel_rfl) (by kernel_rfl) (by kernel_rfl) (fun _ _ _ h => h) (Or.inl ⟨by rfl, by intro W hSw; go_simp⟩) hHeld ?_
        try simp only [Act.put, List.setIfInBounds_toArray, List.set_cons_zero, List.set_cons_succ]
        refine wpAnyH_take (i := 4) (oi := { dst := some 21, op := Op.extract (Operand.tmp 17) 0, type := 25, pos := "law.go:24", after := #[{ on := 3, ground := Ground.data }], guard := none }) (v := .agg (keA v1)) rfl (by kernel_rfl) (by kernel_rfl) (by kernel_rfl) (fun _ _ _ h => h) (Or.inl ⟨by rfl, by intro W hSw; go_simp⟩) hHeld ?_
        try simp only [Act.put, List.setIfInBounds_toArray, List.set_cons_zero, List.set_cons_succ]
        refine wpAnyH_take (i := 5) (oi := { dst := some 22, op := Op.extract (Operand.tmp 17) 1, type := 43, pos := "law.go:24", after := #[{ on := 3, ground := Ground.data }, { on := 7, ground := Ground.gcOnly Departure.lateStores }], guard := none }) (v := .int .i64 0) rfl (by kernel_rfl) (by kernel_rfl) (by kernel_rfl) (fun _ _ _ h => h) (Or.inl ⟨by rfl, by intro W hSw; go_simp⟩) hHeld ?_
        try simp only [Act.put, List.setIfInBounds_toArray, List.set_cons_zero, List.set_cons_succ]
        refine wpAnyH_ready (rs := [6]) (by kernel_rfl) (by simp) ?_
        refine (AllReadyH.cons (o := { dst := some 2, op := Op.alloc 25, type := 0, pos := "law.go:24", after := #[], guard := none }) rfl (fun K hK => ?_) AllReadyH.nil)
        refine newT (by rfl) (by kernel_rfl) H ?_
        intro g2 W hq HQ
        clear hq H
        have H := HQ
        clear HQ
        refine hK.out _ _ (by first | exact H.out | exact H.out.tl | exact H.out.tn | exact H.out.tl.tn) (fun hHeld => ?_)
        clear hK K
        try simp only [Act.put, List.setIfInBounds_toArray, List.set_cons_zero, List.set_cons_succ]
        refine wpAnyH_ready (rs := [7]) (by kernel_rfl) (by simp) ?_
        refine (AllReadyH.cons (o := { dst := none, op := Op.store 25 (Operand.tmp 2) (Operand.tmp 21), type := 0, pos := "law.go:24", after := #[{ on := 6, ground := Ground.data }, { on := 4, ground := Ground.data }, { on := 2, ground := Ground.chain }, { on := 0, ground := Ground.phase }, { on := 1, ground := Ground.phase }, { on := 2, ground := Ground.phase }, { on := 3, ground := Ground.phase }, { on := 4, ground := Ground.phase }, { on := 5, ground := Ground.textOnly Departure.lateStores }, { on := 6, ground := Ground.phase }], guard := none }) rfl (fun K hK => ?_) AllReadyH.nil)
        refine setT (by rfl) (by rfl) (by rfl) H (by exact FK.out _) (by repeat first | exact uH .. | refine uT _ ?_) ?_
        intro W HQ
        clear H
        have H := HQ
        clear HQ
        refine hK.out _ _ (by first | exact H.out | exact H.out.tl | exact H.out.tn | exact H.out.tl.tn) (fun hHeld => ?_)
        clear hK K
        try simp only [Act.put, List.setIfInBounds_toArray, List.set_cons_zero, List.set_cons_succ]
        refine wpAnyH_take (i := 8) (oi := { dst := some 3, op := Op.assign (Operand.tmp 22), type := 43, pos := "law.go:24", after := #[{ on := 5, ground := Ground.data }, { on := 7, ground := Ground.chain }, { on := 0, ground := Ground.phase }, { on := 1, ground := Ground.phase }, { on := 2, ground := Ground.phase }, { on := 3, ground := Ground.phase }, { on := 4, ground := Ground.phase }, { on := 5, ground := Ground.phase }, { on := 6, ground := Ground.phase }, { on := 7, ground := Ground.phase }], guard := none }) (v := .int .i64 0) rfl (by kernel_rfl) (by kernel_rfl) (by kernel_rfl) (fun _ _ _ h => h) (Or.inl ⟨by rfl, by intro W hSw; go_simp⟩) hHeld ?_
        try simp only [Act.put, List.setIfInBounds_toArray, List.set_cons_zero, List.set_cons_succ]
        refine wpAnyH_done (by kernel_rfl) ?_ _
        exact ⟨g2, v1, N1, rfl, H, et1, K1⟩
      · refine newT (by rfl) (by kernel_rfl) H ?_
        intro g2 W hq HQ
        clear hq H
        have H := HQ
        clear HQ
        refine hK.out _ _ (by first | exact H.out | exact H.out.tl | exact H.out.tn | exact H.out.tl.tn) (fun hHeld => ?_)
        clear hK K
        try simp only [Act.put, List.setIfInBounds_toArray, List.set_cons_zero, List.set_cons_succ]
        refine wpAnyH_ready (rs := [2]) (by kernel_rfl) (by simp) ?_
        refine (AllReadyH.cons (o := { dst := some 20, op := Op.call { callee := Callee.value (Operand.func 6), args := #[Operand.tmp 18, Operand.tmp 19], argTypes := #[25, 42] }, type := 44, pos := "law.go:24", after := #[{ on := 0, ground := Ground.data }, { on := 1, ground := Ground.data }, { on := 1, ground := Ground.chain }], guard := none }) rfl (fun K hK => ?_) AllReadyH.nil)
        go_simp
        refine (F1.out _ ).mono ?_
        rintro _ W ⟨v1, rfl, et1, ho, hb⟩
        obtain ⟨N1, HQ, K1⟩ := H.out.kout hb ho
        clear H ho hb
        have H := HQ
        clear HQ
        go_wp2_with fail
        refine hK.out _ _ (by first | exact H.out | exact H.out.tl | exact H.out.tn | exact H.out.tl.tn) (fun hHeld => ?_)
        clear hK K
        try simp only [Act.put, List.setIfInBounds_toArray, List.set_cons_zero, List.set_cons_succ]
        refine wpAnyH_take (i := 3) (oi := { dst := some 17, op := Op.move (Operand.tmp 20), type := 44, pos := "law.go:24", after := #[{ on := 2, ground := Ground.data }], guard := none }) (v := .tuple #[.agg (keA v1), .int .i64 0]) rfl (by kernel_rfl) (by kernel_rfl) (by kernel_rfl) (fun _ _ _ h => h) (Or.inl ⟨by rfl, by intro W hSw; go_simp⟩) hHeld ?_
        try simp only [Act.put, List.setIfInBounds_toArray, List.set_cons_zero, List.set_cons_succ]
        refine wpAnyH_take (i := 4) (oi := { dst := some 21, op := Op.extract (Operand.tmp 17) 0, type := 25, pos := "law.go:24", after := #[{ on := 3, ground := Ground.data }], guard := none }) (v := .agg (keA v1)) rfl (by kernel_rfl) (by kernel_rfl) (by kernel_rfl) (fun _ _ _ h => h) (Or.inl ⟨by rfl, by intro W hSw; go_simp⟩) hHeld ?_
        try simp only [Act.put, List.setIfInBounds_toArray, List.set_cons_zero, List.set_cons_succ]
        refine wpAnyH_take (i := 5) (oi := { dst := some 22, op := Op.extract (Operand.tmp 17) 1, type := 43, pos := "law.go:24", after := #[{ on := 3, ground := Ground.data }, { on := 7, ground := Ground.gcOnly Departure.lateStores }], guard := none }) (v := .int .i64 0) rfl (by kernel_rfl) (by kernel_rfl) (by kernel_rfl) (fun _ _ _ h => h) (Or.inl ⟨by rfl, by intro W hSw; go_simp⟩) hHeld ?_
        try simp only [Act.put, List.setIfInBounds_toArray, List.set_cons_zero, List.set_cons_succ]
        refine wpAnyH_ready (rs := [7]) (by kernel_rfl) (by simp) ?_
        refine (AllReadyH.cons (o := { dst := none, op := Op.store 25 (Operand.tmp 2) (Operand.tmp 21), type := 0, pos := "law.go:24", after := #[{ on := 6, ground := Ground.data }, { on := 4, ground := Ground.data }, { on := 2, ground := Ground.chain }, { on := 0, ground := Ground.phase }, { on := 1, ground := Ground.phase }, { on := 2, ground := Ground.phase }, { on := 3, ground := Ground.phase }, { on := 4, ground := Ground.phase }, { on := 5, ground := Ground.textOnly Departure.lateStores }, { on := 6, ground := Ground.phase }], guard := none }) rfl (fun K hK => ?_) AllReadyH.nil)
        refine setT (by rfl) (by rfl) (by rfl) H (by exact FK.out _) (by repeat first | exact uH .. | refine uT _ ?_) ?_
        intro W HQ
        clear H
        have H := HQ
        clear HQ
        refine hK.out _ _ (by first | exact H.out | exact H.out.tl | exact H.out.tn | exact H.out.tl.tn) (fun hHeld => ?_)
        clear hK K
        try simp only [Act.put, List.setIfInBounds_toArray, List.set_cons_zero, List.set_cons_succ]
        refine wpAnyH_take (i := 8) (oi := { dst := some 3, op := Op.assign (Operand.tmp 22), type := 43, pos := "law.go:24", after := #[{ on := 5, ground := Ground.data }, { on := 7, ground := Ground.chain }, { on := 0, ground := Ground.phase }, { on := 1, ground := Ground.phase }, { on := 2, ground := Ground.phase }, { on := 3, ground := Ground.phase }, { on := 4, ground := Ground.phase }, { on := 5, ground := Ground.phase }, { on := 6, ground := Ground.phase }, { on := 7, ground := Ground.phase }], guard := none }) (v := .int .i64 0) rfl (by kernel_rfl) (by kernel_rfl) (by kernel_rfl) (fun _ _ _ h => h) (Or.inl ⟨by rfl, by intro W hSw; go_simp⟩) hHeld ?_
        try simp only [Act.put, List.setIfInBounds_toArray, List.set_cons_zero, List.set_cons_succ]
        refine wpAnyH_done (by kernel_rfl) ?_ _
        exact ⟨g2, v1, N1, rfl, H, et1, K1⟩
    · refine newT (by rfl) (by kernel_rfl) H ?_
      intro g2 W hq HQ
      clear hq H
      have H := HQ
      clear HQ
      refine hK.out _ _ (by first | exact H.out | exact H.out.tl | exact H.out.tn | exact H.out.tl.tn) (fun hHeld => ?_)
      clear hK K
      try simp only [Act.put, List.setIfInBounds_toArray, List.set_cons_zero, List.set_cons_succ]
      refine wpAnyH_ready (rs := [1]) (by kernel_rfl) (by simp) ?_
      refine (AllReadyH.cons (o := { dst := some 19, op := Op.call { callee := Callee.value (Operand.func 17), args := #[Operand.const (Value.int IntKind.i64 1), Operand.const (Value.int IntKind.i64 1)], argTypes := #[3, 3] }, type := 42, pos := "law.go:24", after := #[], guard := none }) rfl (fun K hK => ?_) AllReadyH.nil)
      go_simp
      refine (LA1.out _).mono ?_
      rintro _ W ⟨rfl, hb⟩
      replace H := hidk (H.out.call hb)
      clear hb
      go_wp2_with fail
      refine hK.out _ _ (by first | exact H.out | exact H.out.tl | exact H.out.tn | exact H.out.tl.tn) (fun hHeld => ?_)
      clear hK K
      try simp only [Act.put, List.setIfInBounds_toArray, List.set_cons_zero, List.set_cons_succ]
      refine wpAnyH_ready (rs := [2]) (by kernel_rfl) (by simp) ?_
      refine (AllReadyH.cons (o := { dst := some 20, op := Op.call { callee := Callee.value (Operand.func 6), args := #[Operand.tmp 18, Operand.tmp 19], argTypes := #[25, 42] }, type := 44, pos := "law.go:24", after := #[{ on := 0, ground := Ground.data }, { on := 1, ground := Ground.data }, { on := 1, ground := Ground.chain }], guard := none }) rfl (fun K hK => ?_) AllReadyH.nil)
      go_simp
      refine (F1.out _ ).mono ?_
      rintro _ W ⟨v1, rfl, et1, ho, hb⟩
      obtain ⟨N1, HQ, K1⟩ := H.out.kout hb ho
      clear H ho hb
      have H := HQ
      clear HQ
      go_wp2_with fail
      refine hK.out _ _ (by first | exact H.out | exact H.out.tl | exact H.out.tn | exact H.out.tl.tn) (fun hHeld => ?_)
      clear hK K
      try simp only [Act.put, List.setIfInBounds_toArray, List.set_cons_zero, List.set_cons_succ]
      refine wpAnyH_take (i := 3) (oi := { dst := some 17, op := Op.move (Operand.tmp 20), type := 44, pos := "law.go:24", after := #[{ on := 2, ground := Ground.data }], guard := none }) (v := .tuple #[.agg (keA v1), .int .i64 0]) rfl (by kernel_rfl) (by kernel_rfl) (by kernel_rfl) (fun _ _ _ h => h) (Or.inl ⟨by rfl, by intro W hSw; go_simp⟩) hHeld ?_
      try simp only [Act.put, List.setIfInBounds_toArray, List.set_cons_zero, List.set_cons_succ]
      refine wpAnyH_take (i := 4) (oi := { dst := some 21, op := Op.extract (Operand.tmp 17) 0, type := 25, pos := "law.go:24", after := #[{ on := 3, ground := Ground.data }], guard := none }) (v := .agg (keA v1)) rfl (by kernel_rfl) (by kernel_rfl) (by kernel_rfl) (fun _ _ _ h => h) (Or.inl ⟨by rfl, by intro W hSw; go_simp⟩) hHeld ?_
      try simp only [Act.put, List.setIfInBounds_toArray, List.set_cons_zero, List.set_cons_succ]
      refine wpAnyH_take (i := 5) (oi := { dst := some 22, op := Op.extract (Operand.tmp 17) 1, type := 43, pos := "law.go:24", after := #[{ on := 3, ground := Ground.data }, { on := 7, ground := Ground.gcOnly Departure.lateStores }], guard := none }) (v := .int .i64 0) rfl (by kernel_rfl) (by kernel_rfl) (by kernel_rfl) (fun _ _ _ h => h) (Or.inl ⟨by rfl, by intro W hSw; go_simp⟩) hHeld ?_
      try simp only [Act.put, List.setIfInBounds_toArray, List.set_cons_zero, List.set_cons_succ]
      refine wpAnyH_ready (rs := [7]) (by kernel_rfl) (by simp) ?_
      refine (AllReadyH.cons (o := { dst := none, op := Op.store 25 (Operand.tmp 2) (Operand.tmp 21), type := 0, pos := "law.go:24", after := #[{ on := 6, ground := Ground.data }, { on := 4, ground := Ground.data }, { on := 2, ground := Ground.chain }, { on := 0, ground := Ground.phase }, { on := 1, ground := Ground.phase }, { on := 2, ground := Ground.phase }, { on := 3, ground := Ground.phase }, { on := 4, ground := Ground.phase }, { on := 5, ground := Ground.textOnly Departure.lateStores }, { on := 6, ground := Ground.phase }], guard := none }) rfl (fun K hK => ?_) AllReadyH.nil)
      refine setT (by rfl) (by rfl) (by rfl) H (by exact FK.out _) (by repeat first | exact uH .. | refine uT _ ?_) ?_
      intro W HQ
      clear H
      have H := HQ
      clear HQ
      refine hK.out _ _ (by first | exact H.out | exact H.out.tl | exact H.out.tn | exact H.out.tl.tn) (fun hHeld => ?_)
      clear hK K
      try simp only [Act.put, List.setIfInBounds_toArray, List.set_cons_zero, List.set_cons_succ]
      refine wpAnyH_take (i := 8) (oi := { dst := some 3, op := Op.assign (Operand.tmp 22), type := 43, pos := "law.go:24", after := #[{ on := 5, ground := Ground.data }, { on := 7, ground := Ground.chain }, { on := 0, ground := Ground.phase }, { on := 1, ground := Ground.phase }, { on := 2, ground := Ground.phase }, { on := 3, ground := Ground.phase }, { on := 4, ground := Ground.phase }, { on := 5, ground := Ground.phase }, { on := 6, ground := Ground.phase }, { on := 7, ground := Ground.phase }], guard := none }) (v := .int .i64 0) rfl (by kernel_rfl) (by kernel_rfl) (by kernel_rfl) (fun _ _ _ h => h) (Or.inl ⟨by rfl, by intro W hSw; go_simp⟩) hHeld ?_
      try simp only [Act.put, List.setIfInBounds_toArray, List.set_cons_zero, List.set_cons_succ]
      refine wpAnyH_done (by kernel_rfl) ?_ _
      exact ⟨g2, v1, N1, rfl, H, et1, K1⟩
  rintro a' W ⟨gv, v1, N1, rfl, HQ, et1, K1⟩
  clear H
  have H := HQ
  clear HQ
  try simp only [Act.put, List.setIfInBounds_toArray, List.set_cons_zero, List.set_cons_succ]
  have d1 : ((v1.n : Int) == (1 : Int)) = true := by
    have h : v1.l = [uI 1 1] := congrArg KeT.l et1.out
    have := (K1.out _ H.out.has.l).n
    rw [this, h]; rfl
  go_wp2_with (first
    | ((with_reducible show wpList _ _ _ (⟨_, .build _ _, _, _, _, _⟩ :: _) _ _); refine bldS (by rfl) (by with_reducible exact builtR_KE 1 3) (by rfl) ?_; try simp only [Act.put, List.setIfInBounds_toArray, List.set_cons_zero, List.set_cons_succ])
      | ((with_reducible show wpList _ _ _ (⟨_, .build _ _, _, _, _, _⟩ :: _) _ _); refine bldS (by rfl) (by with_reducible exact builtR_KE 1 2) (by rfl) ?_; try simp only [Act.put, List.setIfInBounds_toArray, List.set_cons_zero, List.set_cons_succ])
    | ((with_reducible show wpList _ _ _ (⟨_, .load _ _, _, _, _, _⟩ :: _) _ _); refine rdS (by rfl) (by rfl) (by decide +kernel) H (by repeat constructor) ?_; try simp only [Act.put, List.setIfInBounds_toArray, List.set_cons_zero, List.set_cons_succ])
    | ((with_reducible refine (F2.out _ _ et1.out (K1.out _ (by first | exact H.out.has.l | exact H.out.has.r.l | exact H.out.has.r.r.l | exact H.out.has.r.r.r.l | exact H.out.has.r.r.r.r.l | exact H.out.has.r.r.r.r.r.l | exact H.out.has.r.r.r.r.r.r.l))).mono ?_); rintro _ W ⟨v2, rfl, et2, ho, hb⟩; obtain ⟨N2, HQ, K2⟩ := H.out.kout hb ho; have d2 : (v2.e == (3 : Int)) = true := (by rw [show v2.e = 3 from congrArg KeT.e et2]; rfl); have d3 : (v2.g == (1 : Int)) = true := (by rw [show v2.g = 1 from congrArg KeT.g et2]; rfl); replace et2 := hidk et2; clear H ho hb; have H := HQ; clear HQ; try simp only [Act.put, List.setIfInBounds_toArray, List.set_cons_zero, List.set_cons_succ])
    | ((with_reducible refine (F3.out _ _ et2.out (K2.out _ (by first | exact H.out.has.l | exact H.out.has.r.l | exact H.out.has.r.r.l | exact H.out.has.r.r.r.l | exact H.out.has.r.r.r.r.l | exact H.out.has.r.r.r.r.r.l | exact H.out.has.r.r.r.r.r.r.l))).mono ?_); rintro _ W ⟨v3, rfl, et3, ho, hb⟩; obtain ⟨N3, HQ, K3⟩ := H.out.kout hb ho; replace et3 := hidk et3; clear H ho hb; have H := HQ; clear HQ; try simp only [Act.put, List.setIfInBounds_toArray, List.set_cons_zero, List.set_cons_succ])
    | ((with_reducible show wpList _ _ _ (⟨some 4, .alloc _, _, _, _, _⟩ :: _) _ _); refine newS (by rfl) (by kernel_rfl) H ?_; clear H; intro g4 W hq H; clear hq; try simp only [Act.put, List.setIfInBounds_toArray, List.set_cons_zero, List.set_cons_succ])
      | ((with_reducible show wpList _ _ _ (⟨some 6, .alloc _, _, _, _, _⟩ :: _) _ _); refine newS (by rfl) (by kernel_rfl) H ?_; clear H; intro g6 W hq H; clear hq; try simp only [Act.put, List.setIfInBounds_toArray, List.set_cons_zero, List.set_cons_succ])
      | ((with_reducible show wpList _ _ _ (⟨some 10, .alloc _, _, _, _, _⟩ :: _) _ _); refine newS (by rfl) (by kernel_rfl) H ?_; clear H; intro g10 W hq H; clear hq; try simp only [Act.put, List.setIfInBounds_toArray, List.set_cons_zero, List.set_cons_succ])
      | ((with_reducible show wpList _ _ _ (⟨some 11, .alloc _, _, _, _, _⟩ :: _) _ _); refine newS (by rfl) (by kernel_rfl) H ?_; clear H; intro g11 W hq H; clear hq; try simp only [Act.put, List.setIfInBounds_toArray, List.set_cons_zero, List.set_cons_succ])
      | ((with_reducible show wpList _ _ _ (⟨some 13, .alloc _, _, _, _, _⟩ :: _) _ _); refine newS (by rfl) (by kernel_rfl) H ?_; clear H; intro g13 W hq H; clear hq; try simp only [Act.put, List.setIfInBounds_toArray, List.set_cons_zero, List.set_cons_succ])
    | ((with_reducible show wpList _ _ _ (⟨_, .store _ _ _, _, _, _, _⟩ :: _) _ _); refine setS (by rfl) (by rfl) (by rfl) H (by first | exact FK.out _ | exact FI.out) (by repeat first | exact uH .. | refine uT _ ?_) ?_; clear H; intro W H; try simp only [Act.put, List.setIfInBounds_toArray, List.set_cons_zero, List.set_cons_succ])
    | fail)

  replace H := hidk H.out.drew
  refine region_join (fun a a' W => ∃ g2 v4 N4, a' = ((((((((a.put (some 36) (.agg (keA v2))).put (some 37) (.agg (reA (laidR 3 2)))).put (some 38) (.tuple #[.agg (keA v4), .int .i64 140])).put (some 35) (.tuple #[.agg (keA v4), .int .i64 140])).put (some 39) (.agg (keA v4))).put (some 40) (.int .i64 140)).put (some 8) (.pointer (some ⟨g2, 0, none⟩))).put (some 9) (.int .i64 140)) ∧ Hid (Sep Try.prog w W ((g2, keA v4, 25) :: (g6, keA v3, 25) :: (g4, keA v2, 25) :: (gv, keA v1, 25) :: [(gq, keA newKv, 25)]) (N4 ++ (N3 ++ (N2 ++ (N1 ++ []))))) ∧ Hid (KeV.t v4 = zeroKe) ∧ Hid (∀ W, Has W N4 → KOut W w.heap.size v4)) ?_ ?_
  ·
    refine wp_region_held_drew (S := (fun W => Sep Try.prog w W _ _)) (by kernel_rfl) H.out (fun hHeld => ?_)
    refine wpAnyH_take (i := 0) (oi := { dst := some 36, op := Op.load 25 (Operand.tmp 4), type := 25, pos := "law.go:27", after := #[], guard := none }) (v := .agg (keA v2)) rfl (by kernel_rfl) (by kernel_rfl) (by kernel_rfl) (fun _ _ _ h => h) (yR (by rfl) (by rfl) (by decide +kernel) (by repeat constructor) (by kernel_rfl)) hHeld ?_
    try simp only [Act.put, List.setIfInBounds_toArray, List.set_cons_zero, List.set_cons_succ]
    refine wpAnyH_ready (rs := [1, 6]) (by kernel_rfl) (by simp) ?_
    refine (AllReadyH.cons (o := { dst := some 37, op := Op.call { callee := Callee.value (Operand.func 17), args := #[Operand.const (Value.int IntKind.i64 3), Operand.const (Value.int IntKind.i64 2)], argTypes := #[3, 3] }, type := 42, pos := "law.go:27", after := #[], guard := none }) rfl (fun K hK => ?_) (AllReadyH.cons (o := { dst := some 8, op := Op.alloc 25, type := 0, pos := "law.go:27", after := #[], guard := none }) rfl (fun K hK => ?_) AllReadyH.nil))
    · go_simp
      refine (LA4.out _).mono ?_
      rintro _ W ⟨rfl, hb⟩
      replace H := hidk (H.out.call hb)
      clear hb
      go_wp2_with fail
      refine hK.out _ _ (by first | exact H.out | exact H.out.tl | exact H.out.tn | exact H.out.tl.tn) (fun hHeld => ?_)
      clear hK K
      try simp only [Act.put, List.setIfInBounds_toArray, List.set_cons_zero, List.set_cons_succ]
      refine wpAnyH_ready (rs := [2, 6]) (by kernel_rfl) (by simp) ?_
      refine (AllReadyH.cons (o := { dst := some 38, op := Op.call { callee := Callee.value (Operand.func 6), args := #[Operand.tmp 36, Operand.tmp 37], argTypes := #[25, 42] }, type := 44, pos := "law.go:27", after := #[{ on := 0, ground := Ground.data }, { on := 1, ground := Ground.data }, { on := 1, ground := Ground.chain }], guard := none }) rfl (fun K hK => ?_) (AllReadyH.cons (o := { dst := some 8, op := Op.alloc 25, type := 0, pos := "law.go:27", after := #[], guard := none }) rfl (fun K hK => ?_) AllReadyH.nil))
      · go_simp
        refine (F4.out _ _ et2.out (K2.out _ (by first | exact H.out.has.l | exact H.out.has.r.l | exact H.out.has.r.r.l | exact H.out.has.r.r.r.l | exact H.out.has.r.r.r.r.l | exact H.out.has.r.r.r.r.r.l | exact H.out.has.r.r.r.r.r.r.l))).mono ?_
        rintro _ W ⟨v4, rfl, et4, ho, hb⟩
        obtain ⟨N4, HQ, K4⟩ := H.out.kout hb ho
        clear H ho hb
        have H := HQ
        clear HQ
        go_wp2_with fail
        refine hK.out _ _ (by first | exact H.out | exact H.out.tl | exact H.out.tn | exact H.out.tl.tn) (fun hHeld => ?_)
        clear hK K
        try simp only [Act.put, List.setIfInBounds_toArray, List.set_cons_zero, List.set_cons_succ]
        refine wpAnyH_take (i := 3) (oi := { dst := some 35, op := Op.move (Operand.tmp 38), type := 44, pos := "law.go:27", after := #[{ on := 2, ground := Ground.data }], guard := none }) (v := .tuple #[.agg (keA v4), .int .i64 140]) rfl (by kernel_rfl) (by kernel_rfl) (by kernel_rfl) (fun _ _ _ h => h) (Or.inl ⟨by rfl, by intro W hSw; go_simp⟩) hHeld ?_
        try simp only [Act.put, List.setIfInBounds_toArray, List.set_cons_zero, List.set_cons_succ]
        refine wpAnyH_take (i := 4) (oi := { dst := some 39, op := Op.extract (Operand.tmp 35) 0, type := 25, pos := "law.go:27", after := #[{ on := 3, ground := Ground.data }], guard := none }) (v := .agg (keA v4)) rfl (by kernel_rfl) (by kernel_rfl) (by kernel_rfl) (fun _ _ _ h => h) (Or.inl ⟨by rfl, by intro W hSw; go_simp⟩) hHeld ?_
        try simp only [Act.put, List.setIfInBounds_toArray, List.set_cons_zero, List.set_cons_succ]
        refine wpAnyH_take (i := 5) (oi := { dst := some 40, op := Op.extract (Operand.tmp 35) 1, type := 43, pos := "law.go:27", after := #[{ on := 3, ground := Ground.data }, { on := 7, ground := Ground.gcOnly Departure.lateStores }], guard := none }) (v := .int .i64 140) rfl (by kernel_rfl) (by kernel_rfl) (by kernel_rfl) (fun _ _ _ h => h) (Or.inl ⟨by rfl, by intro W hSw; go_simp⟩) hHeld ?_
        try simp only [Act.put, List.setIfInBounds_toArray, List.set_cons_zero, List.set_cons_succ]
        refine wpAnyH_ready (rs := [6]) (by kernel_rfl) (by simp) ?_
        refine (AllReadyH.cons (o := { dst := some 8, op := Op.alloc 25, type := 0, pos := "law.go:27", after := #[], guard := none }) rfl (fun K hK => ?_) AllReadyH.nil)
        refine newT (by rfl) (by kernel_rfl) H ?_
        intro g2 W hq HQ
        clear hq H
        have H := HQ
        clear HQ
        refine hK.out _ _ (by first | exact H.out | exact H.out.tl | exact H.out.tn | exact H.out.tl.tn) (fun hHeld => ?_)
        clear hK K
        try simp only [Act.put, List.setIfInBounds_toArray, List.set_cons_zero, List.set_cons_succ]
        refine wpAnyH_ready (rs := [7]) (by kernel_rfl) (by simp) ?_
        refine (AllReadyH.cons (o := { dst := none, op := Op.store 25 (Operand.tmp 8) (Operand.tmp 39), type := 0, pos := "law.go:27", after := #[{ on := 6, ground := Ground.data }, { on := 4, ground := Ground.data }, { on := 2, ground := Ground.chain }, { on := 0, ground := Ground.phase }, { on := 1, ground := Ground.phase }, { on := 2, ground := Ground.phase }, { on := 3, ground := Ground.phase }, { on := 4, ground := Ground.phase }, { on := 5, ground := Ground.textOnly Departure.lateStores }, { on := 6, ground := Ground.phase }], guard := none }) rfl (fun K hK => ?_) AllReadyH.nil)
        refine setT (by rfl) (by rfl) (by rfl) H (by exact FK.out _) (by repeat first | exact uH .. | refine uT _ ?_) ?_
        intro W HQ
        clear H
        have H := HQ
        clear HQ
        refine hK.out _ _ (by first | exact H.out | exact H.out.tl | exact H.out.tn | exact H.out.tl.tn) (fun hHeld => ?_)
        clear hK K
        try simp only [Act.put, List.setIfInBounds_toArray, List.set_cons_zero, List.set_cons_succ]
        refine wpAnyH_take (i := 8) (oi := { dst := some 9, op := Op.assign (Operand.tmp 40), type := 43, pos := "law.go:27", after := #[{ on := 5, ground := Ground.data }, { on := 7, ground := Ground.chain }, { on := 0, ground := Ground.phase }, { on := 1, ground := Ground.phase }, { on := 2, ground := Ground.phase }, { on := 3, ground := Ground.phase }, { on := 4, ground := Ground.phase }, { on := 5, ground := Ground.phase }, { on := 6, ground := Ground.phase }, { on := 7, ground := Ground.phase }], guard := none }) (v := .int .i64 140) rfl (by kernel_rfl) (by kernel_rfl) (by kernel_rfl) (fun _ _ _ h => h) (Or.inl ⟨by rfl, by intro W hSw; go_simp⟩) hHeld ?_
        try simp only [Act.put, List.setIfInBounds_toArray, List.set_cons_zero, List.set_cons_succ]
        refine wpAnyH_done (by kernel_rfl) ?_ _
        exact ⟨g2, v4, N4, rfl, H, et4, K4⟩
      · refine newT (by rfl) (by kernel_rfl) H ?_
        intro g2 W hq HQ
        clear hq H
        have H := HQ
        clear HQ
        refine hK.out _ _ (by first | exact H.out | exact H.out.tl | exact H.out.tn | exact H.out.tl.tn) (fun hHeld => ?_)
        clear hK K
        try simp only [Act.put, List.setIfInBounds_toArray, List.set_cons_zero, List.set_cons_succ]
        refine wpAnyH_ready (rs := [2]) (by kernel_rfl) (by simp) ?_
        refine (AllReadyH.cons (o := { dst := some 38, op := Op.call { callee := Callee.value (Operand.func 6), args := #[Operand.tmp 36, Operand.tmp 37], argTypes := #[25, 42] }, type := 44, pos := "law.go:27", after := #[{ on := 0, ground := Ground.data }, { on := 1, ground := Ground.data }, { on := 1, ground := Ground.chain }], guard := none }) rfl (fun K hK => ?_) AllReadyH.nil)
        go_simp
        refine (F4.out _ _ et2.out (K2.out _ (by first | exact H.out.has.l | exact H.out.has.r.l | exact H.out.has.r.r.l | exact H.out.has.r.r.r.l | exact H.out.has.r.r.r.r.l | exact H.out.has.r.r.r.r.r.l | exact H.out.has.r.r.r.r.r.r.l))).mono ?_
        rintro _ W ⟨v4, rfl, et4, ho, hb⟩
        obtain ⟨N4, HQ, K4⟩ := H.out.kout hb ho
        clear H ho hb
        have H := HQ
        clear HQ
        go_wp2_with fail
        refine hK.out _ _ (by first | exact H.out | exact H.out.tl | exact H.out.tn | exact H.out.tl.tn) (fun hHeld => ?_)
        clear hK K
        try simp only [Act.put, List.setIfInBounds_toArray, List.set_cons_zero, List.set_cons_succ]
        refine wpAnyH_take (i := 3) (oi := { dst := some 35, op := Op.move (Operand.tmp 38), type := 44, pos := "law.go:27", after := #[{ on := 2, ground := Ground.data }], guard := none }) (v := .tuple #[.agg (keA v4), .int .i64 140]) rfl (by kernel_rfl) (by kernel_rfl) (by kernel_rfl) (fun _ _ _ h => h) (Or.inl ⟨by rfl, by intro W hSw; go_simp⟩) hHeld ?_
        try simp only [Act.put, List.setIfInBounds_toArray, List.set_cons_zero, List.set_cons_succ]
        refine wpAnyH_take (i := 4) (oi := { dst := some 39, op := Op.extract (Operand.tmp 35) 0, type := 25, pos := "law.go:27", after := #[{ on := 3, ground := Ground.data }], guard := none }) (v := .agg (keA v4)) rfl (by kernel_rfl) (by kernel_rfl) (by kernel_rfl) (fun _ _ _ h => h) (Or.inl ⟨by rfl, by intro W hSw; go_simp⟩) hHeld ?_
        try simp only [Act.put, List.setIfInBounds_toArray, List.set_cons_zero, List.set_cons_succ]
        refine wpAnyH_take (i := 5) (oi := { dst := some 40, op := Op.extract (Operand.tmp 35) 1, type := 43, pos := "law.go:27", after := #[{ on := 3, ground := Ground.data }, { on := 7, ground := Ground.gcOnly Departure.lateStores }], guard := none }) (v := .int .i64 140) rfl (by kernel_rfl) (by kernel_rfl) (by kernel_rfl) (fun _ _ _ h => h) (Or.inl ⟨by rfl, by intro W hSw; go_simp⟩) hHeld ?_
        try simp only [Act.put, List.setIfInBounds_toArray, List.set_cons_zero, List.set_cons_succ]
        refine wpAnyH_ready (rs := [7]) (by kernel_rfl) (by simp) ?_
        refine (AllReadyH.cons (o := { dst := none, op := Op.store 25 (Operand.tmp 8) (Operand.tmp 39), type := 0, pos := "law.go:27", after := #[{ on := 6, ground := Ground.data }, { on := 4, ground := Ground.data }, { on := 2, ground := Ground.chain }, { on := 0, ground := Ground.phase }, { on := 1, ground := Ground.phase }, { on := 2, ground := Ground.phase }, { on := 3, ground := Ground.phase }, { on := 4, ground := Ground.phase }, { on := 5, ground := Ground.textOnly Departure.lateStores }, { on := 6, ground := Ground.phase }], guard := none }) rfl (fun K hK => ?_) AllReadyH.nil)
        refine setT (by rfl) (by rfl) (by rfl) H (by exact FK.out _) (by repeat first | exact uH .. | refine uT _ ?_) ?_
        intro W HQ
        clear H
        have H := HQ
        clear HQ
        refine hK.out _ _ (by first | exact H.out | exact H.out.tl | exact H.out.tn | exact H.out.tl.tn) (fun hHeld => ?_)
        clear hK K
        try simp only [Act.put, List.setIfInBounds_toArray, List.set_cons_zero, List.set_cons_succ]
        refine wpAnyH_take (i := 8) (oi := { dst := some 9, op := Op.assign (Operand.tmp 40), type := 43, pos := "law.go:27", after := #[{ on := 5, ground := Ground.data }, { on := 7, ground := Ground.chain }, { on := 0, ground := Ground.phase }, { on := 1, ground := Ground.phase }, { on := 2, ground := Ground.phase }, { on := 3, ground := Ground.phase }, { on := 4, ground := Ground.phase }, { on := 5, ground := Ground.phase }, { on := 6, ground := Ground.phase }, { on := 7, ground := Ground.phase }], guard := none }) (v := .int .i64 140) rfl (by kernel_rfl) (by kernel_rfl) (by kernel_rfl) (fun _ _ _ h => h) (Or.inl ⟨by rfl, by intro W hSw; go_simp⟩) hHeld ?_
        try simp only [Act.put, List.setIfInBounds_toArray, List.set_cons_zero, List.set_cons_succ]
        refine wpAnyH_done (by kernel_rfl) ?_ _
        exact ⟨g2, v4, N4, rfl, H, et4, K4⟩
    · refine newT (by rfl) (by kernel_rfl) H ?_
      intro g2 W hq HQ
      clear hq H
      have H := HQ
      clear HQ
      refine hK.out _ _ (by first | exact H.out | exact H.out.tl | exact H.out.tn | exact H.out.tl.tn) (fun hHeld => ?_)
      clear hK K
      try simp only [Act.put, List.setIfInBounds_toArray, List.set_cons_zero, List.set_cons_succ]
      refine wpAnyH_ready (rs := [1]) (by kernel_rfl) (by simp) ?_
      refine (AllReadyH.cons (o := { dst := some 37, op := Op.call { callee := Callee.value (Operand.func 17), args := #[Operand.const (Value.int IntKind.i64 3), Operand.const (Value.int IntKind.i64 2)], argTypes := #[3, 3] }, type := 42, pos := "law.go:27", after := #[], guard := none }) rfl (fun K hK => ?_) AllReadyH.nil)
      go_simp
      refine (LA4.out _).mono ?_
      rintro _ W ⟨rfl, hb⟩
      replace H := hidk (H.out.call hb)
      clear hb
      go_wp2_with fail
      refine hK.out _ _ (by first | exact H.out | exact H.out.tl | exact H.out.tn | exact H.out.tl.tn) (fun hHeld => ?_)
      clear hK K
      try simp only [Act.put, List.setIfInBounds_toArray, List.set_cons_zero, List.set_cons_succ]
      refine wpAnyH_ready (rs := [2]) (by kernel_rfl) (by simp) ?_
      refine (AllReadyH.cons (o := { dst := some 38, op := Op.call { callee := Callee.value (Operand.func 6), args := #[Operand.tmp 36, Operand.tmp 37], argTypes := #[25, 42] }, type := 44, pos := "law.go:27", after := #[{ on := 0, ground := Ground.data }, { on := 1, ground := Ground.data }, { on := 1, ground := Ground.chain }], guard := none }) rfl (fun K hK => ?_) AllReadyH.nil)
      go_simp
      refine (F4.out _ _ et2.out (K2.out _ (by first | exact H.out.has.l | exact H.out.has.r.l | exact H.out.has.r.r.l | exact H.out.has.r.r.r.l | exact H.out.has.r.r.r.r.l | exact H.out.has.r.r.r.r.r.l | exact H.out.has.r.r.r.r.r.r.l))).mono ?_
      rintro _ W ⟨v4, rfl, et4, ho, hb⟩
      obtain ⟨N4, HQ, K4⟩ := H.out.kout hb ho
      clear H ho hb
      have H := HQ
      clear HQ
      go_wp2_with fail
      refine hK.out _ _ (by first | exact H.out | exact H.out.tl | exact H.out.tn | exact H.out.tl.tn) (fun hHeld => ?_)
      clear hK K
      try simp only [Act.put, List.setIfInBounds_toArray, List.set_cons_zero, List.set_cons_succ]
      refine wpAnyH_take (i := 3) (oi := { dst := some 35, op := Op.move (Operand.tmp 38), type := 44, pos := "law.go:27", after := #[{ on := 2, ground := Ground.data }], guard := none }) (v := .tuple #[.agg (keA v4), .int .i64 140]) rfl (by kernel_rfl) (by kernel_rfl) (by kernel_rfl) (fun _ _ _ h => h) (Or.inl ⟨by rfl, by intro W hSw; go_simp⟩) hHeld ?_
      try simp only [Act.put, List.setIfInBounds_toArray, List.set_cons_zero, List.set_cons_succ]
      refine wpAnyH_take (i := 4) (oi := { dst := some 39, op := Op.extract (Operand.tmp 35) 0, type := 25, pos := "law.go:27", after := #[{ on := 3, ground := Ground.data }], guard := none }) (v := .agg (keA v4)) rfl (by kernel_rfl) (by kernel_rfl) (by kernel_rfl) (fun _ _ _ h => h) (Or.inl ⟨by rfl, by intro W hSw; go_simp⟩) hHeld ?_
      try simp only [Act.put, List.setIfInBounds_toArray, List.set_cons_zero, List.set_cons_succ]
      refine wpAnyH_take (i := 5) (oi := { dst := some 40, op := Op.extract (Operand.tmp 35) 1, type := 43, pos := "law.go:27", after := #[{ on := 3, ground := Ground.data }, { on := 7, ground := Ground.gcOnly Departure.lateStores }], guard := none }) (v := .int .i64 140) rfl (by kernel_rfl) (by kernel_rfl) (by kernel_rfl) (fun _ _ _ h => h) (Or.inl ⟨by rfl, by intro W hSw; go_simp⟩) hHeld ?_
      try simp only [Act.put, List.setIfInBounds_toArray, List.set_cons_zero, List.set_cons_succ]
      refine wpAnyH_ready (rs := [7]) (by kernel_rfl) (by simp) ?_
      refine (AllReadyH.cons (o := { dst := none, op := Op.store 25 (Operand.tmp 8) (Operand.tmp 39), type := 0, pos := "law.go:27", after := #[{ on := 6, ground := Ground.data }, { on := 4, ground := Ground.data }, { on := 2, ground := Ground.chain }, { on := 0, ground := Ground.phase }, { on := 1, ground := Ground.phase }, { on := 2, ground := Ground.phase }, { on := 3, ground := Ground.phase }, { on := 4, ground := Ground.phase }, { on := 5, ground := Ground.textOnly Departure.lateStores }, { on := 6, ground := Ground.phase }], guard := none }) rfl (fun K hK => ?_) AllReadyH.nil)
      refine setT (by rfl) (by rfl) (by rfl) H (by exact FK.out _) (by repeat first | exact uH .. | refine uT _ ?_) ?_
      intro W HQ
      clear H
      have H := HQ
      clear HQ
      refine hK.out _ _ (by first | exact H.out | exact H.out.tl | exact H.out.tn | exact H.out.tl.tn) (fun hHeld => ?_)
      clear hK K
      try simp only [Act.put, List.setIfInBounds_toArray, List.set_cons_zero, List.set_cons_succ]
      refine wpAnyH_take (i := 8) (oi := { dst := some 9, op := Op.assign (Operand.tmp 40), type := 43, pos := "law.go:27", after := #[{ on := 5, ground := Ground.data }, { on := 7, ground := Ground.chain }, { on := 0, ground := Ground.phase }, { on := 1, ground := Ground.phase }, { on := 2, ground := Ground.phase }, { on := 3, ground := Ground.phase }, { on := 4, ground := Ground.phase }, { on := 5, ground := Ground.phase }, { on := 6, ground := Ground.phase }, { on := 7, ground := Ground.phase }], guard := none }) (v := .int .i64 140) rfl (by kernel_rfl) (by kernel_rfl) (by kernel_rfl) (fun _ _ _ h => h) (Or.inl ⟨by rfl, by intro W hSw; go_simp⟩) hHeld ?_
      try simp only [Act.put, List.setIfInBounds_toArray, List.set_cons_zero, List.set_cons_succ]
      refine wpAnyH_done (by kernel_rfl) ?_ _
      exact ⟨g2, v4, N4, rfl, H, et4, K4⟩
  rintro a' W ⟨g8, v4, N4, rfl, HQ, et4, K4⟩
  clear H
  have H := HQ
  clear HQ
  try simp only [Act.put, List.setIfInBounds_toArray, List.set_cons_zero, List.set_cons_succ]
  go_wp2_with (first
    | ((with_reducible show wpList _ _ _ (⟨_, .build _ _, _, _, _, _⟩ :: _) _ _); refine bldS (by rfl) (by with_reducible exact builtCC) (by rfl) ?_; try simp only [Act.put, List.setIfInBounds_toArray, List.set_cons_zero, List.set_cons_succ])
      | ((with_reducible show wpList _ _ _ (⟨_, .build _ _, _, _, _, _⟩ :: _) _ _); refine bldS (by rfl) (by with_reducible exact builtCE) (by rfl) ?_; try simp only [Act.put, List.setIfInBounds_toArray, List.set_cons_zero, List.set_cons_succ])
      | ((with_reducible show wpList _ _ _ (⟨_, .build _ _, _, _, _, _⟩ :: _) _ _); refine bldS (by rfl) (by with_reducible exact builtCI) (by rfl) ?_; try simp only [Act.put, List.setIfInBounds_toArray, List.set_cons_zero, List.set_cons_succ])
      | ((with_reducible show wpList _ _ _ (⟨_, .build _ _, _, _, _, _⟩ :: _) _ _); refine bldS (by rfl) (by with_reducible exact B5.out W.heap.size) (by rfl) ?_; try simp only [Act.put, List.setIfInBounds_toArray, List.set_cons_zero, List.set_cons_succ])
      | ((with_reducible show wpList _ _ _ (⟨_, .build _ _, _, _, _, _⟩ :: _) _ _); refine bldS (by rfl) (by with_reducible exact builtR_KE 3 4) (by rfl) ?_; try simp only [Act.put, List.setIfInBounds_toArray, List.set_cons_zero, List.set_cons_succ])
      | ((with_reducible show wpList _ _ _ (⟨_, .build _ _, _, _, _, _⟩ :: _) _ _); refine bldS (by rfl) (by with_reducible exact builtK_0) (by rfl) ?_; try simp only [Act.put, List.setIfInBounds_toArray, List.set_cons_zero, List.set_cons_succ])
    | ((with_reducible show wpList _ _ _ (⟨some 4, .alloc _, _, _, _, _⟩ :: _) _ _); refine newS (by rfl) (by kernel_rfl) H ?_; clear H; intro g4 W hq H; clear hq; try simp only [Act.put, List.setIfInBounds_toArray, List.set_cons_zero, List.set_cons_succ])
      | ((with_reducible show wpList _ _ _ (⟨some 6, .alloc _, _, _, _, _⟩ :: _) _ _); refine newS (by rfl) (by kernel_rfl) H ?_; clear H; intro g6 W hq H; clear hq; try simp only [Act.put, List.setIfInBounds_toArray, List.set_cons_zero, List.set_cons_succ])
      | ((with_reducible show wpList _ _ _ (⟨some 10, .alloc _, _, _, _, _⟩ :: _) _ _); refine newS (by rfl) (by kernel_rfl) H ?_; clear H; intro g10 W hq H; clear hq; try simp only [Act.put, List.setIfInBounds_toArray, List.set_cons_zero, List.set_cons_succ])
      | ((with_reducible show wpList _ _ _ (⟨some 11, .alloc _, _, _, _, _⟩ :: _) _ _); refine newS (by rfl) (by kernel_rfl) H ?_; clear H; intro g11 W hq H; clear hq; try simp only [Act.put, List.setIfInBounds_toArray, List.set_cons_zero, List.set_cons_succ])
      | ((with_reducible show wpList _ _ _ (⟨some 13, .alloc _, _, _, _, _⟩ :: _) _ _); refine newS (by rfl) (by kernel_rfl) H ?_; clear H; intro g13 W hq H; clear hq; try simp only [Act.put, List.setIfInBounds_toArray, List.set_cons_zero, List.set_cons_succ])
    | ((with_reducible show wpList _ _ _ (⟨_, .store _ _ _, _, _, _, _⟩ :: _) _ _); refine setS (by rfl) (by rfl) (by rfl) H (by first | exact FK.out _ | exact FI.out) (by repeat first | exact uH .. | refine uT _ ?_) ?_; clear H; intro W H; try simp only [Act.put, List.setIfInBounds_toArray, List.set_cons_zero, List.set_cons_succ])
    | ((with_reducible show wpList _ _ _ (⟨_, .load _ _, _, _, _, _⟩ :: _) _ _); refine rdS (by rfl) (by rfl) (by decide +kernel) H (by repeat constructor) ?_; try simp only [Act.put, List.setIfInBounds_toArray, List.set_cons_zero, List.set_cons_succ])
    | ((with_reducible show wpList _ _ _ (⟨_, .buildSlice _ _ _, _, _, _, _⟩ :: _) _ _); refine bslS (by rfl) (HBU.out _) (by rfl) ?_; have HQ := hidk (H.out.lit (itA cI) 40); clear H; have H := HQ; clear HQ; try simp only [Act.put, List.setIfInBounds_toArray, List.set_cons_zero, List.set_cons_succ])
    | ((with_reducible refine (F5.out _ _ _ et2.out (K2.out _ (by first | exact H.out.has.l | exact H.out.has.r.l | exact H.out.has.r.r.l | exact H.out.has.r.r.r.l | exact H.out.has.r.r.r.r.l | exact H.out.has.r.r.r.r.r.l | exact H.out.has.r.r.r.r.r.r.l)) H.out.has.l).mono ?_); rintro _ W ⟨v5, rfl, et5, ho, hb⟩; obtain ⟨N5, HQ, K5⟩ := H.out.kout hb ho; have d4 : ((v5.n : Int) == (2 : Int)) = true := (by rw [ho.n, show v5.l = [uI 1 1, cI] from congrArg KeT.l et5]; rfl); have d5 : (v5.g == (3 : Int)) = true := (by rw [show v5.g = 3 from congrArg KeT.g et5]; rfl); replace et5 := hidk et5; clear H ho hb; have H := HQ; clear HQ; try simp only [Act.put, List.setIfInBounds_toArray, List.set_cons_zero, List.set_cons_succ])
    | ((with_reducible refine (F6.out _ _ et5.out (K5.out _ (by first | exact H.out.has.l | exact H.out.has.r.l | exact H.out.has.r.r.l | exact H.out.has.r.r.r.l | exact H.out.has.r.r.r.r.l | exact H.out.has.r.r.r.r.r.l | exact H.out.has.r.r.r.r.r.r.l))).mono ?_); rintro _ W ⟨v6, rfl, et6, ho, hb⟩; obtain ⟨N6, HQ, K6⟩ := H.out.kout hb ho; replace et6 := hidk et6; clear H ho hb; have H := HQ; clear HQ; try simp only [Act.put, List.setIfInBounds_toArray, List.set_cons_zero, List.set_cons_succ])
    | ((with_reducible refine (CK.out _).mono ?_); rintro _ W ⟨rfl, hb⟩; replace H := hidk (H.out.call hb); clear hb; try simp only [Act.put, List.setIfInBounds_toArray, List.set_cons_zero, List.set_cons_succ])
    | ((with_reducible refine (CL.out _).mono ?_); rintro _ W ⟨rfl, hb⟩; replace H := hidk (H.out.call hb); clear hb; try simp only [Act.put, List.setIfInBounds_toArray, List.set_cons_zero, List.set_cons_succ])
    | ((with_reducible refine (CZ.out _).mono ?_); rintro _ W ⟨rfl, hb⟩; replace H := hidk (H.out.call hb); clear hb; try simp only [Act.put, List.setIfInBounds_toArray, List.set_cons_zero, List.set_cons_succ])
    | ((with_reducible refine (CM.out _ _ et5.out (K5.out _ (by first | exact H.out.has.l | exact H.out.has.r.l | exact H.out.has.r.r.l | exact H.out.has.r.r.r.l | exact H.out.has.r.r.r.r.l | exact H.out.has.r.r.r.r.r.l | exact H.out.has.r.r.r.r.r.r.l))).mono ?_); rintro _ W ⟨rfl, hb⟩; replace H := hidk (H.out.call hb); clear hb; try simp only [Act.put, List.setIfInBounds_toArray, List.set_cons_zero, List.set_cons_succ])
    | ((with_reducible show wpList _ _ _ (⟨_, .load _ _, _, _, _, _⟩ :: _) _ _); refine fldS (by rfl) (by rfl) (by decide +kernel) H (by repeat constructor) (by first | exact keA_0 _ | exact keA_1 _ | exact keA_2 _ | exact keA_3 _) ?_; try simp only [Act.put, List.setIfInBounds_toArray, List.set_cons_zero, List.set_cons_succ])
    | fail)

  go_ret
  exact ⟨rfl, H.out.b⟩
end Go.Proofs.Ytjpmmbmhkpgjcab
