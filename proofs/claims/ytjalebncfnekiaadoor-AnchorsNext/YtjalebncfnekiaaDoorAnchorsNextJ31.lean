/- Texts of our own that the row of AnchorsNext leans on, part 31. -/
import Derived.Test.YtjalebncfnekiaaDoorAnchorsNextJ0
import Derived.Test.YtjalebncfnekiaaDoorAnchorsNextJ20
import Derived.Test.YtjalebncfnekiaaDoorAnchorsNextJ24
import Derived.Test.YtjalebncfnekiaaDoorAnchorsNextJ25
import Derived.Test.YtjalebncfnekiaaDoorAnchorsNextJ27
import Derived.Test.YtjalebncfnekiaaDoorAnchorsNextJ30
/- HistoryHeads. -/
namespace Go.Proofs.YtjalebncfnekiaaDoor
open Go.RowKit Nums Sums
set_option linter.unusedVariables false
set_option linter.unusedSimpArgs false
set_option maxRecDepth 100000
theorem inL_of {w : World} {a : Option Addr} {len cap : Nat} {l : List ItT} (h : IReads w a len cap l) (hc0 : a = none → cap = 0) (hm : ∀ x ∈ l, CmI x) (hb : bigL l = false) : InL w a len cap l := by
  obtain ⟨h1, h2⟩ := bigL_false hb
  exact ⟨h, hc0, fun x hx => (hm x hx).in (by have := h2 x hx; omega), by have := h.ln; omega⟩
structure HeldG (w : World) (L : List ItT) (len1 : Nat) (aa : Option Addr) (ca : Nat) (X : Array Value) (V : World) : Prop where
  b : Below w.heap.size w V
  o : IReads V aa len1 ca L
  g : V.heap[w.heap.size]? = some (.cells X 48 (0, 0))
theorem HeldG.keep {w : World} {L : List ItT} {len1 : Nat} {aa : Option Addr} {ca : Nat} {X : Array Value} {V V' : World} (h : HeldG w L len1 aa ca X V) (hb : Below V.heap.size V V') : HeldG w L len1 aa ca X V' :=
  ⟨h.b.trans (hb.mono h.b.size), h.o.keep hb, (hb.block _ (heap_lt h.g)).trans h.g⟩
structure HeldN (w : World) (K A : Array Value) (V : World) : Prop where
  b : Below w.heap.size w V
  k : V.heap[w.heap.size]? = some (.cells K 38 (0, 0))
  a : V.heap[w.heap.size + 1]? = some (.cells A 30 (0, 0))
theorem HeldN.keep {w : World} {K A : Array Value} {V V' : World} (h : HeldN w K A V) (hb : Below V.heap.size V V') : HeldN w K A V' :=
  ⟨h.b.trans (hb.mono h.b.size), (hb.block _ (heap_lt h.k)).trans h.k, (hb.block _ (heap_lt h.a)).trans h.a⟩
theorem heldN (w : World) (K A : Array Value) : HeldN w K A ((w.alloc (.cells K 38)).alloc (.cells A 30)) := by
  have h1 : (w.alloc (.cells K 38)).heap.size = w.heap.size + 1 := by show (w.heap.push _).size = _; simp
  refine ⟨((Below.refl _ _).alloc (Nat.le_refl _) _).alloc (by omega) _, heap_keep (heap_alloc_new w _), ?_⟩
  have := heap_alloc_new (w.alloc (.cells K 38)) (.cells A 30)
  rw [h1] at this
  exact this
structure HeldR (w : World) (K A : Array Value) (g : Nat) (V : World) : Prop where
  n : HeldN w K A V
  g : V.heap[g]? = some (.cells A 30 (0, 0))
theorem HeldR.keep {w : World} {K A : Array Value} {g : Nat} {V V' : World} (h : HeldR w K A g V) (hb : Below V.heap.size V V') : HeldR w K A g V' := ⟨h.n.keep hb, (hb.block _ (heap_lt h.g)).trans h.g⟩
theorem HeldR.drew {w : World} {K A : Array Value} {g : Nat} {V : World} (h : HeldR w K A g V) : HeldR w K A g V.drew := h.keep (Below.refl _ _).drew
theorem yieldsIf_r16 {ops : Array Oper} {w : World} {K A : Array Value} {g : Nat} {op : Oper} {c : Act} (hw : Region.wanted op (yielded ops c.tmps) = true) (hi : (Tryd.prog.info? 30).map (·.size) = some A.size) (ho : op.op = .load 30 (.tmp 16) := by rfl) (hx : c.eval (.tmp 16) = .pointer (some ⟨g, 0, none⟩) := by rfl) : YieldsIf Tryd.prog ops (HeldR w K A g) op (.agg A) c :=
  yieldsIf_mid hw 30 (.tmp 16) ho g 0 hx A _ (fun V h => by have := range_row (l := A.toList) (W := V) (g := g) (by simpa using h.g); exact this) Tryd.underlying30 rfl hi
theorem yieldsIf_r8 {ops : Array Oper} {w : World} {K A : Array Value} {g : Nat} {op : Oper} {c : Act} (hw : Region.wanted op (yielded ops c.tmps) = true) (hi : (Tryd.prog.info? 30).map (·.size) = some A.size) (ho : op.op = .load 30 (.tmp 8) := by rfl) (hx : c.eval (.tmp 8) = .pointer (some ⟨w.heap.size + 1, 0, none⟩) := by rfl) : YieldsIf Tryd.prog ops (HeldR w K A g) op (.agg A) c :=
  yieldsIf_mid hw 30 (.tmp 8) ho (w.heap.size + 1) 0 hx A _ (fun V h => by have := range_row (l := A.toList) (W := V) (g := w.heap.size + 1) (by simpa using h.n.a); exact this) Tryd.underlying30 rfl hi
set_option maxHeartbeats 16000000 in
theorem next_big (w : World) (K A : Array Value) (a : Option Addr) (len cap : Nat) (m : Int) (p : Option Addr) (pl pc : Nat) (e : Int) (BG : Hid (∀ W, Below w.heap.size w W → Calls Tryd.prog 8 #[.slice a len cap] W fun x w' => x = .returned (.bool true) ∧ W = w')) (AD : Hid (∀ W, Below w.heap.size w W → Calls Tryd.prog 14 #[] W fun e w' => e = .returned (.bool true) ∧ Below W.heap.size W w')) :
    Calls Tryd.prog 4 #[.agg K, .slice a len cap, .agg A, .int .i64 m, .slice p pl pc, .int .i64 e] w fun x w' => x = .returned (.bool true) ∧ Below w.heap.size w w' := by
  have H0 := hidk (heldN w K A)
  go_enter Tryd.func4, Tryd.ntmps4
  go_wp2_with fail
  refine (BG.out _ H0.out.b).mono ?_
  rintro x w1 ⟨rfl, rfl⟩
  clear BG
  go_wp2_with fail
  refine (AD.out _ H0.out.b).mono ?_
  rintro x v9 ⟨rfl, hb9⟩
  have HZ9 := hidk (H0.out.b.trans (hb9.mono H0.out.b.size))
  clear hb9
  go_wp2
  go_ret
  exact ⟨rfl, HZ9.out⟩
set_option maxHeartbeats 16000000 in
theorem next_long (w : World) (K A : Array Value) (a : Option Addr) (len cap : Nat) (m : Int) (p : Option Addr) (pl pc : Nat) (e : Int) (BG : Hid (∀ W, Below w.heap.size w W → Calls Tryd.prog 8 #[.slice a len cap] W fun x w' => x = .returned (.bool false) ∧ W = w')) (AD : Hid (∀ W, Below w.heap.size w W → Calls Tryd.prog 14 #[] W fun e w' => e = .returned (.bool true) ∧ Below W.heap.size W w')) (dp : decide ((100 : Int) < (pl : Int)) = true) :
    Calls Tryd.prog 4 #[.agg K, .slice a len cap, .agg A, .int .i64 m, .slice p pl pc, .int .i64 e] w fun x w' => x = .returned (.bool true) ∧ Below w.heap.size w w' := by
  have H0 := hidk (heldN w K A)
  go_enter Tryd.func4, Tryd.ntmps4
  go_wp2_with fail
  refine (BG.out _ H0.out.b).mono ?_
  rintro x w1 ⟨rfl, rfl⟩
  clear BG
  go_wp2_with fail
  refine (AD.out _ H0.out.b).mono ?_
  rintro x v9 ⟨rfl, hb9⟩
  have HZ9 := hidk (H0.out.b.trans (hb9.mono H0.out.b.size))
  clear hb9
  go_wp2
  go_ret
  exact ⟨rfl, HZ9.out⟩
set_option maxHeartbeats 16000000 in
theorem next_no (w : World) (K A : Array Value) (a : Option Addr) (len cap : Nat) (m : Int) (p : Option Addr) (pl pc : Nat) (e : Int) (z : Int) (HSK : Hid ((Tryd.prog.info? 38).map (·.size) = some K.size)) (HSA : Hid ((Tryd.prog.info? 30).map (·.size) = some A.size)) (BG : Hid (∀ W, Below w.heap.size w W → Calls Tryd.prog 8 #[.slice a len cap] W fun x w' => x = .returned (.bool false) ∧ W = w')) (AD : Hid (∀ W, Below w.heap.size w W → Calls Tryd.prog 14 #[] W fun e w' => e = .returned (.bool true) ∧ Below W.heap.size W w')) (dp : decide ((100 : Int) < (pl : Int)) = false) (A1 : Hid (∀ W, Below w.heap.size w W → Calls Tryd.prog 16 #[.agg K, .slice a len cap, .agg A, .int .i64 m, .slice p pl pc] W fun e w' => e = .returned (.int .i64 z) ∧ Below W.heap.size W w')) (hne : (!(z == 0)) = true) (hne2 : (z != 0) = true) :
    Calls Tryd.prog 4 #[.agg K, .slice a len cap, .agg A, .int .i64 m, .slice p pl pc, .int .i64 e] w fun x w' => x = .returned (.bool true) ∧ Below w.heap.size w w' := by
  have H0 := hidk (heldN w K A)
  go_enter Tryd.func4, Tryd.ntmps4
  go_wp2_with fail
  refine (BG.out _ H0.out.b).mono ?_
  rintro x w1 ⟨rfl, rfl⟩
  clear BG
  go_wp2_with (first
    | ((with_reducible show aD 27 _ _ _ _ _ _ _ _ _ _ _); refine wpList_load_row_w (by rfl) 38 (.tmp 6) rfl w.heap.size rfl 38 K (0, 0) _ H0.out.k Tryd.underlying38 rfl HSK.out ?_; try simp only [Act.put, pS1, pS2, pS3])
    | ((with_reducible show aD 29 _ _ _ _ _ _ _ _ _ _ _); refine wpList_load_row_w (by rfl) 30 (.tmp 8) rfl (w.heap.size + 1) rfl 30 A (0, 0) _ H0.out.a Tryd.underlying30 rfl HSA.out ?_; try simp only [Act.put, pS1, pS2, pS3])
    | fail)
  refine (A1.out _ H0.out.b).mono ?_
  rintro x v1 ⟨rfl, hbj⟩
  have H1 := hidk (H0.out.keep hbj)
  clear hbj H0 A1
  go_wp2_with fail
  refine (AD.out _ H1.out.b).mono ?_
  rintro x v9 ⟨rfl, hb9⟩
  have HZ9 := hidk (H1.out.b.trans (hb9.mono H1.out.b.size))
  clear hb9
  go_wp2
  go_ret
  exact ⟨rfl, HZ9.out⟩
set_option maxHeartbeats 16000000 in
theorem next_low (w : World) (K A : Array Value) (a : Option Addr) (len cap : Nat) (m : Int) (p : Option Addr) (pl pc : Nat) (e : Int) (HSK : Hid ((Tryd.prog.info? 38).map (·.size) = some K.size)) (HSA : Hid ((Tryd.prog.info? 30).map (·.size) = some A.size)) (BG : Hid (∀ W, Below w.heap.size w W → Calls Tryd.prog 8 #[.slice a len cap] W fun x w' => x = .returned (.bool false) ∧ W = w')) (AD : Hid (∀ W, Below w.heap.size w W → Calls Tryd.prog 14 #[] W fun e w' => e = .returned (.bool true) ∧ Below W.heap.size W w')) (dp : decide ((100 : Int) < (pl : Int)) = false) (A1 : Hid (∀ W, Below w.heap.size w W → Calls Tryd.prog 16 #[.agg K, .slice a len cap, .agg A, .int .i64 m, .slice p pl pc] W fun e w' => e = .returned (.int .i64 0) ∧ Below W.heap.size W w')) (X ZI : Array Value) (HSX : Hid ((Tryd.prog.info? 48).map (·.size) = some X.size)) (H1X : Hid (X.all (·.oneCell') = true)) (HAI : Hid ((Tryd.prog.info? 48).map (fun i => (i.zero, i.size)) = some (some (.agg ZI), ZI.size))) (HZX : Hid (ZI.size = X.size)) (IT : Hid (∀ W, Calls Tryd.prog 17 #[.int .i64 e, .agg A] W fun x w' => x = .returned (.agg X) ∧ Below W.heap.size W w')) (MY : Hid (∀ W, Below w.heap.size w W → Calls Tryd.prog 18 #[.slice a len cap, .agg X] W fun e w' => e = .returned (.int .i64 102) ∧ Below W.heap.size W w')) :
    Calls Tryd.prog 4 #[.agg K, .slice a len cap, .agg A, .int .i64 m, .slice p pl pc, .int .i64 e] w fun x w' => x = .returned (.bool true) ∧ Below w.heap.size w w' := by
  have H0 := hidk (heldN w K A)
  go_enter Tryd.func4, Tryd.ntmps4
  go_wp2_with fail
  refine (BG.out _ H0.out.b).mono ?_
  rintro x w1 ⟨rfl, rfl⟩
  clear BG
  go_wp2_with (first
    | ((with_reducible show aD 27 _ _ _ _ _ _ _ _ _ _ _); refine wpList_load_row_w (by rfl) 38 (.tmp 6) rfl w.heap.size rfl 38 K (0, 0) _ H0.out.k Tryd.underlying38 rfl HSK.out ?_; try simp only [Act.put, pS1, pS2, pS3])
    | ((with_reducible show aD 29 _ _ _ _ _ _ _ _ _ _ _); refine wpList_load_row_w (by rfl) 30 (.tmp 8) rfl (w.heap.size + 1) rfl 30 A (0, 0) _ H0.out.a Tryd.underlying30 rfl HSA.out ?_; try simp only [Act.put, pS1, pS2, pS3])
    | fail)
  refine (A1.out _ H0.out.b).mono ?_
  rintro x v1 ⟨rfl, hbj⟩
  have H1 := hidk (H0.out.keep hbj)
  clear hbj H0 A1
  go_wp2_with (first
    | ((with_reducible show aD 37 _ _ _ _ _ _ _ _ _ _ _); refine wpList_load_row_w (by rfl) 30 (.tmp 8) rfl (w.heap.size + 1) rfl 30 A (0, 0) _ H1.out.a Tryd.underlying30 rfl HSA.out ?_; try simp only [Act.put, pS1, pS2, pS3])
    | fail)
  refine (IT.out _).mono ?_
  rintro x v2 ⟨rfl, hbj⟩
  have H2 := hidk (H1.out.keep hbj)
  clear hbj H1 IT
  go_wp2_with (first
    | ((with_reducible show aD 13 _ _ _ _ _ _ _ _ _ _ _); refine wpList_new_var rfl 48 rfl ZI HAI.out ?_; intro g13 u3 HM; have HG := hidk HM.out.row; try simp only [Act.put, pS1, pS2, pS3])
    | (refine wpList_set_var rfl 48 (.tmp 13) (.tmp 38) rfl g13 X rfl rfl 48 ZI HG.out HSX.out HZX.out H1X.out ?_; intro v3 HW; have hbj : Below v2.heap.size v2 v3 := HW.out.below _ _ HM.out.below (by rw [HM.out.new]; exact Nat.le_refl _); have HG13 := hidk HW.out.row; have H3 := hidk (H2.out.keep hbj); clear hbj HM HG HW; try simp only [Act.put, pS1, pS2, pS3])
    | ((with_reducible show aD 40 _ _ _ _ _ _ _ _ _ _ _); refine wpList_load_row_w (by rfl) 48 (.tmp 13) rfl g13 rfl 48 X (0, 0) _ HG13.out Tryd.underlying48 rfl HSX.out ?_; try simp only [Act.put, pS1, pS2, pS3])
    | fail)
  refine (MY.out _ H3.out.b).mono ?_
  rintro x v4 ⟨rfl, hbj⟩
  have H4 := hidk (H3.out.keep hbj)
  have HG13_4 := hidk ((hbj.block _ (heap_lt HG13.out)).trans HG13.out)
  clear hbj H3 H2 HG13 MY
  go_wp2_with fail
  refine (AD.out _ H4.out.b).mono ?_
  rintro x v9 ⟨rfl, hb9⟩
  have HZ9 := hidk (H4.out.b.trans (hb9.mono H4.out.b.size))
  clear hb9
  go_wp2
  go_ret
  exact ⟨rfl, HZ9.out⟩
set_option maxHeartbeats 16000000 in
theorem next_form (w : World) (K A : Array Value) (a : Option Addr) (len cap : Nat) (m : Int) (p : Option Addr) (pl pc : Nat) (e : Int) (HSK : Hid ((Tryd.prog.info? 38).map (·.size) = some K.size)) (HSA : Hid ((Tryd.prog.info? 30).map (·.size) = some A.size)) (BG : Hid (∀ W, Below w.heap.size w W → Calls Tryd.prog 8 #[.slice a len cap] W fun x w' => x = .returned (.bool false) ∧ W = w')) (AD : Hid (∀ W, Below w.heap.size w W → Calls Tryd.prog 14 #[] W fun e w' => e = .returned (.bool true) ∧ Below W.heap.size W w')) (dp : decide ((100 : Int) < (pl : Int)) = false) (A1 : Hid (∀ W, Below w.heap.size w W → Calls Tryd.prog 16 #[.agg K, .slice a len cap, .agg A, .int .i64 m, .slice p pl pc] W fun e w' => e = .returned (.int .i64 0) ∧ Below W.heap.size W w')) (X ZI : Array Value) (HSX : Hid ((Tryd.prog.info? 48).map (·.size) = some X.size)) (H1X : Hid (X.all (·.oneCell') = true)) (HAI : Hid ((Tryd.prog.info? 48).map (fun i => (i.zero, i.size)) = some (some (.agg ZI), ZI.size))) (HZX : Hid (ZI.size = X.size)) (IT : Hid (∀ W, Calls Tryd.prog 17 #[.int .i64 e, .agg A] W fun x w' => x = .returned (.agg X) ∧ Below W.heap.size W w')) (MY : Hid (∀ W, Below w.heap.size w W → Calls Tryd.prog 18 #[.slice a len cap, .agg X] W fun e w' => e = .returned (.int .i64 100) ∧ Below W.heap.size W w')) (de : decide (e < (1 : Int)) = true) :
    Calls Tryd.prog 4 #[.agg K, .slice a len cap, .agg A, .int .i64 m, .slice p pl pc, .int .i64 e] w fun x w' => x = .returned (.bool true) ∧ Below w.heap.size w w' := by
  have H0 := hidk (heldN w K A)
  go_enter Tryd.func4, Tryd.ntmps4
  go_wp2_with fail
  refine (BG.out _ H0.out.b).mono ?_
  rintro x w1 ⟨rfl, rfl⟩
  clear BG
  go_wp2_with (first
    | ((with_reducible show aD 27 _ _ _ _ _ _ _ _ _ _ _); refine wpList_load_row_w (by rfl) 38 (.tmp 6) rfl w.heap.size rfl 38 K (0, 0) _ H0.out.k Tryd.underlying38 rfl HSK.out ?_; try simp only [Act.put, pS1, pS2, pS3])
    | ((with_reducible show aD 29 _ _ _ _ _ _ _ _ _ _ _); refine wpList_load_row_w (by rfl) 30 (.tmp 8) rfl (w.heap.size + 1) rfl 30 A (0, 0) _ H0.out.a Tryd.underlying30 rfl HSA.out ?_; try simp only [Act.put, pS1, pS2, pS3])
    | fail)
  refine (A1.out _ H0.out.b).mono ?_
  rintro x v1 ⟨rfl, hbj⟩
  have H1 := hidk (H0.out.keep hbj)
  clear hbj H0 A1
  go_wp2_with (first
    | ((with_reducible show aD 37 _ _ _ _ _ _ _ _ _ _ _); refine wpList_load_row_w (by rfl) 30 (.tmp 8) rfl (w.heap.size + 1) rfl 30 A (0, 0) _ H1.out.a Tryd.underlying30 rfl HSA.out ?_; try simp only [Act.put, pS1, pS2, pS3])
    | fail)
  refine (IT.out _).mono ?_
  rintro x v2 ⟨rfl, hbj⟩
  have H2 := hidk (H1.out.keep hbj)
  clear hbj H1 IT
  go_wp2_with (first
    | ((with_reducible show aD 13 _ _ _ _ _ _ _ _ _ _ _); refine wpList_new_var rfl 48 rfl ZI HAI.out ?_; intro g13 u3 HM; have HG := hidk HM.out.row; try simp only [Act.put, pS1, pS2, pS3])
    | (refine wpList_set_var rfl 48 (.tmp 13) (.tmp 38) rfl g13 X rfl rfl 48 ZI HG.out HSX.out HZX.out H1X.out ?_; intro v3 HW; have hbj : Below v2.heap.size v2 v3 := HW.out.below _ _ HM.out.below (by rw [HM.out.new]; exact Nat.le_refl _); have HG13 := hidk HW.out.row; have H3 := hidk (H2.out.keep hbj); clear hbj HM HG HW; try simp only [Act.put, pS1, pS2, pS3])
    | ((with_reducible show aD 40 _ _ _ _ _ _ _ _ _ _ _); refine wpList_load_row_w (by rfl) 48 (.tmp 13) rfl g13 rfl 48 X (0, 0) _ HG13.out Tryd.underlying48 rfl HSX.out ?_; try simp only [Act.put, pS1, pS2, pS3])
    | fail)
  refine (MY.out _ H3.out.b).mono ?_
  rintro x v4 ⟨rfl, hbj⟩
  have H4 := hidk (H3.out.keep hbj)
  have HG13_4 := hidk ((hbj.block _ (heap_lt HG13.out)).trans HG13.out)
  clear hbj H3 H2 HG13 MY
  go_wp2_with fail
  refine (AD.out _ H4.out.b).mono ?_
  rintro x v9 ⟨rfl, hb9⟩
  have HZ9 := hidk (H4.out.b.trans (hb9.mono H4.out.b.size))
  clear hb9
  go_wp2
  go_ret
  exact ⟨rfl, HZ9.out⟩
set_option maxHeartbeats 16000000 in
theorem next_form2 (w : World) (K A : Array Value) (a : Option Addr) (len cap : Nat) (m : Int) (p : Option Addr) (pl pc : Nat) (e : Int) (HSK : Hid ((Tryd.prog.info? 38).map (·.size) = some K.size)) (HSA : Hid ((Tryd.prog.info? 30).map (·.size) = some A.size)) (BG : Hid (∀ W, Below w.heap.size w W → Calls Tryd.prog 8 #[.slice a len cap] W fun x w' => x = .returned (.bool false) ∧ W = w')) (AD : Hid (∀ W, Below w.heap.size w W → Calls Tryd.prog 14 #[] W fun e w' => e = .returned (.bool true) ∧ Below W.heap.size W w')) (dp : decide ((100 : Int) < (pl : Int)) = false) (A1 : Hid (∀ W, Below w.heap.size w W → Calls Tryd.prog 16 #[.agg K, .slice a len cap, .agg A, .int .i64 m, .slice p pl pc] W fun e w' => e = .returned (.int .i64 0) ∧ Below W.heap.size W w')) (X ZI : Array Value) (HSX : Hid ((Tryd.prog.info? 48).map (·.size) = some X.size)) (H1X : Hid (X.all (·.oneCell') = true)) (HAI : Hid ((Tryd.prog.info? 48).map (fun i => (i.zero, i.size)) = some (some (.agg ZI), ZI.size))) (HZX : Hid (ZI.size = X.size)) (IT : Hid (∀ W, Calls Tryd.prog 17 #[.int .i64 e, .agg A] W fun x w' => x = .returned (.agg X) ∧ Below W.heap.size W w')) (MY : Hid (∀ W, Below w.heap.size w W → Calls Tryd.prog 18 #[.slice a len cap, .agg X] W fun e w' => e = .returned (.int .i64 100) ∧ Below W.heap.size W w')) (de : decide (e < (1 : Int)) = false) (de2 : decide ((900000000 : Int) < e) = true) :
    Calls Tryd.prog 4 #[.agg K, .slice a len cap, .agg A, .int .i64 m, .slice p pl pc, .int .i64 e] w fun x w' => x = .returned (.bool true) ∧ Below w.heap.size w w' := by
  have H0 := hidk (heldN w K A)
  go_enter Tryd.func4, Tryd.ntmps4
  go_wp2_with fail
  refine (BG.out _ H0.out.b).mono ?_
  rintro x w1 ⟨rfl, rfl⟩
  clear BG
  go_wp2_with (first
    | ((with_reducible show aD 27 _ _ _ _ _ _ _ _ _ _ _); refine wpList_load_row_w (by rfl) 38 (.tmp 6) rfl w.heap.size rfl 38 K (0, 0) _ H0.out.k Tryd.underlying38 rfl HSK.out ?_; try simp only [Act.put, pS1, pS2, pS3])
    | ((with_reducible show aD 29 _ _ _ _ _ _ _ _ _ _ _); refine wpList_load_row_w (by rfl) 30 (.tmp 8) rfl (w.heap.size + 1) rfl 30 A (0, 0) _ H0.out.a Tryd.underlying30 rfl HSA.out ?_; try simp only [Act.put, pS1, pS2, pS3])
    | fail)
  refine (A1.out _ H0.out.b).mono ?_
  rintro x v1 ⟨rfl, hbj⟩
  have H1 := hidk (H0.out.keep hbj)
  clear hbj H0 A1
  go_wp2_with (first
    | ((with_reducible show aD 37 _ _ _ _ _ _ _ _ _ _ _); refine wpList_load_row_w (by rfl) 30 (.tmp 8) rfl (w.heap.size + 1) rfl 30 A (0, 0) _ H1.out.a Tryd.underlying30 rfl HSA.out ?_; try simp only [Act.put, pS1, pS2, pS3])
    | fail)
  refine (IT.out _).mono ?_
  rintro x v2 ⟨rfl, hbj⟩
  have H2 := hidk (H1.out.keep hbj)
  clear hbj H1 IT
  go_wp2_with (first
    | ((with_reducible show aD 13 _ _ _ _ _ _ _ _ _ _ _); refine wpList_new_var rfl 48 rfl ZI HAI.out ?_; intro g13 u3 HM; have HG := hidk HM.out.row; try simp only [Act.put, pS1, pS2, pS3])
    | (refine wpList_set_var rfl 48 (.tmp 13) (.tmp 38) rfl g13 X rfl rfl 48 ZI HG.out HSX.out HZX.out H1X.out ?_; intro v3 HW; have hbj : Below v2.heap.size v2 v3 := HW.out.below _ _ HM.out.below (by rw [HM.out.new]; exact Nat.le_refl _); have HG13 := hidk HW.out.row; have H3 := hidk (H2.out.keep hbj); clear hbj HM HG HW; try simp only [Act.put, pS1, pS2, pS3])
    | ((with_reducible show aD 40 _ _ _ _ _ _ _ _ _ _ _); refine wpList_load_row_w (by rfl) 48 (.tmp 13) rfl g13 rfl 48 X (0, 0) _ HG13.out Tryd.underlying48 rfl HSX.out ?_; try simp only [Act.put, pS1, pS2, pS3])
    | fail)
  refine (MY.out _ H3.out.b).mono ?_
  rintro x v4 ⟨rfl, hbj⟩
  have H4 := hidk (H3.out.keep hbj)
  have HG13_4 := hidk ((hbj.block _ (heap_lt HG13.out)).trans HG13.out)
  clear hbj H3 H2 HG13 MY
  go_wp2_with fail
  refine (AD.out _ H4.out.b).mono ?_
  rintro x v9 ⟨rfl, hb9⟩
  have HZ9 := hidk (H4.out.b.trans (hb9.mono H4.out.b.size))
  clear hb9
  go_wp2
  go_ret
  exact ⟨rfl, HZ9.out⟩
set_option maxHeartbeats 16000000 in
theorem next_yes (w : World) (K A : Array Value) (a : Option Addr) (len cap : Nat) (m : Int) (p : Option Addr) (pl pc : Nat) (e : Int) (HSK : Hid ((Tryd.prog.info? 38).map (·.size) = some K.size)) (HSA : Hid ((Tryd.prog.info? 30).map (·.size) = some A.size)) (BG : Hid (∀ W, Below w.heap.size w W → Calls Tryd.prog 8 #[.slice a len cap] W fun x w' => x = .returned (.bool false) ∧ W = w')) (AD : Hid (∀ W, Below w.heap.size w W → Calls Tryd.prog 14 #[] W fun e w' => e = .returned (.bool true) ∧ Below W.heap.size W w')) (dp : decide ((100 : Int) < (pl : Int)) = false) (A1 : Hid (∀ W, Below w.heap.size w W → Calls Tryd.prog 16 #[.agg K, .slice a len cap, .agg A, .int .i64 m, .slice p pl pc] W fun e w' => e = .returned (.int .i64 0) ∧ Below W.heap.size W w')) (X ZI : Array Value) (HSX : Hid ((Tryd.prog.info? 48).map (·.size) = some X.size)) (H1X : Hid (X.all (·.oneCell') = true)) (HAI : Hid ((Tryd.prog.info? 48).map (fun i => (i.zero, i.size)) = some (some (.agg ZI), ZI.size))) (HZX : Hid (ZI.size = X.size)) (IT : Hid (∀ W, Calls Tryd.prog 17 #[.int .i64 e, .agg A] W fun x w' => x = .returned (.agg X) ∧ Below W.heap.size W w')) (MY : Hid (∀ W, Below w.heap.size w W → Calls Tryd.prog 18 #[.slice a len cap, .agg X] W fun e w' => e = .returned (.int .i64 0) ∧ Below W.heap.size W w')) (l : List ItT) (x1 : ItT) (OKL : Hid (∀ x ∈ l, OkE x.e)) (OW : Hid (∀ W, Below w.heap.size w W → Calls Tryd.prog 9 #[.slice a len cap] W fun e w' => ∃ v, e = .returned v ∧ w'.ownsRow W.heap.size 48 110 v len (icL l) ∧ Below W.heap.size W w')) (BU : Hid (∀ V : World, (Instr.buildSlice 22 1 #[(0, .agg X)]).run Tryd.prog V = .ok (.slice (some ⟨V.heap.size, 0, none⟩) 1 1) (V.alloc (.cells X 48)))) (AP : Hid (∀ (U V : World) (vo : Value), V.ownsRow U.heap.size 48 110 vo len (icL l) → Below U.heap.size U V → ∃ aa ca V2, (Builtin.append_ #[22, 22] 22 #[vo, .slice (some ⟨V.heap.size, 0, none⟩) 1 1]).run Tryd.prog (V.alloc (.cells X 48)) = .ok (.slice aa (len + 1) ca) V2 ∧ Below U.heap.size U V2 ∧ InL V2 aa (len + 1) ca (l ++ [x1]))) (rg : Int) (LT : Hid (∀ W aa ca, InL W aa (len + 1) ca (l ++ [x1]) → Calls Tryd.prog 10 #[.slice aa (len + 1) ca, .int .i64 rg] W fun e w' => e = .returned (.tuple #[.agg A, .bool true]) ∧ Below W.heap.size W w')) (zs : Int) (A2 : Hid (∀ W aa ca, Below w.heap.size w W → InL W aa (len + 1) ca (l ++ [x1]) → Calls Tryd.prog 16 #[.agg K, .slice aa (len + 1) ca, .agg A, .int .i64 zs, .slice none 0 0] W fun e w' => e = .returned (.int .i64 0) ∧ Below W.heap.size W w')) (Z D E : Array Value) (HAS : Hid ((Tryd.prog.info? 30).map (fun i => (i.zero, i.size)) = some (some (.agg Z), Z.size))) (HZA : Hid (Z.size = A.size)) (H1A : Hid (A.all (·.oneCell') = true)) (HSD : Hid ((Tryd.prog.info? 26).map (·.size) = some D.size)) (EM : Hid (∀ W, Below w.heap.size w W → Calls Tryd.prog 19 #[] W fun x w' => x = .returned (.agg E) ∧ Below W.heap.size W w')) (HCL : Hid (∀ V : World, V.heap[w.heap.size + 1]? = some (.cells A 30 (0, 0)) → V.cell? ⟨w.heap.size + 1, 0, none⟩ = some (.int .i64 rg) ∧ V.cell? ⟨w.heap.size + 1, 2, none⟩ = some (.int .i64 zs) ∧ V.rangeAt (w.heap.size + 1) 3 D.toList)) (eqs : ∀ W, (binOp .eql 30 (.agg A) (.agg A)).run Tryd.prog W = .ok (.bool true) W) (dz : decide ((0 : Int) < zs) = true) :
    Calls Tryd.prog 4 #[.agg K, .slice a len cap, .agg A, .int .i64 m, .slice p pl pc, .int .i64 e] w fun x w' => x = .returned (.bool true) ∧ Below w.heap.size w w' := by
  have H0 := hidk (heldN w K A)
  go_enter Tryd.func4, Tryd.ntmps4
  go_wp2_with fail
  refine (BG.out _ H0.out.b).mono ?_
  rintro x w1 ⟨rfl, rfl⟩
  clear BG
  go_wp2_with (first
    | ((with_reducible show aD 27 _ _ _ _ _ _ _ _ _ _ _); refine wpList_load_row_w (by rfl) 38 (.tmp 6) rfl w.heap.size rfl 38 K (0, 0) _ H0.out.k Tryd.underlying38 rfl HSK.out ?_; try simp only [Act.put, pS1, pS2, pS3])
    | ((with_reducible show aD 29 _ _ _ _ _ _ _ _ _ _ _); refine wpList_load_row_w (by rfl) 30 (.tmp 8) rfl (w.heap.size + 1) rfl 30 A (0, 0) _ H0.out.a Tryd.underlying30 rfl HSA.out ?_; try simp only [Act.put, pS1, pS2, pS3])
    | fail)
  refine (A1.out _ H0.out.b).mono ?_
  rintro x v1 ⟨rfl, hbj⟩
  have H1 := hidk (H0.out.keep hbj)
  clear hbj H0 A1
  go_wp2_with (first
    | ((with_reducible show aD 37 _ _ _ _ _ _ _ _ _ _ _); refine wpList_load_row_w (by rfl) 30 (.tmp 8) rfl (w.heap.size + 1) rfl 30 A (0, 0) _ H1.out.a Tryd.underlying30 rfl HSA.out ?_; try simp only [Act.put, pS1, pS2, pS3])
    | fail)
  refine (IT.out _).mono ?_
  rintro x v2 ⟨rfl, hbj⟩
  have H2 := hidk (H1.out.keep hbj)
  clear hbj H1 IT
  go_wp2_with (first
    | ((with_reducible show aD 13 _ _ _ _ _ _ _ _ _ _ _); refine wpList_new_var rfl 48 rfl ZI HAI.out ?_; intro g13 u3 HM; have HG := hidk HM.out.row; try simp only [Act.put, pS1, pS2, pS3])
    | (refine wpList_set_var rfl 48 (.tmp 13) (.tmp 38) rfl g13 X rfl rfl 48 ZI HG.out HSX.out HZX.out H1X.out ?_; intro v3 HW; have hbj : Below v2.heap.size v2 v3 := HW.out.below _ _ HM.out.below (by rw [HM.out.new]; exact Nat.le_refl _); have HG13 := hidk HW.out.row; have H3 := hidk (H2.out.keep hbj); clear hbj HM HG HW; try simp only [Act.put, pS1, pS2, pS3])
    | ((with_reducible show aD 40 _ _ _ _ _ _ _ _ _ _ _); refine wpList_load_row_w (by rfl) 48 (.tmp 13) rfl g13 rfl 48 X (0, 0) _ HG13.out Tryd.underlying48 rfl HSX.out ?_; try simp only [Act.put, pS1, pS2, pS3])
    | fail)
  refine (MY.out _ H3.out.b).mono ?_
  rintro x v4 ⟨rfl, hbj⟩
  have H4 := hidk (H3.out.keep hbj)
  have HG13_4 := hidk ((hbj.block _ (heap_lt HG13.out)).trans HG13.out)
  clear hbj H3 H2 HG13 MY
  go_wp2_with fail
  refine (OW.out _ H4.out.b).mono ?_
  rintro x v5 ⟨vo, rfl, ho, hb5⟩
  obtain ⟨aa, ca, v6, AR, hb6, hL6⟩ := AP.out v4 v5 vo ho hb5
  obtain ⟨ao, co, rfl, _, _, _⟩ := IReads.own ho OKL.out
  have HG13_5 := hidk ((hb5.block _ (heap_lt HG13_4.out)).trans HG13_4.out)
  have HBU := hidk (BU.out v5)
  have HAR := hidk AR
  have H6 := hidk (H4.out.keep hb6)
  have HL6 := hidk hL6
  obtain ⟨c0, c2, _⟩ := HCL.out _ H6.out.a
  clear ho hb5 hb6 AR hL6 H4 HG13_4 OW AP BU OKL
  go_wp2_with (first
    | ((with_reducible show aD 64 _ _ _ _ _ _ _ _ _ _ _); refine wpList_load_row_w (by rfl) 48 (.tmp 13) rfl g13 rfl 48 X (0, 0) _ HG13_5.out Tryd.underlying48 rfl HSX.out ?_; try simp only [Act.put, pS1, pS2, pS3])
    | ((with_reducible show aD 65 _ _ _ _ _ _ _ _ _ _ _); refine wpList_build_run rfl 22 1 _ rfl #[(0, .agg X)] rfl _ _ HBU.out ?_; try simp only [Act.put, pS1, pS2, pS3])
    | ((with_reducible show aD 66 _ _ _ _ _ _ _ _ _ _ _); refine wpList_append_runD rfl (.tmp 63) (.tmp 65) 22 22 rfl _ _ _ _ rfl rfl HAR.out ?_; try simp only [Act.put, pS1, pS2, pS3])
    | fail)
  refine (LT.out _ _ _ HL6.out).mono ?_
  rintro x v7 ⟨rfl, hbj⟩
  have H7 := hidk (H6.out.keep hbj)
  have HL7 := hidk (HL6.out.keep hbj)
  clear hbj H6 HL6 HBU HAR c0 c2
  go_wp2_with (first
    | ((with_reducible show aD 16 _ _ _ _ _ _ _ _ _ _ _); refine wpList_new_var rfl 30 rfl Z HAS.out ?_; intro g16 u8 HM; have HG := hidk HM.out.row; try simp only [Act.put, pS1, pS2, pS3])
    | (refine wpList_set_var rfl 30 (.tmp 16) (.tmp 73) rfl g16 A rfl rfl 30 Z HG.out HSA.out HZA.out H1A.out ?_; intro v8 HW; have hbj : Below v7.heap.size v7 v8 := HW.out.below _ _ HM.out.below (by rw [HM.out.new]; exact Nat.le_refl _); have HR8 : Hid (HeldR w K A g16 v8) := ⟨H7.out.keep hbj, HW.out.row⟩; have HL8 := hidk (HL7.out.keep hbj); obtain ⟨c0, c2, _⟩ := HCL.out _ HR8.out.n.a; clear hbj HM HG HW; try simp only [Act.put, pS1, pS2, pS3])
    | ((with_reducible show aD 75 _ _ _ _ _ _ _ _ _ _ _); refine wpList_load_row_w (by rfl) 38 (.tmp 6) rfl w.heap.size rfl 38 K (0, 0) _ HR8.out.n.k Tryd.underlying38 rfl HSK.out ?_; try simp only [Act.put, pS1, pS2, pS3])
    | ((with_reducible show aD 77 _ _ _ _ _ _ _ _ _ _ _); refine wpList_load_row_w (by rfl) 30 (.tmp 8) rfl (w.heap.size + 1) rfl 30 A (0, 0) _ HR8.out.n.a Tryd.underlying30 rfl HSA.out ?_; try simp only [Act.put, pS1, pS2, pS3])
    | fail)
  refine (A2.out _ _ _ HR8.out.n.b HL8.out).mono ?_
  rintro x v9 ⟨rfl, hbj⟩
  have HR9 := hidk (HR8.out.keep hbj)
  clear hbj HR8 HL8 H7 HL7 c0 c2
  go_wp2_with fail
  refine wp_region_held_drew (S := (HeldR w K A g16)) (by kernel_rfl) HR9.out.drew (fun hHeld => ?_)
  refine wpAnyH_ready (rs := [0]) (by kernel_rfl) (by simp) ?_
  refine (AllReadyH.cons (o := { dst := some 82, op := .call { callee := .value (.func 14), args := #[], argTypes := #[] }, type := 4, pos := "law.go:74", after := #[], guard := none }) rfl (fun K hK => ?_) AllReadyH.nil)
  go_simp
  refine (AD.out _ hHeld.n.b).mono ?_
  rintro x w0 ⟨rfl, hb0⟩
  go_wp2_with fail
  refine hK.out _ _ (hHeld.keep hb0) (fun hHeld => ?_)
  clear hK K
  try simp only [Act.put, pS1, pS2, pS3]
  refine zX 1 (.bool true) rfl hHeld ?_
  try simp only [Act.put, pS1, pS2, pS3]
  refine zX 2 (.bool true) rfl hHeld ?_
  try simp only [Act.put, pS1, pS2, pS3]
  refine zX 3 (.bool true) rfl hHeld ?_
  try simp only [Act.put, pS1, pS2, pS3]
  refine zX 4 (.bool true) rfl hHeld ?_
  try simp only [Act.put, pS1, pS2, pS3]
  refine zW 5 (.agg A) rfl (yieldsIf_r16 (by rfl) HSA.out) hHeld ?_
  try simp only [Act.put, pS1, pS2, pS3]
  refine zW 6 (.agg A) rfl (yieldsIf_r8 (by rfl) HSA.out) hHeld ?_
  try simp only [Act.put, pS1, pS2, pS3]
  refine zW 7 (.bool true) rfl (Or.inl ⟨by rfl, by intro W hSw; have := eqs W; go_simp⟩) hHeld ?_
  try simp only [Act.put, pS1, pS2, pS3]
  refine zX 8 (.bool true) rfl hHeld ?_
  try simp only [Act.put, pS1, pS2, pS3]
  refine zX 9 (.bool true) rfl hHeld ?_
  try simp only [Act.put, pS1, pS2, pS3]
  refine zX 10 (.int .i64 0) rfl hHeld ?_
  try simp only [Act.put, pS1, pS2, pS3]
  refine zX 11 (.bool true) rfl hHeld ?_
  try simp only [Act.put, pS1, pS2, pS3]
  refine zX 12 (.pointer (some ⟨w.heap.size + 1, 0, none⟩)) rfl hHeld ?_
  try simp only [Act.put, pS1, pS2, pS3]
  refine zX 13 (.pointer (some ⟨w.heap.size + 1, 2, none⟩)) rfl hHeld ?_
  try simp only [Act.put, pS1, pS2, pS3]
  refine zW 14 (.int .i64 zs) rfl (Or.inl ⟨by rfl, by intro W hSw; have := (HCL.out W hSw.n.a).2.1; go_simp⟩) hHeld ?_
  try simp only [Act.put, pS1, pS2, pS3]
  refine zX 15 (.bool true) rfl hHeld ?_
  try simp only [Act.put, pS1, pS2, pS3]
  refine zX 16 (.bool true) rfl hHeld ?_
  try simp only [Act.put, pS1, pS2, pS3]
  refine zW 17 (undef) rfl (Or.inr ⟨by rfl, rfl⟩) hHeld ?_
  try simp only [Act.put, pS1, pS2, pS3]
  refine zW 18 (undef) rfl (Or.inr ⟨by rfl, rfl⟩) hHeld ?_
  try simp only [Act.put, pS1, pS2, pS3]
  refine zW 19 (undef) rfl (Or.inr ⟨by rfl, rfl⟩) hHeld ?_
  try simp only [Act.put, pS1, pS2, pS3]
  refine zW 20 (undef) rfl (Or.inr ⟨by rfl, rfl⟩) hHeld ?_
  try simp only [Act.put, pS1, pS2, pS3]
  refine zW 21 (undef) rfl (Or.inr ⟨by rfl, rfl⟩) hHeld ?_
  try simp only [Act.put, pS1, pS2, pS3]
  refine zX 22 (.bool true) rfl hHeld ?_
  try simp only [Act.put, pS1, pS2, pS3]
  refine zX 23 (.bool true) rfl hHeld ?_
  try simp only [Act.put, pS1, pS2, pS3]
  refine zX 24 (.bool true) rfl hHeld ?_
  try simp only [Act.put, pS1, pS2, pS3]
  refine zX 25 (.bool true) rfl hHeld ?_
  try simp only [Act.put, pS1, pS2, pS3]
  refine wpAnyH_done (by kernel_rfl) ?_ _
  have HZ9 := hidk hHeld.n.b
  clear hHeld
  go_wp2
  go_ret
  exact ⟨rfl, HZ9.out⟩
set_option maxHeartbeats 16000000 in
theorem next_nil (w : World) (K A : Array Value) (a : Option Addr) (len cap : Nat) (m : Int) (p : Option Addr) (pl pc : Nat) (e : Int) (HSK : Hid ((Tryd.prog.info? 38).map (·.size) = some K.size)) (HSA : Hid ((Tryd.prog.info? 30).map (·.size) = some A.size)) (BG : Hid (∀ W, Below w.heap.size w W → Calls Tryd.prog 8 #[.slice a len cap] W fun x w' => x = .returned (.bool false) ∧ W = w')) (AD : Hid (∀ W, Below w.heap.size w W → Calls Tryd.prog 14 #[] W fun e w' => e = .returned (.bool true) ∧ Below W.heap.size W w')) (dp : decide ((100 : Int) < (pl : Int)) = false) (A1 : Hid (∀ W, Below w.heap.size w W → Calls Tryd.prog 16 #[.agg K, .slice a len cap, .agg A, .int .i64 m, .slice p pl pc] W fun e w' => e = .returned (.int .i64 0) ∧ Below W.heap.size W w')) (X ZI : Array Value) (HSX : Hid ((Tryd.prog.info? 48).map (·.size) = some X.size)) (H1X : Hid (X.all (·.oneCell') = true)) (HAI : Hid ((Tryd.prog.info? 48).map (fun i => (i.zero, i.size)) = some (some (.agg ZI), ZI.size))) (HZX : Hid (ZI.size = X.size)) (IT : Hid (∀ W, Calls Tryd.prog 17 #[.int .i64 e, .agg A] W fun x w' => x = .returned (.agg X) ∧ Below W.heap.size W w')) (MY : Hid (∀ W, Below w.heap.size w W → Calls Tryd.prog 18 #[.slice a len cap, .agg X] W fun e w' => e = .returned (.int .i64 0) ∧ Below W.heap.size W w')) (l : List ItT) (x1 : ItT) (OKL : Hid (∀ x ∈ l, OkE x.e)) (OW : Hid (∀ W, Below w.heap.size w W → Calls Tryd.prog 9 #[.slice a len cap] W fun e w' => ∃ v, e = .returned v ∧ w'.ownsRow W.heap.size 48 110 v len (icL l) ∧ Below W.heap.size W w')) (BU : Hid (∀ V : World, (Instr.buildSlice 22 1 #[(0, .agg X)]).run Tryd.prog V = .ok (.slice (some ⟨V.heap.size, 0, none⟩) 1 1) (V.alloc (.cells X 48)))) (AP : Hid (∀ (U V : World) (vo : Value), V.ownsRow U.heap.size 48 110 vo len (icL l) → Below U.heap.size U V → ∃ aa ca V2, (Builtin.append_ #[22, 22] 22 #[vo, .slice (some ⟨V.heap.size, 0, none⟩) 1 1]).run Tryd.prog (V.alloc (.cells X 48)) = .ok (.slice aa (len + 1) ca) V2 ∧ Below U.heap.size U V2 ∧ InL V2 aa (len + 1) ca (l ++ [x1]))) (rg : Int) (LT : Hid (∀ W aa ca, InL W aa (len + 1) ca (l ++ [x1]) → Calls Tryd.prog 10 #[.slice aa (len + 1) ca, .int .i64 rg] W fun e w' => e = .returned (.tuple #[.agg A, .bool true]) ∧ Below W.heap.size W w')) (zs : Int) (A2 : Hid (∀ W aa ca, Below w.heap.size w W → InL W aa (len + 1) ca (l ++ [x1]) → Calls Tryd.prog 16 #[.agg K, .slice aa (len + 1) ca, .agg A, .int .i64 zs, .slice none 0 0] W fun e w' => e = .returned (.int .i64 0) ∧ Below W.heap.size W w')) (Z D E : Array Value) (HAS : Hid ((Tryd.prog.info? 30).map (fun i => (i.zero, i.size)) = some (some (.agg Z), Z.size))) (HZA : Hid (Z.size = A.size)) (H1A : Hid (A.all (·.oneCell') = true)) (HSD : Hid ((Tryd.prog.info? 26).map (·.size) = some D.size)) (EM : Hid (∀ W, Below w.heap.size w W → Calls Tryd.prog 19 #[] W fun x w' => x = .returned (.agg E) ∧ Below W.heap.size W w')) (HCL : Hid (∀ V : World, V.heap[w.heap.size + 1]? = some (.cells A 30 (0, 0)) → V.cell? ⟨w.heap.size + 1, 0, none⟩ = some (.int .i64 rg) ∧ V.cell? ⟨w.heap.size + 1, 2, none⟩ = some (.int .i64 zs) ∧ V.rangeAt (w.heap.size + 1) 3 D.toList)) (eqs : ∀ W, (binOp .eql 30 (.agg A) (.agg A)).run Tryd.prog W = .ok (.bool true) W) (dz : decide ((0 : Int) < zs) = false) (eqd : ∀ W, (binOp .eql 26 (.agg D) (.agg E)).run Tryd.prog W = .ok (.bool true) W) :
    Calls Tryd.prog 4 #[.agg K, .slice a len cap, .agg A, .int .i64 m, .slice p pl pc, .int .i64 e] w fun x w' => x = .returned (.bool true) ∧ Below w.heap.size w w' := by
  have H0 := hidk (heldN w K A)
  go_enter Tryd.func4, Tryd.ntmps4
  go_wp2_with fail
  refine (BG.out _ H0.out.b).mono ?_
  rintro x w1 ⟨rfl, rfl⟩
  clear BG
  go_wp2_with (first
    | ((with_reducible show aD 27 _ _ _ _ _ _ _ _ _ _ _); refine wpList_load_row_w (by rfl) 38 (.tmp 6) rfl w.heap.size rfl 38 K (0, 0) _ H0.out.k Tryd.underlying38 rfl HSK.out ?_; try simp only [Act.put, pS1, pS2, pS3])
    | ((with_reducible show aD 29 _ _ _ _ _ _ _ _ _ _ _); refine wpList_load_row_w (by rfl) 30 (.tmp 8) rfl (w.heap.size + 1) rfl 30 A (0, 0) _ H0.out.a Tryd.underlying30 rfl HSA.out ?_; try simp only [Act.put, pS1, pS2, pS3])
    | fail)
  refine (A1.out _ H0.out.b).mono ?_
  rintro x v1 ⟨rfl, hbj⟩
  have H1 := hidk (H0.out.keep hbj)
  clear hbj H0 A1
  go_wp2_with (first
    | ((with_reducible show aD 37 _ _ _ _ _ _ _ _ _ _ _); refine wpList_load_row_w (by rfl) 30 (.tmp 8) rfl (w.heap.size + 1) rfl 30 A (0, 0) _ H1.out.a Tryd.underlying30 rfl HSA.out ?_; try simp only [Act.put, pS1, pS2, pS3])
    | fail)
  refine (IT.out _).mono ?_
  rintro x v2 ⟨rfl, hbj⟩
  have H2 := hidk (H1.out.keep hbj)
  clear hbj H1 IT
  go_wp2_with (first
    | ((with_reducible show aD 13 _ _ _ _ _ _ _ _ _ _ _); refine wpList_new_var rfl 48 rfl ZI HAI.out ?_; intro g13 u3 HM; have HG := hidk HM.out.row; try simp only [Act.put, pS1, pS2, pS3])
    | (refine wpList_set_var rfl 48 (.tmp 13) (.tmp 38) rfl g13 X rfl rfl 48 ZI HG.out HSX.out HZX.out H1X.out ?_; intro v3 HW; have hbj : Below v2.heap.size v2 v3 := HW.out.below _ _ HM.out.below (by rw [HM.out.new]; exact Nat.le_refl _); have HG13 := hidk HW.out.row; have H3 := hidk (H2.out.keep hbj); clear hbj HM HG HW; try simp only [Act.put, pS1, pS2, pS3])
    | ((with_reducible show aD 40 _ _ _ _ _ _ _ _ _ _ _); refine wpList_load_row_w (by rfl) 48 (.tmp 13) rfl g13 rfl 48 X (0, 0) _ HG13.out Tryd.underlying48 rfl HSX.out ?_; try simp only [Act.put, pS1, pS2, pS3])
    | fail)
  refine (MY.out _ H3.out.b).mono ?_
  rintro x v4 ⟨rfl, hbj⟩
  have H4 := hidk (H3.out.keep hbj)
  have HG13_4 := hidk ((hbj.block _ (heap_lt HG13.out)).trans HG13.out)
  clear hbj H3 H2 HG13 MY
  go_wp2_with fail
  refine (OW.out _ H4.out.b).mono ?_
  rintro x v5 ⟨vo, rfl, ho, hb5⟩
  obtain ⟨aa, ca, v6, AR, hb6, hL6⟩ := AP.out v4 v5 vo ho hb5
  obtain ⟨ao, co, rfl, _, _, _⟩ := IReads.own ho OKL.out
  have HG13_5 := hidk ((hb5.block _ (heap_lt HG13_4.out)).trans HG13_4.out)
  have HBU := hidk (BU.out v5)
  have HAR := hidk AR
  have H6 := hidk (H4.out.keep hb6)
  have HL6 := hidk hL6
  obtain ⟨c0, c2, _⟩ := HCL.out _ H6.out.a
  clear ho hb5 hb6 AR hL6 H4 HG13_4 OW AP BU OKL
  go_wp2_with (first
    | ((with_reducible show aD 64 _ _ _ _ _ _ _ _ _ _ _); refine wpList_load_row_w (by rfl) 48 (.tmp 13) rfl g13 rfl 48 X (0, 0) _ HG13_5.out Tryd.underlying48 rfl HSX.out ?_; try simp only [Act.put, pS1, pS2, pS3])
    | ((with_reducible show aD 65 _ _ _ _ _ _ _ _ _ _ _); refine wpList_build_run rfl 22 1 _ rfl #[(0, .agg X)] rfl _ _ HBU.out ?_; try simp only [Act.put, pS1, pS2, pS3])
    | ((with_reducible show aD 66 _ _ _ _ _ _ _ _ _ _ _); refine wpList_append_runD rfl (.tmp 63) (.tmp 65) 22 22 rfl _ _ _ _ rfl rfl HAR.out ?_; try simp only [Act.put, pS1, pS2, pS3])
    | fail)
  refine (LT.out _ _ _ HL6.out).mono ?_
  rintro x v7 ⟨rfl, hbj⟩
  have H7 := hidk (H6.out.keep hbj)
  have HL7 := hidk (HL6.out.keep hbj)
  clear hbj H6 HL6 HBU HAR c0 c2
  go_wp2_with (first
    | ((with_reducible show aD 16 _ _ _ _ _ _ _ _ _ _ _); refine wpList_new_var rfl 30 rfl Z HAS.out ?_; intro g16 u8 HM; have HG := hidk HM.out.row; try simp only [Act.put, pS1, pS2, pS3])
    | (refine wpList_set_var rfl 30 (.tmp 16) (.tmp 73) rfl g16 A rfl rfl 30 Z HG.out HSA.out HZA.out H1A.out ?_; intro v8 HW; have hbj : Below v7.heap.size v7 v8 := HW.out.below _ _ HM.out.below (by rw [HM.out.new]; exact Nat.le_refl _); have HR8 : Hid (HeldR w K A g16 v8) := ⟨H7.out.keep hbj, HW.out.row⟩; have HL8 := hidk (HL7.out.keep hbj); obtain ⟨c0, c2, _⟩ := HCL.out _ HR8.out.n.a; clear hbj HM HG HW; try simp only [Act.put, pS1, pS2, pS3])
    | ((with_reducible show aD 75 _ _ _ _ _ _ _ _ _ _ _); refine wpList_load_row_w (by rfl) 38 (.tmp 6) rfl w.heap.size rfl 38 K (0, 0) _ HR8.out.n.k Tryd.underlying38 rfl HSK.out ?_; try simp only [Act.put, pS1, pS2, pS3])
    | ((with_reducible show aD 77 _ _ _ _ _ _ _ _ _ _ _); refine wpList_load_row_w (by rfl) 30 (.tmp 8) rfl (w.heap.size + 1) rfl 30 A (0, 0) _ HR8.out.n.a Tryd.underlying30 rfl HSA.out ?_; try simp only [Act.put, pS1, pS2, pS3])
    | fail)
  refine (A2.out _ _ _ HR8.out.n.b HL8.out).mono ?_
  rintro x v9 ⟨rfl, hbj⟩
  have HR9 := hidk (HR8.out.keep hbj)
  clear hbj HR8 HL8 H7 HL7 c0 c2
  go_wp2_with fail
  refine wp_region_held_drew (S := (HeldR w K A g16)) (by kernel_rfl) HR9.out.drew (fun hHeld => ?_)
  refine wpAnyH_ready (rs := [0]) (by kernel_rfl) (by simp) ?_
  refine (AllReadyH.cons (o := { dst := some 82, op := .call { callee := .value (.func 14), args := #[], argTypes := #[] }, type := 4, pos := "law.go:74", after := #[], guard := none }) rfl (fun K hK => ?_) AllReadyH.nil)
  go_simp
  refine (AD.out _ hHeld.n.b).mono ?_
  rintro x w0 ⟨rfl, hb0⟩
  go_wp2_with fail
  refine hK.out _ _ (hHeld.keep hb0) (fun hHeld => ?_)
  clear hK K
  try simp only [Act.put, pS1, pS2, pS3]
  refine zX 1 (.bool true) rfl hHeld ?_
  try simp only [Act.put, pS1, pS2, pS3]
  refine zX 2 (.bool true) rfl hHeld ?_
  try simp only [Act.put, pS1, pS2, pS3]
  refine zX 3 (.bool true) rfl hHeld ?_
  try simp only [Act.put, pS1, pS2, pS3]
  refine zX 4 (.bool true) rfl hHeld ?_
  try simp only [Act.put, pS1, pS2, pS3]
  refine zW 5 (.agg A) rfl (yieldsIf_r16 (by rfl) HSA.out) hHeld ?_
  try simp only [Act.put, pS1, pS2, pS3]
  refine zW 6 (.agg A) rfl (yieldsIf_r8 (by rfl) HSA.out) hHeld ?_
  try simp only [Act.put, pS1, pS2, pS3]
  refine zW 7 (.bool true) rfl (Or.inl ⟨by rfl, by intro W hSw; have := eqs W; go_simp⟩) hHeld ?_
  try simp only [Act.put, pS1, pS2, pS3]
  refine zX 8 (.bool true) rfl hHeld ?_
  try simp only [Act.put, pS1, pS2, pS3]
  refine zX 9 (.bool true) rfl hHeld ?_
  try simp only [Act.put, pS1, pS2, pS3]
  refine zX 10 (.int .i64 0) rfl hHeld ?_
  try simp only [Act.put, pS1, pS2, pS3]
  refine zX 11 (.bool true) rfl hHeld ?_
  try simp only [Act.put, pS1, pS2, pS3]
  refine zX 12 (.pointer (some ⟨w.heap.size + 1, 0, none⟩)) rfl hHeld ?_
  try simp only [Act.put, pS1, pS2, pS3]
  refine zX 13 (.pointer (some ⟨w.heap.size + 1, 2, none⟩)) rfl hHeld ?_
  try simp only [Act.put, pS1, pS2, pS3]
  refine zW 14 (.int .i64 zs) rfl (Or.inl ⟨by rfl, by intro W hSw; have := (HCL.out W hSw.n.a).2.1; go_simp⟩) hHeld ?_
  try simp only [Act.put, pS1, pS2, pS3]
  refine zX 15 (.bool false) rfl hHeld ?_
  try simp only [Act.put, pS1, pS2, pS3]
  refine zX 16 (.bool false) rfl hHeld ?_
  try simp only [Act.put, pS1, pS2, pS3]
  refine zX 17 (.pointer (some ⟨w.heap.size + 1, 0, none⟩)) rfl hHeld ?_
  try simp only [Act.put, pS1, pS2, pS3]
  refine zX 18 (.pointer (some ⟨w.heap.size + 1, 3, none⟩)) rfl hHeld ?_
  try simp only [Act.put, pS1, pS2, pS3]
  refine zW 19 (.agg D) rfl (yieldsIf_mid (by rfl) 26 (.tmp 100) rfl (w.heap.size + 1) 3 rfl D _ (fun V hv => (HCL.out V hv.n.a).2.2) Tryd.underlying26 rfl HSD.out) hHeld ?_
  try simp only [Act.put, pS1, pS2, pS3]
  refine wpAnyH_ready (rs := [20]) (by kernel_rfl) (by simp) ?_
  refine (AllReadyH.cons (o := { dst := some 102, op := .call { callee := .value (.func 19), args := #[], argTypes := #[] }, type := 26, pos := "law.go:74", after := #[zC 16, zG 16], guard := some (16, false) }) rfl (fun K hK => ?_) AllReadyH.nil)
  go_simp
  refine (EM.out _ hHeld.n.b).mono ?_
  rintro x w20 ⟨rfl, hb20⟩
  go_wp2_with fail
  refine hK.out _ _ (hHeld.keep hb20) (fun hHeld => ?_)
  clear hK K
  try simp only [Act.put, pS1, pS2, pS3]
  refine zW 21 (.bool true) rfl (Or.inl ⟨by rfl, by intro W hSw; have := eqd W; go_simp⟩) hHeld ?_
  try simp only [Act.put, pS1, pS2, pS3]
  refine zX 22 (.bool true) rfl hHeld ?_
  try simp only [Act.put, pS1, pS2, pS3]
  refine zX 23 (.bool true) rfl hHeld ?_
  try simp only [Act.put, pS1, pS2, pS3]
  refine zX 24 (.bool true) rfl hHeld ?_
  try simp only [Act.put, pS1, pS2, pS3]
  refine zX 25 (.bool true) rfl hHeld ?_
  try simp only [Act.put, pS1, pS2, pS3]
  refine wpAnyH_done (by kernel_rfl) ?_ _
  have HZ9 := hidk hHeld.n.b
  clear hHeld
  go_wp2
  go_ret
  exact ⟨rfl, HZ9.out⟩
set_option maxHeartbeats 16000000 in
theorem next_apart (w : World) (K A : Array Value) (a : Option Addr) (len cap : Nat) (m : Int) (p : Option Addr) (pl pc : Nat) (e : Int) (HSK : Hid ((Tryd.prog.info? 38).map (·.size) = some K.size)) (HSA : Hid ((Tryd.prog.info? 30).map (·.size) = some A.size)) (BG : Hid (∀ W, Below w.heap.size w W → Calls Tryd.prog 8 #[.slice a len cap] W fun x w' => x = .returned (.bool false) ∧ W = w')) (AD : Hid (∀ W, Below w.heap.size w W → Calls Tryd.prog 14 #[] W fun e w' => e = .returned (.bool true) ∧ Below W.heap.size W w')) (dp : decide ((100 : Int) < (pl : Int)) = false) (A1 : Hid (∀ W, Below w.heap.size w W → Calls Tryd.prog 16 #[.agg K, .slice a len cap, .agg A, .int .i64 m, .slice p pl pc] W fun e w' => e = .returned (.int .i64 0) ∧ Below W.heap.size W w')) (X ZI : Array Value) (HSX : Hid ((Tryd.prog.info? 48).map (·.size) = some X.size)) (H1X : Hid (X.all (·.oneCell') = true)) (HAI : Hid ((Tryd.prog.info? 48).map (fun i => (i.zero, i.size)) = some (some (.agg ZI), ZI.size))) (HZX : Hid (ZI.size = X.size)) (IT : Hid (∀ W, Calls Tryd.prog 17 #[.int .i64 e, .agg A] W fun x w' => x = .returned (.agg X) ∧ Below W.heap.size W w')) (MY : Hid (∀ W, Below w.heap.size w W → Calls Tryd.prog 18 #[.slice a len cap, .agg X] W fun e w' => e = .returned (.int .i64 0) ∧ Below W.heap.size W w')) (l : List ItT) (x1 : ItT) (OKL : Hid (∀ x ∈ l, OkE x.e)) (OW : Hid (∀ W, Below w.heap.size w W → Calls Tryd.prog 9 #[.slice a len cap] W fun e w' => ∃ v, e = .returned v ∧ w'.ownsRow W.heap.size 48 110 v len (icL l) ∧ Below W.heap.size W w')) (BU : Hid (∀ V : World, (Instr.buildSlice 22 1 #[(0, .agg X)]).run Tryd.prog V = .ok (.slice (some ⟨V.heap.size, 0, none⟩) 1 1) (V.alloc (.cells X 48)))) (AP : Hid (∀ (U V : World) (vo : Value), V.ownsRow U.heap.size 48 110 vo len (icL l) → Below U.heap.size U V → ∃ aa ca V2, (Builtin.append_ #[22, 22] 22 #[vo, .slice (some ⟨V.heap.size, 0, none⟩) 1 1]).run Tryd.prog (V.alloc (.cells X 48)) = .ok (.slice aa (len + 1) ca) V2 ∧ Below U.heap.size U V2 ∧ InL V2 aa (len + 1) ca (l ++ [x1]))) (rg : Int) (LT : Hid (∀ W aa ca, InL W aa (len + 1) ca (l ++ [x1]) → Calls Tryd.prog 10 #[.slice aa (len + 1) ca, .int .i64 rg] W fun e w' => e = .returned (.tuple #[.agg A, .bool true]) ∧ Below W.heap.size W w')) (z2 : Int) (zs : Int) (A2 : Hid (∀ W aa ca, Below w.heap.size w W → InL W aa (len + 1) ca (l ++ [x1]) → Calls Tryd.prog 16 #[.agg K, .slice aa (len + 1) ca, .agg A, .int .i64 zs, .slice none 0 0] W fun e w' => e = .returned (.int .i64 z2) ∧ Below W.heap.size W w')) (Z D E : Array Value) (HAS : Hid ((Tryd.prog.info? 30).map (fun i => (i.zero, i.size)) = some (some (.agg Z), Z.size))) (HZA : Hid (Z.size = A.size)) (H1A : Hid (A.all (·.oneCell') = true)) (HSD : Hid ((Tryd.prog.info? 26).map (·.size) = some D.size)) (EM : Hid (∀ W, Below w.heap.size w W → Calls Tryd.prog 19 #[] W fun x w' => x = .returned (.agg E) ∧ Below W.heap.size W w')) (HCL : Hid (∀ V : World, V.heap[w.heap.size + 1]? = some (.cells A 30 (0, 0)) → V.cell? ⟨w.heap.size + 1, 0, none⟩ = some (.int .i64 rg) ∧ V.cell? ⟨w.heap.size + 1, 2, none⟩ = some (.int .i64 zs) ∧ V.rangeAt (w.heap.size + 1) 3 D.toList)) (eqs : ∀ W, (binOp .eql 30 (.agg A) (.agg A)).run Tryd.prog W = .ok (.bool true) W) (dz : decide ((0 : Int) < zs) = false) (eqd : ∀ W, (binOp .eql 26 (.agg D) (.agg E)).run Tryd.prog W = .ok (.bool false) W) (bz : (z2 == 0) = false) (dz2 : decide (z2 = 0) = false) :
    Calls Tryd.prog 4 #[.agg K, .slice a len cap, .agg A, .int .i64 m, .slice p pl pc, .int .i64 e] w fun x w' => x = .returned (.bool true) ∧ Below w.heap.size w w' := by
  have H0 := hidk (heldN w K A)
  go_enter Tryd.func4, Tryd.ntmps4
  go_wp2_with fail
  refine (BG.out _ H0.out.b).mono ?_
  rintro x w1 ⟨rfl, rfl⟩
  clear BG
  go_wp2_with (first
    | ((with_reducible show aD 27 _ _ _ _ _ _ _ _ _ _ _); refine wpList_load_row_w (by rfl) 38 (.tmp 6) rfl w.heap.size rfl 38 K (0, 0) _ H0.out.k Tryd.underlying38 rfl HSK.out ?_; try simp only [Act.put, pS1, pS2, pS3])
    | ((with_reducible show aD 29 _ _ _ _ _ _ _ _ _ _ _); refine wpList_load_row_w (by rfl) 30 (.tmp 8) rfl (w.heap.size + 1) rfl 30 A (0, 0) _ H0.out.a Tryd.underlying30 rfl HSA.out ?_; try simp only [Act.put, pS1, pS2, pS3])
    | fail)
  refine (A1.out _ H0.out.b).mono ?_
  rintro x v1 ⟨rfl, hbj⟩
  have H1 := hidk (H0.out.keep hbj)
  clear hbj H0 A1
  go_wp2_with (first
    | ((with_reducible show aD 37 _ _ _ _ _ _ _ _ _ _ _); refine wpList_load_row_w (by rfl) 30 (.tmp 8) rfl (w.heap.size + 1) rfl 30 A (0, 0) _ H1.out.a Tryd.underlying30 rfl HSA.out ?_; try simp only [Act.put, pS1, pS2, pS3])
    | fail)
  refine (IT.out _).mono ?_
  rintro x v2 ⟨rfl, hbj⟩
  have H2 := hidk (H1.out.keep hbj)
  clear hbj H1 IT
  go_wp2_with (first
    | ((with_reducible show aD 13 _ _ _ _ _ _ _ _ _ _ _); refine wpList_new_var rfl 48 rfl ZI HAI.out ?_; intro g13 u3 HM; have HG := hidk HM.out.row; try simp only [Act.put, pS1, pS2, pS3])
    | (refine wpList_set_var rfl 48 (.tmp 13) (.tmp 38) rfl g13 X rfl rfl 48 ZI HG.out HSX.out HZX.out H1X.out ?_; intro v3 HW; have hbj : Below v2.heap.size v2 v3 := HW.out.below _ _ HM.out.below (by rw [HM.out.new]; exact Nat.le_refl _); have HG13 := hidk HW.out.row; have H3 := hidk (H2.out.keep hbj); clear hbj HM HG HW; try simp only [Act.put, pS1, pS2, pS3])
    | ((with_reducible show aD 40 _ _ _ _ _ _ _ _ _ _ _); refine wpList_load_row_w (by rfl) 48 (.tmp 13) rfl g13 rfl 48 X (0, 0) _ HG13.out Tryd.underlying48 rfl HSX.out ?_; try simp only [Act.put, pS1, pS2, pS3])
    | fail)
  refine (MY.out _ H3.out.b).mono ?_
  rintro x v4 ⟨rfl, hbj⟩
  have H4 := hidk (H3.out.keep hbj)
  have HG13_4 := hidk ((hbj.block _ (heap_lt HG13.out)).trans HG13.out)
  clear hbj H3 H2 HG13 MY
  go_wp2_with fail
  refine (OW.out _ H4.out.b).mono ?_
  rintro x v5 ⟨vo, rfl, ho, hb5⟩
  obtain ⟨aa, ca, v6, AR, hb6, hL6⟩ := AP.out v4 v5 vo ho hb5
  obtain ⟨ao, co, rfl, _, _, _⟩ := IReads.own ho OKL.out
  have HG13_5 := hidk ((hb5.block _ (heap_lt HG13_4.out)).trans HG13_4.out)
  have HBU := hidk (BU.out v5)
  have HAR := hidk AR
  have H6 := hidk (H4.out.keep hb6)
  have HL6 := hidk hL6
  obtain ⟨c0, c2, _⟩ := HCL.out _ H6.out.a
  clear ho hb5 hb6 AR hL6 H4 HG13_4 OW AP BU OKL
  go_wp2_with (first
    | ((with_reducible show aD 64 _ _ _ _ _ _ _ _ _ _ _); refine wpList_load_row_w (by rfl) 48 (.tmp 13) rfl g13 rfl 48 X (0, 0) _ HG13_5.out Tryd.underlying48 rfl HSX.out ?_; try simp only [Act.put, pS1, pS2, pS3])
    | ((with_reducible show aD 65 _ _ _ _ _ _ _ _ _ _ _); refine wpList_build_run rfl 22 1 _ rfl #[(0, .agg X)] rfl _ _ HBU.out ?_; try simp only [Act.put, pS1, pS2, pS3])
    | ((with_reducible show aD 66 _ _ _ _ _ _ _ _ _ _ _); refine wpList_append_runD rfl (.tmp 63) (.tmp 65) 22 22 rfl _ _ _ _ rfl rfl HAR.out ?_; try simp only [Act.put, pS1, pS2, pS3])
    | fail)
  refine (LT.out _ _ _ HL6.out).mono ?_
  rintro x v7 ⟨rfl, hbj⟩
  have H7 := hidk (H6.out.keep hbj)
  have HL7 := hidk (HL6.out.keep hbj)
  clear hbj H6 HL6 HBU HAR c0 c2
  go_wp2_with (first
    | ((with_reducible show aD 16 _ _ _ _ _ _ _ _ _ _ _); refine wpList_new_var rfl 30 rfl Z HAS.out ?_; intro g16 u8 HM; have HG := hidk HM.out.row; try simp only [Act.put, pS1, pS2, pS3])
    | (refine wpList_set_var rfl 30 (.tmp 16) (.tmp 73) rfl g16 A rfl rfl 30 Z HG.out HSA.out HZA.out H1A.out ?_; intro v8 HW; have hbj : Below v7.heap.size v7 v8 := HW.out.below _ _ HM.out.below (by rw [HM.out.new]; exact Nat.le_refl _); have HR8 : Hid (HeldR w K A g16 v8) := ⟨H7.out.keep hbj, HW.out.row⟩; have HL8 := hidk (HL7.out.keep hbj); obtain ⟨c0, c2, _⟩ := HCL.out _ HR8.out.n.a; clear hbj HM HG HW; try simp only [Act.put, pS1, pS2, pS3])
    | ((with_reducible show aD 75 _ _ _ _ _ _ _ _ _ _ _); refine wpList_load_row_w (by rfl) 38 (.tmp 6) rfl w.heap.size rfl 38 K (0, 0) _ HR8.out.n.k Tryd.underlying38 rfl HSK.out ?_; try simp only [Act.put, pS1, pS2, pS3])
    | ((with_reducible show aD 77 _ _ _ _ _ _ _ _ _ _ _); refine wpList_load_row_w (by rfl) 30 (.tmp 8) rfl (w.heap.size + 1) rfl 30 A (0, 0) _ HR8.out.n.a Tryd.underlying30 rfl HSA.out ?_; try simp only [Act.put, pS1, pS2, pS3])
    | fail)
  refine (A2.out _ _ _ HR8.out.n.b HL8.out).mono ?_
  rintro x v9 ⟨rfl, hbj⟩
  have HR9 := hidk (HR8.out.keep hbj)
  clear hbj HR8 HL8 H7 HL7 c0 c2
  go_wp2_with fail
  refine wp_region_held_drew (S := (HeldR w K A g16)) (by kernel_rfl) HR9.out.drew (fun hHeld => ?_)
  refine wpAnyH_ready (rs := [0]) (by kernel_rfl) (by simp) ?_
  refine (AllReadyH.cons (o := { dst := some 82, op := .call { callee := .value (.func 14), args := #[], argTypes := #[] }, type := 4, pos := "law.go:74", after := #[], guard := none }) rfl (fun K hK => ?_) AllReadyH.nil)
  go_simp
  refine (AD.out _ hHeld.n.b).mono ?_
  rintro x w0 ⟨rfl, hb0⟩
  go_wp2_with fail
  refine hK.out _ _ (hHeld.keep hb0) (fun hHeld => ?_)
  clear hK K
  try simp only [Act.put, pS1, pS2, pS3]
  refine zX 1 (.bool true) rfl hHeld ?_
  try simp only [Act.put, pS1, pS2, pS3]
  refine zX 2 (.bool true) rfl hHeld ?_
  try simp only [Act.put, pS1, pS2, pS3]
  refine zX 3 (.bool true) rfl hHeld ?_
  try simp only [Act.put, pS1, pS2, pS3]
  refine zX 4 (.bool true) rfl hHeld ?_
  try simp only [Act.put, pS1, pS2, pS3]
  refine zW 5 (.agg A) rfl (yieldsIf_r16 (by rfl) HSA.out) hHeld ?_
  try simp only [Act.put, pS1, pS2, pS3]
  refine zW 6 (.agg A) rfl (yieldsIf_r8 (by rfl) HSA.out) hHeld ?_
  try simp only [Act.put, pS1, pS2, pS3]
  refine zW 7 (.bool true) rfl (Or.inl ⟨by rfl, by intro W hSw; have := eqs W; go_simp⟩) hHeld ?_
  try simp only [Act.put, pS1, pS2, pS3]
  refine zX 8 (.bool true) rfl hHeld ?_
  try simp only [Act.put, pS1, pS2, pS3]
  refine zX 9 (.bool true) rfl hHeld ?_
  try simp only [Act.put, pS1, pS2, pS3]
  refine zX 10 (.int .i64 z2) rfl hHeld ?_
  try simp only [Act.put, pS1, pS2, pS3]
  refine zX 11 (.bool false) rfl hHeld ?_
  try simp only [Act.put, pS1, pS2, pS3]
  refine zX 12 (.pointer (some ⟨w.heap.size + 1, 0, none⟩)) rfl hHeld ?_
  try simp only [Act.put, pS1, pS2, pS3]
  refine zX 13 (.pointer (some ⟨w.heap.size + 1, 2, none⟩)) rfl hHeld ?_
  try simp only [Act.put, pS1, pS2, pS3]
  refine zW 14 (.int .i64 zs) rfl (Or.inl ⟨by rfl, by intro W hSw; have := (HCL.out W hSw.n.a).2.1; go_simp⟩) hHeld ?_
  try simp only [Act.put, pS1, pS2, pS3]
  refine zX 15 (.bool false) rfl hHeld ?_
  try simp only [Act.put, pS1, pS2, pS3]
  refine zX 16 (.bool false) rfl hHeld ?_
  try simp only [Act.put, pS1, pS2, pS3]
  refine zX 17 (.pointer (some ⟨w.heap.size + 1, 0, none⟩)) rfl hHeld ?_
  try simp only [Act.put, pS1, pS2, pS3]
  refine zX 18 (.pointer (some ⟨w.heap.size + 1, 3, none⟩)) rfl hHeld ?_
  try simp only [Act.put, pS1, pS2, pS3]
  refine zW 19 (.agg D) rfl (yieldsIf_mid (by rfl) 26 (.tmp 100) rfl (w.heap.size + 1) 3 rfl D _ (fun V hv => (HCL.out V hv.n.a).2.2) Tryd.underlying26 rfl HSD.out) hHeld ?_
  try simp only [Act.put, pS1, pS2, pS3]
  refine wpAnyH_ready (rs := [20]) (by kernel_rfl) (by simp) ?_
  refine (AllReadyH.cons (o := { dst := some 102, op := .call { callee := .value (.func 19), args := #[], argTypes := #[] }, type := 26, pos := "law.go:74", after := #[zC 16, zG 16], guard := some (16, false) }) rfl (fun K hK => ?_) AllReadyH.nil)
  go_simp
  refine (EM.out _ hHeld.n.b).mono ?_
  rintro x w20 ⟨rfl, hb20⟩
  go_wp2_with fail
  refine hK.out _ _ (hHeld.keep hb20) (fun hHeld => ?_)
  clear hK K
  try simp only [Act.put, pS1, pS2, pS3]
  refine zW 21 (.bool false) rfl (Or.inl ⟨by rfl, by intro W hSw; have := eqd W; go_simp⟩) hHeld ?_
  try simp only [Act.put, pS1, pS2, pS3]
  refine zX 22 (.bool false) rfl hHeld ?_
  try simp only [Act.put, pS1, pS2, pS3]
  refine zX 23 (.bool true) rfl hHeld ?_
  try simp only [Act.put, pS1, pS2, pS3]
  refine zX 24 (.bool true) rfl hHeld ?_
  try simp only [Act.put, pS1, pS2, pS3]
  refine zX 25 (.bool true) rfl hHeld ?_
  try simp only [Act.put, pS1, pS2, pS3]
  refine wpAnyH_done (by kernel_rfl) ?_ _
  have HZ9 := hidk hHeld.n.b
  clear hHeld
  go_wp2
  go_ret
  exact ⟨rfl, HZ9.out⟩
set_option maxHeartbeats 16000000 in
theorem anchorsNext_of (hd : HeadC) (an : AnchorsC) (hc : HistoryC) (master : List UInt8) (a : Option Addr) (len cap : Nat) (l : List ItT) (s : SgT) (m : Int) (p : Option Addr) (pl pc : Nat) (proof : List (List UInt8)) (e : Int) (w : World) (K A : Array Value) (HK : Hid (K = (cellsOf master).toArray)) (HA : Hid (A = (scells s).toArray)) (hml : master.length = 32) (hs : InS s) (h : IReads w a len cap l) (hc0 : a = none → cap = 0) (hm : ∀ x ∈ l, CmI x) (im : In64 m) (hp : LReads w p pl pc proof) (hpl : pl ≤ 9223372036854775807) (ie : In64 e) (hT : TabH w) :
    Calls Tryd.prog 4 #[.agg K, .slice a len cap, .agg A, .int .i64 m, .slice p pl pc, .int .i64 e] w fun x w' => x = .returned (.bool true) ∧ Below w.heap.size w w' := by
  have HSK : Hid ((Tryd.prog.info? 38).map (·.size) = some K.size) := by show _ = _; rw [sizeY, HK.out]; simp [cellsOf_length, hml]
  have HSA : Hid ((Tryd.prog.info? 30).map (·.size) = some A.size) := by show _ = _; rw [sizeS, HA.out]; simp [scells_length _ hs.h.d hs.g]
  have BG : Hid (∀ W, Below w.heap.size w W → Calls Tryd.prog 8 #[.slice a len cap] W fun x w' => x = .returned (.bool (bigL l)) ∧ W = w') := fun W hb => refBig_any a len cap l W (h.keep hb) (fun x hx => (hm x hx).e.t)
  obtain ⟨b, Hb⟩ : ∃ b, Hid (bigL l = b) := ⟨_, hidk rfl⟩
  rw [Hb.out] at BG
  have AD : Hid (∀ W, Below w.heap.size w W → Calls Tryd.prog 14 #[] W fun e w' => e = .returned (.bool true) ∧ Below W.heap.size W w') := fun W hb => admits_true hd an W (hT.keep hb)
  cases b
  · have hin := inL_of h hc0 hm Hb.out
    have hle := (bigL_false Hb.out).1
    have hln := h.ln
    obtain ⟨z, Hz⟩ : ∃ z, Hid (admE master l s m proof = z) := ⟨_, hidk rfl⟩
    have A1 : Hid (∀ W, Below w.heap.size w W → Calls Tryd.prog 16 #[.agg K, .slice a len cap, .agg A, .int .i64 m, .slice p pl pc] W fun e w' => e = .returned (.int .i64 z) ∧ Below W.heap.size W w') := fun W hb => by rw [← Hz.out]; exact an.adm master a len cap l s m p pl pc proof W K A HK HA hml (hin.keep hb) hs im (hp.keep hb) (hT.keep hb)
    by_cases hpn : 100 < pl
    · have dp : decide ((100 : Int) < (pl : Int)) = true := by rw [decide_eq_true_eq]; omega
      exact next_long w K A a len cap m p pl pc e BG AD dp
    · have dp : decide ((100 : Int) < (pl : Int)) = false := by rw [decide_eq_false_iff_not]; omega
      by_cases hz0 : z = 0
      · subst hz0
        obtain ⟨k1, k2, k3, k4, k5, k6⟩ := admE_ok Hz.out
        have k7 := ver_may k2
        have okx := anI_ok e s hs.h.d hs.g
        obtain ⟨X, HX, HSX, H1X, NX⟩ := item_row (anI e s) okx
        obtain ⟨ZI, HZI, HAI, HBZI, HNI⟩ := noughtsI
        have HZX : Hid (ZI.size = X.size) := by show _ = _; rw [HNI.out, NX.out]
        have IT : Hid (∀ W, Calls Tryd.prog 17 #[.int .i64 e, .agg A] W fun x w' => x = .returned (.agg X) ∧ Below W.heap.size W w') := fun W => itemL_any e s hs.h.d hs.g W A X HA HX
        have inx : InI (anI e s) := ⟨ie, (by show In64 2; unfold In64; decide), (by show In64 0; unfold In64; decide), (by show In64 0; unfold In64; decide), by show 0 ≤ 100000; omega, hs, zeroC_in⟩
        obtain ⟨y, Hy⟩ : ∃ y, Hid (mayE l (anI e s) = y) := ⟨_, hidk rfl⟩
        have MY : Hid (∀ W, Below w.heap.size w W → Calls Tryd.prog 18 #[.slice a len cap, .agg X] W fun e w' => e = .returned (.int .i64 y) ∧ Below W.heap.size W w') := fun W hb => by rw [← Hy.out]; exact hc.may a len cap l (anI e s) W (hin.keep hb) inx X HX
        have hmay := may_an e k1 k7 (by omega)
        rw [Hy.out] at hmay
        by_cases hy0 : y = 0
        · subst hy0
          have hr := right_snoc Hy.out
          have hg := adm_again e hr k2
          have okl : ∀ y ∈ l ++ [anI e s], OkE y.e := fun y hy => by
            rcases List.mem_append.1 hy with hy | hy
            · exact h.ok y hy
            · rw [List.mem_singleton] at hy; rw [hy]; exact okx
          have inl : ∀ y ∈ l ++ [anI e s], InI y := fun y hy => by
            rcases List.mem_append.1 hy with hy | hy
            · exact hin.its y hy
            · rw [List.mem_singleton] at hy; rw [hy]; exact inx
          have okx1 : ∀ y ∈ [anI e s], OkE y.e := fun y hy => by rw [List.mem_singleton] at hy; rw [hy]; exact okx
          have OKL := hidk h.ok
          have OW : Hid (∀ W, Below w.heap.size w W → Calls Tryd.prog 9 #[.slice a len cap] W fun e w' => ∃ v, e = .returned v ∧ w'.ownsRow W.heap.size 48 110 v len (icL l) ∧ Below W.heap.size W w') := fun W hb => refOwn_any a len cap l W (h.keep hb) hc0 (by omega)
          have BU : Hid (∀ V : World, (Instr.buildSlice 22 1 #[(0, .agg X)]).run Tryd.prog V = .ok (.slice (some ⟨V.heap.size, 0, none⟩) 1 1) (V.alloc (.cells X 48))) := fun V => by
            rw [run_build_items V 1 [anI e s] okx1 rfl (by omega) (by omega) _ (by rw [HX.out]; rfl), icL_cons, icL_nil, List.append_nil, HX.out]
          have AP : Hid (∀ (U V : World) (vo : Value), V.ownsRow U.heap.size 48 110 vo len (icL l) → Below U.heap.size U V → ∃ aa ca V2, (Builtin.append_ #[22, 22] 22 #[vo, .slice (some ⟨V.heap.size, 0, none⟩) 1 1]).run Tryd.prog (V.alloc (.cells X 48)) = .ok (.slice aa (len + 1) ca) V2 ∧ Below U.heap.size U V2 ∧ InL V2 aa (len + 1) ca (l ++ [anI e s])) := fun U V vo ho hb => by
            have hal : Below V.heap.size V (V.alloc (.cells X 48)) := (Below.refl _ _).alloc (Nat.le_refl _) _
            have ho2 : (V.alloc (.cells X 48)).ownsRow U.heap.size 48 110 vo len (icL l) := own_below ho hal
            obtain ⟨v', V2, hrun, hown, hgr⟩ := run_append_items (IReads.new V [anI e s] 1 rfl okx1 (by omega) X (by show _ = _; rw [HX.out, icL_cons, icL_nil, List.append_nil])) (fun e => by cases e) U.heap.size len vo l ho2 (Nat.le_trans hb.size hal.size) (by omega)
            obtain ⟨aa, ca, rfl, hra, hnil, _⟩ := IReads.own hown okl
            exact ⟨aa, ca, V2, hrun, (hb.trans (hal.mono hb.size)).grown hgr (Nat.le_trans hb.size hal.size) (fun k e => (ho2.lt k e).1), ⟨hra, hnil, inl, by omega⟩⟩
          obtain ⟨rg, hrg⟩ : ∃ r, s.h.r = r := ⟨_, rfl⟩
          obtain ⟨zs, hzs⟩ : ∃ r, s.h.s = r := ⟨_, rfl⟩
          have hsz := may_size k7
          have LT : Hid (∀ W aa ca, InL W aa (len + 1) ca (l ++ [anI e s]) → Calls Tryd.prog 10 #[.slice aa (len + 1) ca, .int .i64 rg] W fun e w' => e = .returned (.tuple #[.agg A, .bool true]) ∧ Below W.heap.size W w') := fun W aa ca hi => by
            have h3 : latA (l ++ [anI e s]) rg = some s := by rw [← hrg]; exact lat_next l e s
            have := an.latest aa (len + 1) ca (l ++ [anI e s]) rg W hi (by rw [← hrg]; exact hs.h.r) A (by show _ = _; unfold latS; rw [h3]; exact HA.out)
            rw [h3] at this
            exact this
          obtain ⟨z2, Hz2⟩ : ∃ z, Hid (admE master (l ++ [anI e s]) s zs [] = z) := ⟨_, hidk rfl⟩
          rw [hzs] at hg hsz
          rw [Hz2.out] at hg
          have A2 : Hid (∀ W aa ca, Below w.heap.size w W → InL W aa (len + 1) ca (l ++ [anI e s]) → Calls Tryd.prog 16 #[.agg K, .slice aa (len + 1) ca, .agg A, .int .i64 zs, .slice none 0 0] W fun e w' => e = .returned (.int .i64 z2) ∧ Below W.heap.size W w') := fun W aa ca hb hi => by
            rw [← Hz2.out]
            exact an.adm master aa (len + 1) ca (l ++ [anI e s]) s zs none 0 0 [] W K A HK HA hml hi hs (by rw [← hzs]; exact hs.h.s) ⟨rfl, (fun d hd => by cases hd), Nat.le_refl _, Nat.zero_le _, .inl rfl⟩ (hT.keep hb)
          obtain ⟨Z, HZ, HAS, HBZ, H69⟩ := noughtsS
          have HZA : Hid (Z.size = A.size) := by show _ = _; rw [H69.out, HA.out]; simp [scells_length _ hs.h.d hs.g]
          have H1A : Hid (A.all (·.oneCell') = true) := by show _ = _; rw [HA.out]; exact one_cellsS _
          obtain ⟨D, HD⟩ : ∃ D : Array Value, Hid (D = (cellsOf s.h.d).toArray) := ⟨_, hidk rfl⟩
          obtain ⟨E, HE⟩ : ∃ D : Array Value, Hid (D = (cellsOf (sumD [])).toArray) := ⟨_, hidk rfl⟩
          have HSD : Hid ((Tryd.prog.info? 26).map (·.size) = some D.size) := by show _ = _; rw [size23, HD.out]; simp [cellsOf_length, hs.h.d]
          have EM : Hid (∀ W, Below w.heap.size w W → Calls Tryd.prog 19 #[] W fun x w' => x = .returned (.agg E) ∧ Below W.heap.size W w') := fun W hb => empty_any W (hT.keep hb) E HE
          have HCL : Hid (∀ V : World, V.heap[w.heap.size + 1]? = some (.cells A 30 (0, 0)) → V.cell? ⟨w.heap.size + 1, 0, none⟩ = some (.int .i64 rg) ∧ V.cell? ⟨w.heap.size + 1, 2, none⟩ = some (.int .i64 zs) ∧ V.rangeAt (w.heap.size + 1) 3 D.toList) := fun V hv => by
            have ra := scells_hrow hs.h.d HA hv
            refine ⟨by rw [← hrg]; simpa using ra.r, by rw [← hzs]; simpa using ra.s, by rw [HD.out]; simpa using ra.d⟩
          have EQS : Hid (∀ W, (binOp .eql 30 (.agg A) (.agg A)).run Tryd.prog W = .ok (.bool true) W) := fun W => eqSigned _ _ hs.h.d hs.h.d hs.g hs.g A A HA HA true (by simp) W
          have eqs := EQS.out
          obtain ⟨cc, hcc⟩ : ∃ b, decide (s.h.d = sumD []) = b := ⟨_, rfl⟩
          have eqd : ∀ W, (binOp .eql 26 (.agg D) (.agg E)).run Tryd.prog W = .ok (.bool cc) W := fun W => eqDigV _ _ hs.h.d (sumD_length _) D E HD HE cc hcc W
          have hcc2 : cc = true ↔ s.h.d = sumD [] := by rw [← hcc, decide_eq_true_eq]
          rw [← hcc2] at hg
          by_cases hz1 : 0 < zs
          · have dz : decide ((0 : Int) < zs) = true := decide_eq_true hz1
            obtain rfl : z2 = 0 := hg.2 (.inl hz1)
            exact next_yes w K A a len cap m p pl pc e HSK HSA BG AD dp A1 X ZI HSX H1X HAI HZX IT MY l _ OKL OW BU AP rg LT zs A2 Z D E HAS HZA H1A HSD EM HCL eqs dz
          · have dz : decide ((0 : Int) < zs) = false := decide_eq_false hz1
            cases cc
            · have hz3 : z2 ≠ 0 := fun q => by
                rcases hg.1 q with q | q
                · exact hz1 q
                · cases q
              have bz : (z2 == 0) = false := by rw [beq_eq_false_iff_ne]; exact hz3
              have dz2 : decide (z2 = 0) = false := decide_eq_false hz3
              exact next_apart w K A a len cap m p pl pc e HSK HSA BG AD dp A1 X ZI HSX H1X HAI HZX IT MY l _ OKL OW BU AP rg LT z2 zs A2 Z D E HAS HZA H1A HSD EM HCL eqs dz eqd bz dz2
            · obtain rfl : z2 = 0 := hg.2 (.inr rfl)
              exact next_nil w K A a len cap m p pl pc e HSK HSA BG AD dp A1 X ZI HSX H1X HAI HZX IT MY l _ OKL OW BU AP rg LT zs A2 Z D E HAS HZA H1A HSD EM HCL eqs dz eqd
        · by_cases he : 1 ≤ e ∧ e ≤ 900000000
          · rw [if_pos he] at hmay
            obtain rfl : y = 102 := by
              by_cases hlo : lowB l e = true
              · rw [if_pos hlo] at hmay; exact hmay
              · rw [if_neg hlo] at hmay; exact absurd hmay hy0
            exact next_low w K A a len cap m p pl pc e HSK HSA BG AD dp A1 X ZI HSX H1X HAI HZX IT MY
          · rw [if_neg he] at hmay
            subst hmay
            by_cases he1 : e < 1
            · exact next_form w K A a len cap m p pl pc e HSK HSA BG AD dp A1 X ZI HSX H1X HAI HZX IT MY (decide_eq_true he1)
            · exact next_form2 w K A a len cap m p pl pc e HSK HSA BG AD dp A1 X ZI HSX H1X HAI HZX IT MY (decide_eq_false he1) (by rw [decide_eq_true_eq]; omega)
      · exact next_no w K A a len cap m p pl pc e z HSK HSA BG AD dp A1 (by simp [hz0]) (by simpa using hz0)
  · exact next_big w K A a len cap m p pl pc e BG AD
theorem anchorsNext_in (hd : HeadC) (an : AnchorsC) (hc : HistoryC) (z0 : List UInt8) (a1 : Option Addr) (len1 cap1 : Nat) (z1 : List ItT) (z2 : SgT) (a3 : Int) (a4 : Option Addr) (len4 cap4 : Nat) (z4 : List (List UInt8)) (a5 : Int) (w : World) (w0 : z0.length = 32) (w1 : IReads w a1 len1 cap1 z1) (n1 : a1 = none → cap1 = 0) (m1 : ∀ x ∈ z1, CmI x) (w2 : InS z2) (w3 : In64 a3) (w4 : LReads w a4 len4 cap4 z4) (w5 : In64 a5) (hT : TabH w) :
    Calls Tryd.prog 4 #[.agg (cellsOf z0).toArray, .slice a1 len1 cap1, signV z2, .int .i64 a3, .slice a4 len4 cap4, .int .i64 a5] w fun e w' => e = .returned (.bool true) ∧ Below w.heap.size w w' :=
  anchorsNext_of hd an hc z0 a1 len1 cap1 z1 z2 a3 a4 len4 cap4 z4 a5 w _ _ (hidk rfl) (hidk rfl) w0 w2 w1 n1 m1 w3 w4 (by have := w4.2.2.2.1; unfold maxLen at this; omega) w5 hT
end Go.Proofs.YtjalebncfnekiaaDoor
