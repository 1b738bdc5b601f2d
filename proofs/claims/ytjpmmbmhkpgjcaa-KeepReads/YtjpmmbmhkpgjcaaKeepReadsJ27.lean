/- Texts of our own that the row of KeepReads leans on, part 27. -/
import Derived.Test.YtjpmmbmhkpgjcaaKeepReadsJ1
import Derived.Test.YtjpmmbmhkpgjcaaKeepReadsJ18
import Derived.Test.YtjpmmbmhkpgjcaaKeepReadsJ19
import Derived.Test.YtjpmmbmhkpgjcaaKeepReadsJ20
import Derived.Test.YtjpmmbmhkpgjcaaKeepReadsJ22
import Derived.Test.YtjpmmbmhkpgjcaaKeepReadsJ25
import Derived.Test.YtjpmmbmhkpgjcaaKeepReadsJ26

/- The document's Size and Leaves of logs. -/
namespace Go.Proofs.Ytjpmmbmhkpgjcaa
open Go.RowKit Nums Sums
set_option linter.unusedVariables false
set_option linter.unusedSimpArgs false
set_option maxRecDepth 100000

end Go.Proofs.Ytjpmmbmhkpgjcaa

/- The document's Root, Inclusion and Consistency of logs. -/
namespace Go.Proofs.Ytjpmmbmhkpgjcaa
open Go.RowKit Nums Sums
set_option linter.unusedVariables false
set_option linter.unusedSimpArgs false
set_option maxRecDepth 100000

end Go.Proofs.Ytjpmmbmhkpgjcaa

/- What the calls of package history answer; a user's item; a literal of items. -/
namespace Go.Proofs.Ytjpmmbmhkpgjcaa
open Go.RowKit Nums Sums
set_option linter.unusedVariables false
set_option linter.unusedSimpArgs false
set_option maxRecDepth 100000
/-- A log that came in, or was made, and is no more than is looked at. -/
structure InL (w : World) (a : Option Addr) (len cap : Nat) (l : List ItT) : Prop where
  rd : IReads w a len cap l
  nil : a = none → cap = 0
  its : ∀ x ∈ l, InI x
  le : len ≤ 3000
theorem InL.keep {w w' : World} {a : Option Addr} {len cap : Nat} {l : List ItT} (h : InL w a len cap l) (hb : Below w.heap.size w w') : InL w' a len cap l := ⟨h.rd.keep hb, h.nil, h.its, h.le⟩
def chkE (l : List ItT) : Int := if rightL l = true then 0 else 100
structure HistoryC : Prop where
  check : ∀ (a : Option Addr) (len cap : Nat) (l : List ItT) (w : World) (h : InL w a len cap l),
    Calls Try.prog 55 #[.slice a len cap] w fun e w' => e = .returned (.int .i64 (chkE l)) ∧ Below w.heap.size w w'
  may : ∀ (a : Option Addr) (len cap : Nat) (l : List ItT) (x : ItT) (w : World) (h : InL w a len cap l) (hx : InI x) (hle : len ≤ 1000) (X : Array Value) (HX : Hid (X = (icells x).toArray)),
    Calls Try.prog 86 #[.slice a len cap, .agg X] w fun e w' => e = .returned (.int .i64 (mayE l x)) ∧ Below w.heap.size w w'
/-! A literal of items. -/
theorem fill_items (ds : List (List Value)) : ∀ (k : Nat) (cs : Array Value) (pre old : List Value), cs.toList = pre ++ old → pre.length = k * 110 → (∀ d ∈ ds, d.length = 110) → old.length = ds.length * 110 →
    Instr.fill (fun i => some (i * 110, 110)) cs ((ds.zipIdx k).map fun x => (x.2, Value.agg x.1.toArray)) = some (pre ++ ds.flatten).toArray := by
  induction ds with
  | nil =>
    intro k cs pre old h hp hd ho
    have : old = [] := List.eq_nil_of_length_eq_zero (by simpa using ho)
    subst this
    simp only [List.zipIdx_nil, List.map_nil, Instr.fill, List.flatten_nil, ← h]
  | cons d ds ih =>
    intro k cs pre old h hp hd ho
    have h32 := hd d (List.mem_cons_self ..)
    simp only [List.length_cons] at ho
    have hcs : cs.size = k * 110 + old.length := by rw [← Array.length_toList, h, List.length_append, hp]
    rw [List.zipIdx_cons, List.map_cons]
    unfold Instr.fill
    have hsz : (Value.agg d.toArray).cells.size = 110 := by show d.toArray.size = 110; simp [h32]
    simp only [hsz]
    rw [if_neg (by simp; omega)]
    refine (ih (k + 1) _ (pre ++ d) (old.drop 110) ?_ (by simp; omega) (fun x hx => hd x (List.mem_cons_of_mem _ hx)) (by simp; omega)).trans (by simp)
    have := fold_setD d 0 (k * 110) cs pre (old.take 110) (old.drop 110) (by rw [h, List.append_assoc, List.take_append_drop]) (by omega) (by simp; omega)
    rw [← this, ← Array.foldl_toList]
    congr 2
    simp [Value.cells]
theorem run_build_items (w : World) (n : Nat) (l : List ItT) (hd : ∀ x ∈ l, OkE x.e) (hn : l.length = n) (h1 : 0 < n) (h2 : n ≤ 100) (parts : Array (Nat × Value)) (hp : parts.toList = ((l.map icells).zipIdx 0).map fun x => (x.2, Value.agg x.1.toArray)) :
    (Instr.buildSlice 22 n parts).run Try.prog w = .ok (.slice (some ⟨w.heap.size, 0, none⟩) n n) (w.alloc (.cells (icL l).toArray 40)) := by
  obtain ⟨ie, hie, hz, hs, hy⟩ := info_parts infoIt
  refine run_buildSlice w 22 40 n parts _ ie _ Try.underlying22 hie hz (by rw [hs]; omega) (by rw [hs]; omega) ?_
  rw [hs, hp]
  have e : (l.map icells).flatten = icL l := by unfold icL; rw [List.flatMap_def]
  generalize hcs : Array.map _ (Array.range (n * 110)) = cs
  have hcz : cs.size = n * 110 := by rw [← hcs]; simp
  rw [fill_items (l.map icells) 0 cs [] cs.toList rfl rfl (fun d h => by
    obtain ⟨x, hx, rfl⟩ := List.mem_map.1 h
    exact icells_length x (hd x hx)) (by simp [hcz, hn]), e]
  rfl
theorem IReads.new (W : World) (l : List ItT) (n : Nat) (hn : l.length = n) (hd : ∀ x ∈ l, OkE x.e) (h1 : n ≤ 100) (L : Array Value) (HL : Hid (L = (icL l).toArray)) : IReads (W.alloc (.cells L 40)) (some ⟨W.heap.size, 0, none⟩) n n l := by
  refine ⟨hn, Nat.le_refl _, by unfold maxLen; omega, hd, .inr ⟨_, _, rfl, fun i hi j v hj => ?_⟩⟩
  have := icL_at l hd i hi j v hj
  rw [cell_of_row _ _ _ _ 40 (0, 0) (heap_alloc_new W _), HL.out, Nat.zero_add]
  simpa using this
end Go.Proofs.Ytjpmmbmhkpgjcaa

/- What is kept, and records, as they lie in memory. -/
namespace Go.Proofs.Ytjpmmbmhkpgjcaa
open Go.RowKit Nums Sums
set_option linter.unusedVariables false
set_option linter.unusedSimpArgs false
set_option maxRecDepth 100000
def itA (x : ItT) : Array Value := (icells x).toArray
def clA (c : ClT) : Array Value := (ccells c).toArray
theorem itA_fit (x : ItT) (ok : OkE x.e) : Fit Try.prog 40 (itA x) := ⟨by rw [sizeI]; simp [itA, icells_length x ok], one_cellsI x⟩
theorem clA_fit (c : ClT) (ok : c.d.length = 32) : Fit Try.prog 36 (clA c) := ⟨by rw [sizeC]; simp [clA, ccells_length c ok], one_cellsC c⟩
/-- What is kept: its numbers, its items and where they lie, its claims and where they lie. -/
structure KeV where
  e : Int
  g : Int
  a : Option Addr
  n : Nat
  c : Nat
  l : List ItT
  b : Option Addr
  m : Nat
  d : Nat
  k : List ClT
def KeV.t (v : KeV) : KeT := ⟨v.e, v.g, v.l, v.k⟩
def keA (v : KeV) : Array Value := #[.int .i64 v.e, .int .i64 v.g, .slice v.a v.n v.c, .slice v.b v.m v.d]
theorem keA_fit (v : KeV) : Fit Try.prog 25 (keA v) := ⟨(by kernel_rfl : (Try.prog.info? 25).map (·.size) = some 4), by
  rw [Array.all_eq_true_iff_forall_mem]
  intro u hu
  simp only [keA, List.mem_toArray, List.mem_cons, List.not_mem_nil, or_false] at hu
  rcases hu with rfl | rfl | rfl | rfl <;> rfl⟩
theorem keA_0 (v : KeV) : (keA v)[0]? = some (.int .i64 v.e) := rfl
theorem keA_1 (v : KeV) : (keA v)[1]? = some (.int .i64 v.g) := rfl
theorem keA_2 (v : KeV) : (keA v)[2]? = some (.slice v.a v.n v.c) := rfl
theorem keA_3 (v : KeV) : (keA v)[3]? = some (.slice v.b v.m v.d) := rfl
/-- Its rows are a call's own, from block B on. -/
def OwnKe (W : World) (B : Nat) (v : KeV) : Prop := W.ownsRow B 40 110 (.slice v.a v.n v.c) v.n (icL v.l) ∧ W.ownsRow B 36 36 (.slice v.b v.m v.d) v.m (clcL v.k)
def zeroKv : KeV := ⟨0, 0, none, 0, 0, [], none, 0, 0, []⟩
/-- It reads so, and is no more than is looked at. -/
structure KIn (w : World) (v : KeV) : Prop where
  i : InL w v.a v.n v.c v.l
  c : CReads w v.b v.m v.d v.k
  cn : v.b = none → v.d = 0
  cs : ∀ x ∈ v.k, InC x
  cl : v.m ≤ 250
  il : v.n ≤ 250
  e : In64 v.e
  g : In64 v.g
theorem KIn.keep {w w' : World} {v : KeV} (h : KIn w v) (hb : Below w.heap.size w w') : KIn w' v := ⟨h.i.keep hb, h.c.keep hb, h.cn, h.cs, h.cl, h.il, h.e, h.g⟩
/-- A record. -/
structure ReV where
  k : Int
  e : Int
  f : Int
  x : ItT
  a : Option Addr
  n : Nat
  c : Nat
  l : List ItT
  m : ClT
def ReV.t (v : ReV) : ReT := ⟨v.k, v.e, v.f, v.x, v.l, v.m⟩
def rcellsK (v : ReV) : List Value := [.int .i64 v.k, .int .i64 v.e, .int .i64 v.f] ++ (icells v.x ++ ([.slice v.a v.n v.c] ++ ccells v.m))
def reA (v : ReV) : Array Value := (rcellsK v).toArray
structure OkR (v : ReV) : Prop where
  x : OkE v.x.e
  m : v.m.d.length = 32
theorem rcellsK_length (v : ReV) (ok : OkR v) : (rcellsK v).length = 150 := by simp [rcellsK, icells_length _ ok.x, ccells_length _ ok.m]
theorem rcellsK_one (v : ReV) : ∀ u ∈ rcellsK v, u.oneCell' = true := by
  intro u hu
  unfold rcellsK at hu
  simp only [List.mem_append, List.mem_cons, List.not_mem_nil, or_false] at hu
  rcases hu with (rfl | rfl | rfl) | hu | rfl | hu
  · rfl
  · rfl
  · rfl
  · exact icells_one _ u hu
  · rfl
  · exact ccells_one _ u hu
theorem reA_fit (v : ReV) (ok : OkR v) : Fit Try.prog 42 (reA v) :=
  ⟨by rw [(by kernel_rfl : (Try.prog.info? 42).map (·.size) = some 150)]; simp [reA, rcellsK_length v ok], by rw [reA, List.all_toArray, List.all_eq_true]; exact rcellsK_one v⟩
theorem reA_0 (v : ReV) : (reA v)[0]? = some (.int .i64 v.k) := rfl
theorem reA_1 (v : ReV) : (reA v)[1]? = some (.int .i64 v.e) := rfl
theorem reA_2 (v : ReV) : (reA v)[2]? = some (.int .i64 v.f) := rfl
theorem reA_3 (v : ReV) : (reA v)[3]? = some (.int .i64 v.x.p) := rfl
theorem reA_x (v : ReV) : SubA (reA v) 3 (itA v.x) := fun j u hj => by
  have hj' : (icells v.x)[j]? = some u := by simpa [itA] using hj
  unfold reA rcellsK
  rw [List.getElem?_toArray, List.getElem?_append_right (by simp), List.getElem?_append_left (by have := (List.getElem?_eq_some_iff.1 hj').1; simpa using this)]
  simpa using hj'
theorem reA_113 (v : ReV) (ok : OkR v) : (reA v)[113]? = some (.slice v.a v.n v.c) := by
  unfold reA rcellsK
  rw [List.getElem?_toArray, List.getElem?_append_right (by simp), List.getElem?_append_right (by simp [icells_length _ ok.x])]
  simp [icells_length _ ok.x]
theorem reA_m (v : ReV) (ok : OkR v) : SubA (reA v) 114 (clA v.m) := fun j u hj => by
  have hj' : (ccells v.m)[j]? = some u := by simpa [clA] using hj
  unfold reA rcellsK
  rw [List.getElem?_toArray, List.getElem?_append_right (by show 3 ≤ 114 + j; omega), List.getElem?_append_right (by rw [icells_length _ ok.x]; show 110 ≤ 114 + j - 3; omega)]
  rw [show 114 + j - [Value.int IntKind.i64 v.k, Value.int IntKind.i64 v.e, Value.int IntKind.i64 v.f].length - (icells v.x).length = j + 1 by rw [icells_length _ ok.x]; show 114 + j - 3 - 110 = j + 1; omega]
  simpa using hj'
theorem reA_size (v : ReV) (ok : OkR v) : (reA v).size = 150 := by simp [reA, rcellsK_length v ok]
theorem reA_s113 (v : ReV) (ok : OkR v) (a : Option Addr) (n c : Nat) (l : List ItT) : (reA v).setIfInBounds 113 (.slice a n c) = reA { v with a := a, n := n, c := c, l := l } := by
  unfold reA rcellsK
  rw [List.setIfInBounds_toArray, List.set_append_right _ _ (by simp), List.set_append_right _ _ (by simp [icells_length _ ok.x])]
  simp [icells_length _ ok.x]
structure RIn (w : World) (v : ReV) : Prop where
  i : InL w v.a v.n v.c v.l
  x : InI v.x
  xo : OkE v.x.e
  m : InC v.m
  k : In64 v.k
  e : In64 v.e
  f : In64 v.f
theorem RIn.ok {w : World} {v : ReV} (h : RIn w v) : OkR v := ⟨h.xo, h.m.d⟩
theorem RIn.keep {w w' : World} {v : ReV} (h : RIn w v) (hb : Below w.heap.size w w') : RIn w' v := ⟨h.i.keep hb, h.x, h.xo, h.m, h.k, h.e, h.f⟩
def zeroRv : ReV := ⟨0, 0, 0, zeroI, none, 0, 0, [], zeroC⟩
end Go.Proofs.Ytjpmmbmhkpgjcaa

/- What the calls of package keep answer, as the document says (their proofs are of one commit of the code). -/
namespace Go.Proofs.Ytjpmmbmhkpgjcaa
open Go.RowKit Nums Sums
set_option linter.unusedVariables false
set_option linter.unusedSimpArgs false
set_option maxRecDepth 100000
/-- A row handed out: a call's own, or nothing that could be written. -/
def RowZ (W : World) (B : Nat) (t : TypeId) (sz : Nat) (a : Option Addr) (n c : Nat) (xs : List Value) : Prop := (n = 0 ∧ c = 0) ∨ W.ownsRow B t sz (.slice a n c) n xs
structure KOut (W : World) (B : Nat) (v : KeV) : Prop where
  i : RowZ W B 40 110 v.a v.n v.c (icL v.l)
  c : RowZ W B 36 36 v.b v.m v.d (clcL v.k)
  n : v.n = v.l.length
  m : v.m = v.k.length
theorem OwnKe.out {W : World} {B : Nat} {v : KeV} (h : OwnKe W B v) (hn : v.n = v.l.length) (hm : v.m = v.k.length) : KOut W B v := ⟨.inr h.1, .inr h.2, hn, hm⟩
theorem rowz_items {W : World} {B : Nat} {a : Option Addr} {n c : Nat} {l : List ItT} (h : RowZ W B 40 110 a n c (icL l)) (hn : n = l.length) (ok : ∀ x ∈ l, OkE x.e) : IReads W a n c l ∧ (a = none → c = 0) := by
  rcases h with ⟨rfl, rfl⟩ | h
  · obtain rfl : l = [] := List.eq_nil_of_length_eq_zero hn.symm
    exact ⟨⟨rfl, Nat.le_refl _, Nat.zero_le _, (fun x hx => by cases hx), .inl rfl⟩, fun _ => rfl⟩
  · obtain ⟨a2, c2, e, h1, h2, _⟩ := IReads.own h ok
    cases e
    exact ⟨h1, h2⟩
theorem RowZ.own {P : Program} {w0 w w' : World} {L : List Vr} {M : List (Nat × Obj)} (h : Sep P w0 w L M) (hb : Below w.heap.size w w') {t : TypeId} {sz n c : Nat} {a : Option Addr} {xs : List Value} (ho : RowZ w' w.heap.size t sz a n c xs) :
    ∃ N, Hid (Sep P w0 w' L (N ++ M)) ∧ Hid (∀ W, Has W N → RowZ W w0.heap.size t sz a n c xs) := by
  rcases ho with h0 | ho
  · exact ⟨[], h.call hb, hidkS fun _ _ => .inl h0⟩
  · obtain ⟨N, H, F⟩ := h.own hb ho
    exact ⟨N, H, hidkS fun W hW => .inr (F.out.2 W hW)⟩
/-- A record handed out. -/
structure ROut (W : World) (B : Nat) (r : ReV) : Prop where
  i : RowZ W B 40 110 r.a r.n r.c (icL r.l)
  n : r.n = r.l.length
/-- The texts of records, and back. -/
def putRE (r : ReT) : Int := if mayR r = true then 0 else 140
def getRO (en : ReT → List UInt8) (de : List UInt8 → ReT) (s : List UInt8) : Option ReT := if mayR (de s) = true ∧ en (de s) = s then some (de s) else none
structure OkT (r : ReT) : Prop where
  l : ∀ x ∈ r.l, OkE x.e
  x : OkE r.x.e
  c : r.c.d.length = 32
structure KeepT (en : ReT → List UInt8) (de : List UInt8 → ReT) : Prop where
  len : ∀ r, mayR r = true → OkT r → (en r).length ≤ 100 + 300 * r.l.length + (if r.k = 2 then 300 else 0)
  back : ∀ r, mayR r = true → OkT r → de (en r) = r
  ok : ∀ s, OkT (de s)
  put : ∀ (r : ReV) (w : World) (h : RIn w r), Calls Try.prog 24 #[.agg (reA r)] w fun e w' => e = .returned (.tuple #[.string ⟨(if mayR r.t = true then en r.t else []).toArray⟩, .int .i64 (putRE r.t)]) ∧ Below w.heap.size w w'
  get : ∀ (s : ByteArray) (w : World) (h : s.size ≤ 100000), Calls Try.prog 27 #[.string s] w fun e w' => ∃ r', e = .returned (.tuple #[.agg (reA r'), .int .i64 (if (getRO en de s.data.toList).isSome = true then 0 else 140)]) ∧ r'.t = (getRO en de s.data.toList).getD zeroR ∧ ROut w' w.heap.size r' ∧ Below w.heap.size w w'
end Go.Proofs.Ytjpmmbmhkpgjcaa

/- Literals of records. -/
namespace Go.Proofs.Ytjpmmbmhkpgjcaa
open Go.RowKit Nums Sums
set_option linter.unusedVariables false
set_option linter.unusedSimpArgs false
set_option maxRecDepth 100000
theorem infoRc : (Try.prog.info? 42).map (fun i => (i.zero, i.size)) = some (some (.agg (rcellsK zeroRv).toArray), 150) := by kernel_rfl
theorem builtR_0 : Try.prog.built 42 [] = some (reA zeroRv) := by kernel_rfl
theorem builtK_0 : Try.prog.built 25 [] = some (keA zeroKv) := by kernel_rfl
theorem builtR_kx (k : Int) (x : ItT) (ok : OkE x.e) : Try.prog.built 42 [(0, .int .i64 k), (3, .agg (itA x))] = some (reA { zeroRv with k := k, x := x }) := by
  have hi := infoRc
  cases hq : Try.prog.info? 42 with
  | none => rw [hq] at hi; cases hi
  | some i =>
    rw [hq] at hi
    simp only [Option.map_some, Option.some.injEq, Prod.mk.injEq] at hi
    have hs0 : (Try.prog.info? 27).map (·.size) = some 1 := by kernel_rfl
    have hs1 : (Try.prog.info? 40).map (·.size) = some 110 := by kernel_rfl
    cases hq0 : Try.prog.info? 27 with
    | none => rw [hq0] at hs0; cases hs0
    | some i0 =>
    cases hq1 : Try.prog.info? 40 with
    | none => rw [hq1] at hs1; cases hs1
    | some i1 =>
    rw [hq0] at hs0
    rw [hq1] at hs1
    simp only [Option.map_some, Option.some.injEq] at hs0 hs1
    unfold Program.built
    simp only [hq, Try.underlying42, hi.1, List.mapM_cons, List.mapM_nil, hq0, hs0, hq1, hs1, Option.map_some, Option.bind_eq_bind, Option.bind_some, Option.pure_def]
    show Instr.fill _ (rcellsK zeroRv).toArray _ = some _
    have z110 : (icells zeroI).length = 110 := icells_length _ zeroE_ok
    have z36 : (ccells zeroC).length = 36 := ccells_length _ rfl
    have h110 : (itA x).size = 110 := by simp [itA, icells_length x ok]
    have x110 : (itA x).toList.length = 110 := by simpa using h110
    refine (fill_val _ 0 0 1 (.int .i64 k) #[.int .i64 k] _ ([]) ([.int .i64 0]) ([.int .i64 0] ++ [.int .i64 0] ++ icells zeroI ++ [.slice none 0 0] ++ ccells zeroC) _ rfl rfl rfl (by simp [rcellsK, zeroRv]) (by simp [z110, x110]) rfl).trans ?_
    refine (fill_val _ 3 3 110 (.agg (itA x)) (itA x) _ ([.int .i64 k] ++ [.int .i64 0] ++ [.int .i64 0]) (icells zeroI) ([.slice none 0 0] ++ ccells zeroC) _ rfl rfl h110 (by simp [rcellsK, zeroRv]) (by simp [z110, x110]) z110).trans ?_
    simp only [Instr.fill, List.append_nil, Option.some.injEq]
    rfl
/-- Records of one part are what they read as. -/
theorem rin_0 (w : World) : RIn w zeroRv := ⟨⟨ireads_none w, fun _ => rfl, (fun x h => by cases h), by show 0 ≤ 3000; omega⟩, ⟨by show In64 0; unfold In64; decide, zeroE_in⟩, zeroE_ok, zeroC_in, by show In64 0; unfold In64; decide, by show In64 0; unfold In64; decide, by show In64 0; unfold In64; decide⟩
theorem rin_kx (w : World) (k : Int) (x : ItT) (hk : In64 k) (hx : InI x) : RIn w { zeroRv with k := k, x := x } := ⟨(rin_0 w).i, hx, hx.e.ok, zeroC_in, hk, (rin_0 w).e, (rin_0 w).f⟩
end Go.Proofs.Ytjpmmbmhkpgjcaa

/- Records handed out: what they are stays, and may be handed in. -/
namespace Go.Proofs.Ytjpmmbmhkpgjcaa
open Go.RowKit Nums Sums
set_option linter.unusedVariables false
set_option linter.unusedSimpArgs false
set_option maxRecDepth 100000
structure InT (r : ReT) : Prop where
  l : ∀ x ∈ r.l, InI x
  x : InI r.x
  c : InC r.c
  k : In64 r.k
  e : In64 r.e
  f : In64 r.f
theorem in64_0 : In64 0 := by unfold In64; decide
theorem vOf_in (bs : List UInt8) : In64 (vOf bs) := by
  unfold vOf In64
  cases h : isNum bs
  · simp
  · unfold isNum at h
    rw [decide_eq_true_eq] at h
    simp only [if_true]
    have := h.2.2
    omega
theorem zeroT_in : InT zeroR := ⟨(fun x h => by cases h), ⟨in64_0, zeroE_in⟩, zeroC_in, in64_0, in64_0, in64_0⟩
theorem stepR_in {r : ReT} (h : InT r) (f : Int × ByteArray) : InT (stepR r f) := by
  obtain ⟨h1, h2, h3, h4, h5, h6⟩ := h
  unfold stepR
  split
  · exact ⟨h1, h2, h3, vOf_in _, h5, h6⟩
  split
  · exact ⟨h1, h2, h3, h4, vOf_in _, h6⟩
  split
  · exact ⟨h1, h2, h3, h4, h5, vOf_in _⟩
  split
  · exact ⟨h1, getIO_in _, h3, h4, h5, h6⟩
  split
  · exact ⟨h1, h2, getCO_in _, h4, h5, h6⟩
  split
  · refine ⟨fun x hx => ?_, h2, h3, h4, h5, h6⟩
    rcases List.mem_append.1 hx with q | q
    · exact h1 x q
    · rw [List.mem_singleton.1 q]; exact getIO_in _
  · exact ⟨h1, h2, h3, h4, h5, h6⟩
theorem takeT_in : ∀ (fs : List (Int × ByteArray)) (r : ReT), InT r → InT (fs.foldl stepR r) ∧ (fs.foldl stepR r).l.length ≤ r.l.length + fs.length
  | [], r, h => ⟨h, Nat.le_refl _⟩
  | f :: fs, r, h => by
    obtain ⟨h1, h2⟩ := takeT_in fs (stepR r f) (stepR_in h f)
    refine ⟨h1, Nat.le_trans h2 ?_⟩
    have : (stepR r f).l.length ≤ r.l.length + 1 := by
      unfold stepR
      split
      · exact Nat.le_succ _
      split
      · exact Nat.le_succ _
      split
      · exact Nat.le_succ _
      split
      · exact Nat.le_succ _
      split
      · exact Nat.le_succ _
      split
      · show (r.l ++ [_]).length ≤ _; rw [List.length_append]; exact Nat.le_refl _
      · exact Nat.le_succ _
    simp only [List.length_cons]
    omega
theorem deR_in (bs : List UInt8) : InT (deR bs) ∧ (deR bs).l.length ≤ 2005 := by
  obtain ⟨h1, h2⟩ := takeT_in (fldsK 2005 bs) zeroR zeroT_in
  have h3 := flds_len 2005 bs
  exact ⟨h1, Nat.le_trans h2 (by show 0 + _ ≤ _; omega)⟩
theorem mayT_in {r : ReT} (h : mayR r = true) (ok : OkT r) : InT r ∧ r.l.length ≤ 2000 := by
  obtain ⟨h1, h2, h3, h4, h5, h6, h7, h8, h9⟩ := mayR_parts h
  refine ⟨⟨fun x hx => ?_, ?_, ?_, by unfold In64; omega, by unfold In64; omega, by unfold In64; omega⟩, ((rightL_iff r.l).1 h9).1⟩
  · have := (rightI_iff x).1 (right_item h9 hx)
    exact ⟨by unfold In64; omega, rightE_in this.2.2 (ok.l x hx)⟩
  · rcases h7 with q | q
    · have := (rightI_iff r.x).1 q.2
      exact ⟨by unfold In64; omega, rightE_in this.2.2 ok.x⟩
    · rw [q.2]; exact zeroT_in.x
  · rcases h8 with q | q
    · exact rightC_in q.2.1 ok.c
    · rw [q]; exact zeroC_in
theorem ROut.rin {W : World} {B : Nat} {r : ReV} (h : ROut W B r) (i : InT r.t) (hn : r.n ≤ 3000) : RIn W r := by
  obtain ⟨h1, h2⟩ := rowz_items h.i h.n fun x hx => (i.l x hx).e.ok
  exact ⟨⟨h1, h2, i.l, hn⟩, i.x, i.x.e.ok, i.c, i.k, i.e, i.f⟩
/-- What a call has handed out stays. -/
theorem Sep.rout {w0 w w' : World} {L : List Vr} {M : List (Nat × Obj)} (h : Sep Try.prog w0 w L M) (hb : Below w.heap.size w w') {r : ReV} (ho : ROut w' w.heap.size r) (i : InT r.t) (hn : r.n ≤ 3000) : ∃ N, Hid (Sep Try.prog w0 w' L (N ++ M)) ∧ Hid (∀ W, Has W N → RIn W r ∧ ROut W w0.heap.size r) := by
  obtain ⟨N, H, F⟩ := RowZ.own h hb ho.i
  exact ⟨N, H, hidkS fun W hW => ⟨ROut.rin ⟨F.out W hW, ho.n⟩ i hn, F.out W hW, ho.n⟩⟩
/-- The texts of records: none is empty. -/
structure KeepTT (en : ReT → List UInt8) (de : List UInt8 → ReT) : Prop extends KeepT en de where
  ne : ∀ r, en r ≠ []
theorem enR_ne (r : ReT) : enR r ≠ [] := by
  unfold enR headF
  simp only [rowB]
  intro h
  have := congrArg List.length h
  simp only [List.length_append, fieldBytesI_length, List.length_nil] at this
  omega
theorem getRO_en {en : ReT → List UInt8} {de : List UInt8 → ReT} (T : KeepT en de) {r : ReT} (h : mayR r = true) (ok : OkT r) : getRO en de (en r) = some r := by
  unfold getRO
  rw [T.back r h ok, if_pos ⟨h, rfl⟩]
theorem getRO_nil {en : ReT → List UInt8} {de : List UInt8 → ReT} (T : KeepTT en de) : getRO en de [] = none := by
  unfold getRO
  rw [if_neg (fun h => T.ne _ h.2)]
theorem getRO_some {en : ReT → List UInt8} {de : List UInt8 → ReT} {s : List UInt8} {r : ReT} (h : getRO en de s = some r) : mayR r = true ∧ en r = s ∧ r = de s := by
  unfold getRO at h
  split at h
  · rename_i q; cases h; exact ⟨q.1, q.2, rfl⟩
  · cases h
end Go.Proofs.Ytjpmmbmhkpgjcaa

/- The document's Right, Leader and New of what is kept. -/
namespace Go.Proofs.Ytjpmmbmhkpgjcaa
open Go.RowKit Nums Sums
set_option linter.unusedVariables false
set_option linter.unusedSimpArgs false
set_option maxRecDepth 100000
theorem refWithin15 (n lo hi : Int) (w : World) : Calls Try.prog 34 #[.int .i64 n, .int .i64 lo, .int .i64 hi] w fun e w' => e = .returned (.bool (decide (lo ≤ n ∧ n ≤ hi))) ∧ w = w' := by
  have e : decide (lo ≤ n ∧ n ≤ hi) = (decide (lo ≤ n) && decide (n ≤ hi)) := by rw [Bool.decide_and]
  rw [e]
  go_enter Try.func34, Try.ntmps34
  by_cases h1 : lo ≤ n
  · have d1 : decide (lo ≤ n) = true := decide_eq_true h1
    rw [d1]
    go_wp2
    go_ret
    exact ⟨by rfl, rfl⟩
  · have d1 : decide (lo ≤ n) = false := decide_eq_false h1
    rw [d1]
    go_wp2
    go_ret
    exact ⟨by rfl, rfl⟩
end Go.Proofs.Ytjpmmbmhkpgjcaa

/- The document's May of records. -/
namespace Go.Proofs.Ytjpmmbmhkpgjcaa
open Go.RowKit Nums Sums
set_option linter.unusedVariables false
set_option linter.unusedSimpArgs false
set_option maxRecDepth 100000
theorem builtZI : Try.prog.built 40 [] = some (itA zeroI) := by kernel_rfl
theorem builtZC : Try.prog.built 36 [] = some (clA zeroC) := by kernel_rfl
set_option maxHeartbeats 32000000 in
theorem refMayR_any (v : ReV) (w : World) (h : RIn w v) : Calls Try.prog 25 #[.agg (reA v)] w fun x w' => x = .returned (.bool (mayR v.t)) ∧ Below w.heap.size w w' := by
  have ok := h.ok
  have hmx : v.n ≤ 9223372036854775807 := by have := h.i.le; omega
  have FX : Hid (Fit Try.prog 42 (reA v)) := reA_fit v ok
  have FXS := hidk (itA_fit v.x h.xo).s
  have FMS := hidk (clA_fit v.m h.m.d).s
  have r113 := hidk (reA_113 v ok)
  obtain ⟨i0, hi0⟩ : ∃ b, eqIB v.x zeroI = b := ⟨_, rfl⟩
  obtain ⟨m0, hm0⟩ : ∃ b, eqCB v.m zeroC = b := ⟨_, rfl⟩
  obtain ⟨w1, hw1⟩ : ∃ b, decide (1 ≤ v.e ∧ v.e ≤ 900000000) = b := ⟨_, rfl⟩
  obtain ⟨w2, hw2⟩ : ∃ b, decide (0 ≤ v.f ∧ v.f ≤ 2000) = b := ⟨_, rfl⟩
  obtain ⟨e0, he0⟩ : ∃ b, (v.e == (0 : Int)) = b := ⟨_, rfl⟩
  obtain ⟨f0, hf0⟩ : ∃ b, (v.f == (0 : Int)) = b := ⟨_, rfl⟩
  obtain ⟨n0, hn0⟩ : ∃ b, ((v.n : Int) == (0 : Int)) = b := ⟨_, rfl⟩
  obtain ⟨rx, hrx⟩ : ∃ b, rightI v.x = b := ⟨_, rfl⟩
  obtain ⟨rl, hrl⟩ : ∃ b, rightL v.l = b := ⟨_, rfl⟩
  obtain ⟨rc, hrc⟩ : ∃ b, rightC v.m = b := ⟨_, rfl⟩
  obtain ⟨q1, hq1⟩ : ∃ b, (v.k == (1 : Int)) = b := ⟨_, rfl⟩
  obtain ⟨q2, hq2⟩ : ∃ b, (v.k == (2 : Int)) = b := ⟨_, rfl⟩
  obtain ⟨q3, hq3⟩ : ∃ b, (v.k == (3 : Int)) = b := ⟨_, rfl⟩
  obtain ⟨q4, hq4⟩ : ∃ b, (v.k == (4 : Int)) = b := ⟨_, rfl⟩
  have HRES : Hid (mayR v.t = if q1 = true then w1 && f0 && (i0 && m0) && n0 else if q2 = true then e0 && f0 && rx && n0 && m0 else if q3 = true then w1 && w2 && (i0 && m0) && rl else if q4 = true then e0 && f0 && i0 && n0 && rc else false) := by
    show _ = _
    simp only [← hq1, ← hq2, ← hq3, ← hq4, beq_iff_eq]
    have hl : decide (v.l.length = 0) = n0 := by rw [← hn0, h.i.rd.ln]; by_cases q : v.n = 0 <;> simp [q]
    have he : decide (v.e = 0) = e0 := by rw [← he0]; rfl
    have hf : decide (v.f = 0) = f0 := by rw [← hf0]; rfl
    unfold mayR ReV.t
    simp only [hl, he, hf, hi0, hm0, hrx, hrl, hrc, ← hw1, ← hw2, Bool.decide_and]
  have EI : Hid (∀ W, (binOp .eql 40 (.agg (itA v.x)) (.agg (itA zeroI))).run Try.prog W = .ok (.bool i0) W) := fun W => eqItem _ _ h.xo zeroE_ok (itA v.x) (itA zeroI) (hidk rfl) (hidk rfl) i0 (by rw [← hi0, eqIB_iff]) W
  have EM : Hid (∀ W, (binOp .eql 36 (.agg (clA v.m)) (.agg (clA zeroC))).run Try.prog W = .ok (.bool m0) W) := fun W => eqClaim _ _ h.m.d rfl (clA v.m) (clA zeroC) (hidk rfl) (hidk rfl) m0 (by rw [← hm0, eqCB_iff]) W
  have W1 : Hid (∀ W, Calls Try.prog 34 #[.int .i64 v.e, .int .i64 1, .int .i64 900000000] W fun e w' => e = .returned (.bool w1) ∧ W = w') := fun W => by rw [← hw1]; exact refWithin15 _ _ _ W
  have W2 : Hid (∀ W, Calls Try.prog 34 #[.int .i64 v.f, .int .i64 0, .int .i64 2000] W fun e w' => e = .returned (.bool w2) ∧ W = w') := fun W => by rw [← hw2]; exact refWithin15 _ _ _ W
  have W3 : Hid (∀ W, Below w.heap.size w W → Calls Try.prog 35 #[.slice v.a v.n v.c] W fun e w' => e = .returned (.bool rl) ∧ Below W.heap.size W w') := fun W hb => by rw [← hrl]; exact refRightL_any _ _ _ _ W (h.i.rd.keep hb)
  have W4 : Hid (∀ W, Calls Try.prog 49 #[.agg (itA v.x)] W fun e w' => e = .returned (.bool rx) ∧ Below W.heap.size W w') := fun W => by rw [← hrx]; exact refRightI_any v.x h.xo W _ (hidk rfl)
  have W5 : Hid (∀ W, Calls Try.prog 50 #[.agg (clA v.m)] W fun e w' => e = .returned (.bool rc) ∧ Below W.heap.size W w') := fun W => by rw [← hrc]; exact refRightC_any v.m W _ (hidk rfl)
  have H := hidk (Sep.start Try.prog w)
  clear h hi0 hm0 hw1 hw2 hrx hrl hrc
  go_enter Try.func25, Try.ntmps25
  go_wp2_with (first
    | ((with_reducible show wpList _ _ _ (⟨_, .box _ _, _, _, _, _⟩ :: _) _ _); refine boxS (by rfl) (by rfl) H (by assumption) ?_; clear H; intro gq W hq H; clear hq; try simp only [Act.put, List.setIfInBounds_toArray, List.set_cons_zero, List.set_cons_succ])
    | ((with_reducible show wpList _ _ _ (⟨_, .binOp .eql 40 _ _ _, _, _, _, _⟩ :: _) _ _); refine binS (by rfl) (by rfl) (by rfl) (by kernel_rfl) (EI.out _) ?_; try simp only [Act.put, List.setIfInBounds_toArray, List.set_cons_zero, List.set_cons_succ])
    | ((with_reducible show wpList _ _ _ (⟨_, .binOp .eql 36 _ _ _, _, _, _, _⟩ :: _) _ _); refine binS (by rfl) (by rfl) (by rfl) (by kernel_rfl) (EM.out _) ?_; try simp only [Act.put, List.setIfInBounds_toArray, List.set_cons_zero, List.set_cons_succ])
    | ((with_reducible show wpList _ _ _ (⟨_, .load _ _, _, _, _, _⟩ :: _) _ _); refine subS (by rfl) (by rfl) (by kernel_rfl) H (by repeat constructor) (reA_x v) FXS.out ?_; try simp only [Act.put, List.setIfInBounds_toArray, List.set_cons_zero, List.set_cons_succ])
    | ((with_reducible show wpList _ _ _ (⟨_, .load _ _, _, _, _, _⟩ :: _) _ _); refine subS (by rfl) (by rfl) (by kernel_rfl) H (by repeat constructor) (reA_m v ok) FMS.out ?_; try simp only [Act.put, List.setIfInBounds_toArray, List.set_cons_zero, List.set_cons_succ])
    | ((with_reducible show wpList _ _ _ (⟨_, .build _ _, _, _, _, _⟩ :: _) _ _); refine bldS (by rfl) (by with_reducible exact builtZI) (by rfl) ?_; try simp only [Act.put, List.setIfInBounds_toArray, List.set_cons_zero, List.set_cons_succ])
      | ((with_reducible show wpList _ _ _ (⟨_, .build _ _, _, _, _, _⟩ :: _) _ _); refine bldS (by rfl) (by with_reducible exact builtZC) (by rfl) ?_; try simp only [Act.put, List.setIfInBounds_toArray, List.set_cons_zero, List.set_cons_succ])
    | ((with_reducible show wpList _ _ _ (⟨_, .load _ _, _, _, _, _⟩ :: _) _ _); refine fldS (by rfl) (by rfl) (by kernel_rfl) H (by repeat constructor) (by first | exact reA_0 _ | exact reA_1 _ | exact reA_2 _ | exact r113.out) ?_; try simp only [Act.put, List.setIfInBounds_toArray, List.set_cons_zero, List.set_cons_succ])
    | ((with_reducible refine (W1.out _).mono ?_); rintro _ _ ⟨rfl, rfl⟩; try simp only [Act.put, List.setIfInBounds_toArray, List.set_cons_zero, List.set_cons_succ])
    | ((with_reducible refine (W2.out _).mono ?_); rintro _ _ ⟨rfl, rfl⟩; try simp only [Act.put, List.setIfInBounds_toArray, List.set_cons_zero, List.set_cons_succ])
    | ((with_reducible refine (W3.out _ H.out.b).mono ?_); rintro _ W ⟨rfl, hb⟩; replace H := hidk (H.out.call hb); clear hb; try simp only [Act.put, List.setIfInBounds_toArray, List.set_cons_zero, List.set_cons_succ])
    | ((with_reducible refine (W4.out _).mono ?_); rintro _ W ⟨rfl, hb⟩; replace H := hidk (H.out.call hb); clear hb; try simp only [Act.put, List.setIfInBounds_toArray, List.set_cons_zero, List.set_cons_succ])
    | ((with_reducible refine (W5.out _).mono ?_); rintro _ W ⟨rfl, hb⟩; replace H := hidk (H.out.call hb); clear hb; try simp only [Act.put, List.setIfInBounds_toArray, List.set_cons_zero, List.set_cons_succ])
    | fail)

  all_goals (go_ret; exact ⟨by rw [HRES.out]; simp [*], H.out.b⟩)
end Go.Proofs.Ytjpmmbmhkpgjcaa

/- The two orders of the program's claims. -/
namespace Go.Proofs.Ytjpmmbmhkpgjcaa
open Go.RowKit Nums Sums
set_option linter.unusedVariables false
set_option linter.unusedSimpArgs false
set_option maxRecDepth 100000

end Go.Proofs.Ytjpmmbmhkpgjcaa

/- The library's slices.Index and Contains, at addresses and at claims. -/
namespace Go.Proofs.Ytjpmmbmhkpgjcaa
open Go.RowKit Nums Sums
set_option linter.unusedVariables false
set_option linter.unusedSimpArgs false
set_option maxRecDepth 100000

end Go.Proofs.Ytjpmmbmhkpgjcaa

/- The document's Own, OwnRecord, Same and Big. -/
namespace Go.Proofs.Ytjpmmbmhkpgjcaa
open Go.RowKit Nums Sums
set_option linter.unusedVariables false
set_option linter.unusedSimpArgs false
set_option maxRecDepth 100000

end Go.Proofs.Ytjpmmbmhkpgjcaa

/- Items put behind items of one's own; the first items of a log. -/
namespace Go.Proofs.Ytjpmmbmhkpgjcaa
open Go.RowKit Nums Sums
set_option linter.unusedVariables false
set_option linter.unusedSimpArgs false
set_option maxRecDepth 100000
/-- Items put behind those of a list of the call's own. -/
theorem app_items {w0 W : World} {L : List Vr} {A N M : List (Nat × Obj)} (H : Sep Try.prog w0 W L (A ++ (N ++ M))) {v : Value} {n : Nat} {l : List ItT} (F : OwnIn v N ∧ ∀ W, Has W N → W.ownsRow w0.heap.size 40 110 v n (icL l)) {b : Option Addr} {m d : Nat} {k : List ItT} (hk : IReads W b m d k) (hb : b = none → d = 0) (okl : ∀ x ∈ l ++ k, OkE x.e) (hn : n + m ≤ 3000) :
    ∃ a2 c2 V N', (Builtin.append_ #[22, 22] 22 #[v, .slice b m d]).run Try.prog W = .ok (.slice a2 (n + m) c2) V ∧ Hid (Sep Try.prog w0 V L (A ++ (N' ++ M))) ∧ Hid (OwnIn (.slice a2 (n + m) c2) N' ∧ ∀ W, Has W N' → W.ownsRow w0.heap.size 40 110 (.slice a2 (n + m) c2) (n + m) (icL (l ++ k))) := by
  obtain ⟨i0, hi, hz0, hz1, hz2⟩ := info_parts infoIt
  have ho := F.2 W H.has.r.l
  have hkl := hk.ln
  cases b with
  | none =>
    obtain rfl : d = 0 := hb rfl
    have hm0 : m = 0 := by have := hk.cp; omega
    subst hm0
    obtain rfl : k = [] := List.eq_nil_of_length_eq_zero hkl
    rw [List.append_nil] at okl ⊢
    obtain ⟨a2, c2, rfl, _, _, _⟩ := IReads.own ho okl
    exact ⟨a2, c2, W, N, run_append_owned_none (P := Try.prog) W _ 22 22 40 i0 110 Try.underlying22 hi _ n _ ho, H, F⟩
  | some ad =>
    obtain ⟨v', V, hr, ho', hg, hw⟩ := append_where (P := Try.prog) w0.heap.size 22 22 40 i0 _ 110 216 Try.underlying22 hi hz0 hz1 hz2 (by rfl) (by decide) v n _ ho ad m d (icL k) (by rw [icL_length k hk.ok, hkl]) hk.puts (icL_one k) (by unfold maxLen; omega) (by omega) H.b.size
    rw [← icL_append] at ho'
    obtain ⟨a2, c2, rfl, _, _, _⟩ := IReads.own ho' okl
    obtain ⟨N', h1, h2⟩ := H.app F.1 ho' hg hw
    exact ⟨a2, c2, V, N', hr, h1, h2⟩
/-- One item put behind them: the literal, and the append. -/
theorem app_item {w0 W : World} {L : List Vr} {A N M : List (Nat × Obj)} (H : Sep Try.prog w0 W L (A ++ (N ++ M))) {v : Value} {n : Nat} {l : List ItT} (F : OwnIn v N ∧ ∀ W, Has W N → W.ownsRow w0.heap.size 40 110 v n (icL l)) (x : ItT) (okl : ∀ y ∈ l ++ [x], OkE y.e) (hn : n + 1 ≤ 3000) :
    (Instr.buildSlice 22 1 #[(0, .agg (itA x))]).run Try.prog W = .ok (.slice (some ⟨W.heap.size, 0, none⟩) 1 1) (W.alloc (.cells (itA x) 40)) ∧
    ∃ a2 c2 V N', (Builtin.append_ #[22, 22] 22 #[v, .slice (some ⟨W.heap.size, 0, none⟩) 1 1]).run Try.prog (W.alloc (.cells (itA x) 40)) = .ok (.slice a2 (n + 1) c2) V ∧ Hid (Sep Try.prog w0 V L (A ++ (N' ++ M))) ∧ Hid (OwnIn (.slice a2 (n + 1) c2) N' ∧ ∀ W, Has W N' → W.ownsRow w0.heap.size 40 110 (.slice a2 (n + 1) c2) (n + 1) (icL (l ++ [x]))) := by
  have okx : ∀ y ∈ [x], OkE y.e := fun y hy => okl y (List.mem_append_right _ hy)
  refine ⟨by rw [run_build_items W 1 [x] okx rfl (by omega) (by omega) _ (by rfl), icL_cons, icL_nil, List.append_nil]; rfl, ?_⟩
  exact app_items (H.call ((Below.refl _ _).alloc (Nat.le_refl _) _)) F (IReads.new W [x] 1 rfl okx (by omega) (itA x) (by show _ = _; rw [icL_cons, icL_nil, List.append_nil]; rfl)) (fun e => by cases e) okl hn
end Go.Proofs.Ytjpmmbmhkpgjcaa

/- The program's isRight and Check of logs. -/
namespace Go.Proofs.Ytjpmmbmhkpgjcaa
open Go.RowKit Nums Sums
set_option linter.unusedVariables false
set_option linter.unusedSimpArgs false
set_option maxRecDepth 100000
set_option maxHeartbeats 8000000 in
theorem hIsRight (ck : EntryC) (x : ItT) (hx : InI x) (w : World) (X : Array Value) (HX : Hid (X = (icells x).toArray)) :
    Calls Try.prog 82 #[.agg X] w fun e w' => e = .returned (.bool (rightI x)) ∧ Below w.heap.size w w' := by
  have hok : OkE x.e := hx.e.ok
  have HBX : Hid (Below w.heap.size w (w.alloc (.cells X 40))) := (Below.refl _ _).alloc (Nat.le_refl _) _
  have HGX := heap_alloc_new w (.cells X 40)
  obtain ⟨U, HU, HSU, H1U, H109⟩ := entry_row x.e hok
  have HR : Hid ((w.alloc (.cells X 40)).rangeAt w.heap.size 1 U.toList) := by
    have h0 := range_row (l := icells x) (W := w.alloc (.cells X 40)) (g := w.heap.size) (t := 40) (fr := (0, 0)) (by rw [← HX.out]; exact HGX)
    show World.rangeAt _ _ _ _
    rw [HU.out]
    have := range_entry h0
    simpa using this
  have c0 : (w.alloc (.cells X 40)).cell? ⟨w.heap.size, 0, none⟩ = some (.int .i64 x.p) := by rw [cell_of_row _ _ 0 _ _ (0, 0) HGX, HX.out]; rfl
  have CK : Hid (∀ W, Calls Try.prog 60 #[.agg U] W fun e w' => e = .returned (.int .i64 (eE x.e)) ∧ Below W.heap.size W w') := fun W => ck.check x.e hx.e W U HU
  obtain ⟨p, hp⟩ : ∃ p, x.p = p := ⟨_, rfl⟩
  obtain ⟨re, hre⟩ : ∃ b, rightE x.e = b := ⟨_, rfl⟩
  have HRI : Hid (rightI x = (decide (1 ≤ p) && decide (p ≤ 900000000) && re)) := by show _ = _; unfold rightI; rw [hp, hre]
  unfold eE at CK
  rw [hre] at CK
  rw [hp] at c0
  clear hp hre ck hx hok HGX HX HU H1U H109
  by_cases h1 : 1 ≤ p
  · have d1 : decide (1 ≤ p) = true := decide_eq_true h1
    by_cases h2 : p ≤ 900000000
    · have d2 : decide (p ≤ 900000000) = true := decide_eq_true h2
      cases re
      · have HF : Hid (rightI x = false) := by show _ = _; rw [HRI.out, d1, d2]; rfl
        rw [if_neg (by decide)] at CK
        clear h1 h2 HRI
        go_enter Try.func82, Try.ntmps82
        go_wp2_with (first
          | (show wpList _ _ _ ({ dst := some 13, op := _, type := _, pos := _, after := _, guard := _ } :: _) _ _; refine wpList_mid_w (by rfl) 38 (.tmp 12) rfl w.heap.size 1 rfl U _ HR.out Try.underlying38 rfl HSU.out ?_; try simp only [Act.put, List.setIfInBounds_toArray, List.set_cons_zero, List.set_cons_succ])
          | fail)
        refine (CK.out _).mono ?_
        rintro e w1 ⟨rfl, hb1⟩
        go_wp2
        go_ret
        exact ⟨by rw [HF.out]; rfl, HBX.out.trans (hb1.mono HBX.out.size)⟩
      · have HF : Hid (rightI x = true) := by show _ = _; rw [HRI.out, d1, d2]; rfl
        rw [if_pos rfl] at CK
        clear h1 h2 HRI
        go_enter Try.func82, Try.ntmps82
        go_wp2_with (first
          | (show wpList _ _ _ ({ dst := some 13, op := _, type := _, pos := _, after := _, guard := _ } :: _) _ _; refine wpList_mid_w (by rfl) 38 (.tmp 12) rfl w.heap.size 1 rfl U _ HR.out Try.underlying38 rfl HSU.out ?_; try simp only [Act.put, List.setIfInBounds_toArray, List.set_cons_zero, List.set_cons_succ])
          | fail)
        refine (CK.out _).mono ?_
        rintro e w1 ⟨rfl, hb1⟩
        go_wp2
        go_ret
        exact ⟨by rw [HF.out]; rfl, HBX.out.trans (hb1.mono HBX.out.size)⟩
    · have d2 : decide (p ≤ 900000000) = false := decide_eq_false h2
      have HF : Hid (rightI x = false) := by show _ = _; rw [HRI.out, d1, d2]; rfl
      clear h1 h2 HRI CK
      go_enter Try.func82, Try.ntmps82
      go_wp2
      go_ret
      exact ⟨by rw [HF.out]; rfl, HBX.out⟩
  · have d1 : decide (1 ≤ p) = false := decide_eq_false h1
    have HF : Hid (rightI x = false) := by show _ = _; rw [HRI.out, d1]; rfl
    clear h1 HRI CK
    go_enter Try.func82, Try.ntmps82
    go_wp2
    go_ret
    exact ⟨by rw [HF.out]; rfl, HBX.out⟩
set_option maxHeartbeats 8000000 in
theorem hCheck_le (ck : EntryC) (a : Option Addr) (len cap : Nat) (l : List ItT) (w : World) (h : InL w a len cap l) (hle : len ≤ 2000) :
    Calls Try.prog 55 #[.slice a len cap] w fun e w' => e = .returned (.int .i64 (chkE l)) ∧ Below w.heap.size w w' := by
  have H := hidk h
  have HL := hidk h.rd.ln
  have hmx := hle
  obtain ⟨Z, HZ, HA, HBZ, HNZ⟩ := noughtsI
  clear h HZ HBZ
  have h5' : decide ((2000 : Int) < (len : Int)) = false := by rw [decide_eq_false_iff_not]; omega
  go_enter Try.func55, Try.ntmps55
  go_wp2
  go_loopw [3, 11] (fun v u wr => ∃ k : Nat, k ≤ len ∧ u = .int .i64 k ∧ v = .int .i64 (lastE l k) ∧ Hid (Below w.heap.size w wr) ∧ Hid (rightK l k = true)) (fun _ u _ => len - (intOf u).toNat)
  case atStart => exact ⟨0, by omega, rfl, rfl, Below.refl _ _, hidk rfl⟩
  case round =>
    obtain ⟨k, hk, rfl, rfl, HB, HN⟩ := hrel
    by_cases hlt : k < len
    · have hd : decide ((k : Int) < (len : Int)) = true := by rw [decide_eq_true_eq]; omega
      have hw1 := wrap_int ((k : Int) + 1) (by omega) (by omega)
      obtain ⟨g, o, rfl, hg⟩ := H.out.rd.at (by omega)
      have hkl : k < l.length := by have := HL.out; omega
      obtain ⟨x, HX⟩ : ∃ x, Hid (x = l[k]) := ⟨_, hidk rfl⟩
      have hk? : l[k]? = some x := by rw [HX.out]; exact List.getElem?_eq_getElem hkl
      have hin : InI x := by rw [HX.out]; exact H.out.its _ (List.getElem_mem hkl)
      have hok : OkE x.e := by rw [HX.out]; exact H.out.rd.ok _ (List.getElem_mem hkl)
      obtain ⟨X, HXX, HSX, H1X, HNX⟩ := item_row x hok
      have HR : Hid (wr.rangeAt g (o + 110 * k) X.toList) := by
        show World.rangeAt _ _ _ _
        rw [HXX.out, HX.out]
        have h0 := (H.out.rd.keep HB.out).range k hkl
        simpa using h0
      have HZX : Hid (Z.size = X.size) := by show _ = _; rw [HNZ.out, HNX.out]
      have ix := fun W => index_item W g o len cap k .i64 hlt
      have IR : Hid (∀ W, Calls Try.prog 82 #[.agg X] W fun e w' => e = .returned (.bool (rightI x)) ∧ Below W.heap.size W w') := fun W => hIsRight ck x hin W X HXX
      have HC0 : Hid (∀ (W : World) (b : Nat), W.heap[b]? = some (.cells X 40 (0, 0)) → W.cell? ⟨b, 0, none⟩ = some (.int .i64 x.p)) := fun W b hh => by rw [cell_of_row _ _ 0 _ _ (0, 0) hh, HXX.out]; rfl
      have HO := hidk (okAt_last hk?)
      have HLS := hidk (lastE_succ hk?)
      have HNO : Hid (okAt l k = false → chkE l = 100) := fun hh => by unfold chkE; rw [right_no hkl hh]; rfl
      have HYE : Hid (okAt l k = true → rightK l (k + 1) = true) := fun hh => by rw [rightK_succ, HN.out, hh]; rfl
      obtain ⟨p, hp⟩ : ∃ p, x.p = p := ⟨_, rfl⟩
      obtain ⟨q, hq⟩ : ∃ q, lastE l k = q := ⟨_, rfl⟩
      obtain ⟨ri, hri⟩ : ∃ b, rightI x = b := ⟨_, rfl⟩
      rw [hri] at IR HO
      rw [hp] at HC0 HO HLS
      rw [hq] at HO ⊢
      clear hp hq hri hk? hin hok HXX HNX HX HN hkl
      cases ri
      · have hko : okAt l k = false := by rw [HO.out]; rfl
        have hE := hidk (HNO.out hko)
        clear HO HYE HNO hko HLS
        go_wp2_with (first
          | (show wpList _ _ _ ({ dst := some 14, op := _, type := _, pos := _, after := _, guard := _ } :: _) _ _; refine wpList_mid_w (by rfl) 40 (.tmp 13) rfl g (o + 110 * k) rfl X _ HR.out Try.underlying40 rfl HSX.out ?_; try simp only [Act.put, List.setIfInBounds_toArray, List.set_cons_zero, List.set_cons_succ])
          | (show wpList _ _ _ ({ dst := some 5, op := _, type := _, pos := _, after := _, guard := _ } :: _) _ _; refine wpList_new_var rfl 40 rfl Z HA.out ?_; intro g5 w1 HM; have HG := hidk HM.out.row; try simp only [Act.put, List.setIfInBounds_toArray, List.set_cons_zero, List.set_cons_succ])
          | (refine wpList_set_var rfl 40 (.tmp 5) (.tmp 14) rfl g5 X rfl rfl 40 Z HG.out HSX.out HZX.out H1X.out ?_; intro w2 HW; have HG2 := hidk HW.out.row; have HB2 : Hid (Below w.heap.size w w2) := HW.out.below w.heap.size w (HB.out.trans (HM.out.below.mono HB.out.size)) (by rw [HM.out.new]; exact HB.out.size); try simp only [Act.put, List.setIfInBounds_toArray, List.set_cons_zero, List.set_cons_succ])
          | (show wpList _ _ _ ({ dst := some 15, op := _, type := _, pos := _, after := _, guard := _ } :: _) _ _; refine wpList_load_row_w (by rfl) 40 (.tmp 5) rfl g5 rfl 40 X (0, 0) _ HG2.out Try.underlying40 rfl HSX.out ?_; try simp only [Act.put, List.setIfInBounds_toArray, List.set_cons_zero, List.set_cons_succ])
          | fail)
        refine (IR.out _).mono ?_
        rintro e w3 ⟨rfl, hb3⟩
        have HB3 := hidk (HB2.out.trans (hb3.mono HB2.out.size))
        clear hb3
        go_wp2
        go_ret
        exact ⟨by rw [hE.out]; rfl, HB3.out⟩
      · by_cases hpq : p < q
        · have hko : okAt l k = false := by rw [HO.out]; simp; omega
          have hE := hidk (HNO.out hko)
          have d1 : decide (p < q) = true := decide_eq_true hpq
          clear HO HYE HNO hko HLS hpq
          go_wp2_with (first
            | (show wpList _ _ _ ({ dst := some 14, op := _, type := _, pos := _, after := _, guard := _ } :: _) _ _; refine wpList_mid_w (by rfl) 40 (.tmp 13) rfl g (o + 110 * k) rfl X _ HR.out Try.underlying40 rfl HSX.out ?_; try simp only [Act.put, List.setIfInBounds_toArray, List.set_cons_zero, List.set_cons_succ])
            | (show wpList _ _ _ ({ dst := some 5, op := _, type := _, pos := _, after := _, guard := _ } :: _) _ _; refine wpList_new_var rfl 40 rfl Z HA.out ?_; intro g5 w1 HM; have HG := hidk HM.out.row; try simp only [Act.put, List.setIfInBounds_toArray, List.set_cons_zero, List.set_cons_succ])
            | (refine wpList_set_var rfl 40 (.tmp 5) (.tmp 14) rfl g5 X rfl rfl 40 Z HG.out HSX.out HZX.out H1X.out ?_; intro w2 HW; have HG2 := hidk HW.out.row; have HB2 : Hid (Below w.heap.size w w2) := HW.out.below w.heap.size w (HB.out.trans (HM.out.below.mono HB.out.size)) (by rw [HM.out.new]; exact HB.out.size); try simp only [Act.put, List.setIfInBounds_toArray, List.set_cons_zero, List.set_cons_succ])
            | (show wpList _ _ _ ({ dst := some 15, op := _, type := _, pos := _, after := _, guard := _ } :: _) _ _; refine wpList_load_row_w (by rfl) 40 (.tmp 5) rfl g5 rfl 40 X (0, 0) _ HG2.out Try.underlying40 rfl HSX.out ?_; try simp only [Act.put, List.setIfInBounds_toArray, List.set_cons_zero, List.set_cons_succ])
            | fail)
          refine (IR.out _).mono ?_
          rintro e w3 ⟨rfl, hb3⟩
          have c3 := HC0.out w3 g5 ((hb3.block _ (heap_lt HG2.out)).trans HG2.out)
          have HB3 := hidk (HB2.out.trans (hb3.mono HB2.out.size))
          clear hb3
          go_wp2
          go_ret
          exact ⟨by rw [hE.out]; rfl, HB3.out⟩
        · have hko : okAt l k = true := by rw [HO.out]; simp; omega
          have hE := hidk (HYE.out hko)
          have d1 : decide (p < q) = false := decide_eq_false hpq
          clear HO HYE HNO hko hpq
          go_wp2_with (first
            | (show wpList _ _ _ ({ dst := some 14, op := _, type := _, pos := _, after := _, guard := _ } :: _) _ _; refine wpList_mid_w (by rfl) 40 (.tmp 13) rfl g (o + 110 * k) rfl X _ HR.out Try.underlying40 rfl HSX.out ?_; try simp only [Act.put, List.setIfInBounds_toArray, List.set_cons_zero, List.set_cons_succ])
            | (show wpList _ _ _ ({ dst := some 5, op := _, type := _, pos := _, after := _, guard := _ } :: _) _ _; refine wpList_new_var rfl 40 rfl Z HA.out ?_; intro g5 w1 HM; have HG := hidk HM.out.row; try simp only [Act.put, List.setIfInBounds_toArray, List.set_cons_zero, List.set_cons_succ])
            | (refine wpList_set_var rfl 40 (.tmp 5) (.tmp 14) rfl g5 X rfl rfl 40 Z HG.out HSX.out HZX.out H1X.out ?_; intro w2 HW; have HG2 := hidk HW.out.row; have HB2 : Hid (Below w.heap.size w w2) := HW.out.below w.heap.size w (HB.out.trans (HM.out.below.mono HB.out.size)) (by rw [HM.out.new]; exact HB.out.size); try simp only [Act.put, List.setIfInBounds_toArray, List.set_cons_zero, List.set_cons_succ])
            | (show wpList _ _ _ ({ dst := some 15, op := _, type := _, pos := _, after := _, guard := _ } :: _) _ _; refine wpList_load_row_w (by rfl) 40 (.tmp 5) rfl g5 rfl 40 X (0, 0) _ HG2.out Try.underlying40 rfl HSX.out ?_; try simp only [Act.put, List.setIfInBounds_toArray, List.set_cons_zero, List.set_cons_succ])
            | fail)
          refine (IR.out _).mono ?_
          rintro e w3 ⟨rfl, hb3⟩
          have c3 := HC0.out w3 g5 ((hb3.block _ (heap_lt HG2.out)).trans HG2.out)
          have HB3 := hidk (HB2.out.trans (hb3.mono HB2.out.size))
          clear hb3
          go_wp2
          go_roundw
          case rel => exact ⟨k + 1, by omega, by go_num, by rw [HLS.out], HB3, hE⟩
          case measure => simp [intOf]; omega
    · have HE : Hid (chkE l = 0) := by
        show _ = _
        have e : k = l.length := by have := HL.out; omega
        unfold chkE
        rw [right_yes (by have := HL.out; omega) (by rw [← e]; exact HN.out)]
        rfl
      obtain ⟨q, hq⟩ : ∃ q, lastE l k = q := ⟨_, rfl⟩
      rw [hq]
      clear hq
      obtain rfl : len = k := by omega
      go_wp2
      go_ret
      exact ⟨by rw [HE.out]; rfl, HB.out⟩
theorem hCheck (ck : EntryC) (a : Option Addr) (len cap : Nat) (l : List ItT) (w : World) (h : InL w a len cap l) :
    Calls Try.prog 55 #[.slice a len cap] w fun e w' => e = .returned (.int .i64 (chkE l)) ∧ Below w.heap.size w w' := by
  by_cases hle : len ≤ 2000
  · exact hCheck_le ck a len cap l w h hle
  · have hmx := h.le
    have HE : Hid (chkE l = 100) := by
      show _ = _
      have := h.rd.ln
      unfold chkE
      rw [right_long (by omega)]
      rfl
    have h5' : decide ((2000 : Int) < (len : Int)) = true := by rw [decide_eq_true_eq]; omega
    clear h ck
    go_enter Try.func55, Try.ntmps55
    go_wp2
    go_ret
    exact ⟨by rw [HE.out]; rfl, Below.refl _ _⟩
end Go.Proofs.Ytjpmmbmhkpgjcaa

/- The program's iterator over a client's entries. -/
namespace Go.Proofs.Ytjpmmbmhkpgjcaa
open Go.RowKit Go.Shelf Nums Sums
set_option linter.unusedVariables false
set_option linter.unusedSimpArgs false
set_option maxRecDepth 100000

attribute [local go_sem] Oper.semAt_some
def encU (x : Ur) : Array Value := #[.int .i64 (x.i : Int), .agg (ecells x.e).toArray]
/-- What a round keeps: all below n₀, and the iterator's own boxes. -/
def KpE (n₀ Bs Bc : Nat) (W W' : World) : Prop := Below n₀ W W' ∧ W'.heap[Bs]? = W.heap[Bs]? ∧ W'.heap[Bc]? = W.heap[Bc]?
theorem kpE_t {n₀ Bs Bc : Nat} {A B C : World} (h : KpE n₀ Bs Bc A B) (k : KpE n₀ Bs Bc B C) : KpE n₀ Bs Bc A C := ⟨h.1.trans k.1, k.2.1.trans h.2.1, k.2.2.trans h.2.2⟩
theorem kpE_b {n₀ Bs Bc : Nat} {w : World} (hn : n₀ ≤ w.heap.size) (h1 : Bs < w.heap.size) (h2 : Bc < w.heap.size) (W : World) (l : Nat) (o o' : Obj) (hl : w.heap.size ≤ l) (h : W.heap[l]? = some o) (hc : o.isCells = false) (hw : o.isWalk = false) : KpE n₀ Bs Bc W (W.putObj l o') := by
  have hlt := (Array.getElem?_eq_some_iff.1 h).1
  have g := grownBy_putObj' W l o'
  exact ⟨belowK_b hn W l o o' hl h hc hw, g.block Bs (by omega) (fun e => by cases e; omega), g.block Bc (by omega) (fun e => by cases e; omega)⟩
theorem kpE_below {n₀ Bs Bc : Nat} {W W' : World} (hn : n₀ ≤ W.heap.size) (h1 : Bs < W.heap.size) (h2 : Bc < W.heap.size) (h : Below W.heap.size W W') : KpE n₀ Bs Bc W W' := ⟨h.mono hn, h.block Bs h1, h.block Bc h2⟩
theorem grown_of_below11 {w w' : World} (h : Below w.heap.size w w') : w.grownBy w' none := ⟨h.os, h.tape, h.output, h.size, fun k hk _ => h.block k hk⟩
set_option maxHeartbeats 8000000 in
theorem ents1_in (n : Nat) (hn : 1 ≤ n) (lp Bs Bc n₀ : Nat) (a : Option Addr) (len cap : Nat) (l : List ItT) (c : Int) (hok : ∀ x ∈ l, OkE x.e) (hm : len ≤ 1000000) (J Jx : List Ur → World → Prop)
    (W : World) (hJ : AbidesFrom W.heap.size J) (hn₀ : n₀ ≤ W.heap.size) (hBsW : Bs < W.heap.size) (hBcW : Bc < W.heap.size)
    (hY : ∀ pre x W, J pre W → pre.length < len → YieldAt Fence.wide (n - 1) Try.prog lp (encU x) W fun e W' =>
      (e = .returned (.bool true) ∧ J (pre ++ [x]) W' ∧ KpE n₀ Bs Bc W W') ∨ (e = .returned (.bool false) ∧ Jx (pre ++ [x]) W'))
    (hBs : W.cell? ⟨Bs, 0, none⟩ = some (.slice a len cap)) (hBc : W.cell? ⟨Bc, 0, none⟩ = some (.int .i64 c)) (hR : IReads W a len cap l) (hA : ∀ g o, a = some ⟨g, o, none⟩ → 0 < len → g < n₀) (h0 : J [] W) :
    CallsIn Fence.wide n Try.prog 129 #[.func (.yield lp) #[] #[], .pointer (some ⟨Bs, 0, none⟩), .pointer (some ⟨Bc, 0, none⟩)] W fun e W' => (∃ v, e = .returned v) ∧
      ((∃ ys, ys = entsF l hok c 0 ∧ J ys W') ∨ (∃ pre, pre <+: entsF l hok c 0 ∧ Jx pre W')) := by
  obtain ⟨Z, HZ, HAZ, HBZ, HNZ⟩ := noughtsI
  have HL := hidk hR.ln
  have HR0 := hidk hR
  have HA0 := hidk hA
  clear HZ HBZ hR hA
  refine callsIn_of_wp Try.func129 rfl trivial ?_ rfl
  simp only [Try.ntmps129, List.size_toArray, List.length_cons, List.length_nil, Nat.reduceAdd, Nat.reduceSub, Array.replicate_succ, Array.replicate_zero, List.push_toArray, List.append_toArray, List.nil_append, List.cons_append]
  gi_wp2
  gi_loopw [8] (fun i wr => ∃ (k : Nat) (pre : List Ur), k ≤ len ∧ i = .int .i64 k ∧ Hid (pre.length ≤ k) ∧ Hid (entsF l hok c 0 = pre ++ entsF l hok c k) ∧ J pre wr ∧ Hid (KpE n₀ Bs Bc W wr))
    (fun i _ => len - (intOf i).toNat)
  case atStart => exact ⟨0, [], Nat.zero_le _, rfl, Nat.le_refl _, rfl, h0, ⟨Below.refl _ _, rfl, rfl⟩⟩
  case round =>
    obtain ⟨k, pre, hk, rfl, HP, HE, hJs, HKP⟩ := hrel
    by_cases hlt : k < len
    · have hd : decide ((k : Int) < (len : Int)) = true := by rw [decide_eq_true_eq]; omega
      have hw1 := wrap_int ((k : Int) + 1) (by omega) (by omega)
      obtain ⟨g, o, rfl, hg⟩ := HR0.out.at (by omega)
      have hgn := HA0.out g o rfl (by omega)
      have hkl : k < l.length := by have := HL.out; omega
      obtain ⟨x, HX⟩ : ∃ x, Hid (x = l[k]) := ⟨_, hidk rfl⟩
      have hox : OkE x.e := by rw [HX.out]; exact hok _ (List.getElem_mem hkl)
      obtain ⟨X, HXX, HSX, H1X, HNX⟩ := item_row x hox
      obtain ⟨U, HU, HSU, H1U, HNU⟩ := entry_row x.e hox
      have HR : Hid (wr.rangeAt g (o + 110 * k) X.toList) := by
        show World.rangeAt _ _ _ _
        rw [HXX.out, HX.out]
        have h1 := (HR0.out.below HKP.out.1 (fun g' o' e _ => by cases e; exact hgn)).range k hkl
        simpa using h1
      have HZX : Hid (Z.size = X.size) := by show _ = _; rw [HNZ.out, HNX.out]
      have ix := fun W => index_item W g o len cap k .i64 hlt
      have hsw := HKP.out.1.size
      have HCX : Hid (∀ (V : World) (b : Nat), V.heap[b]? = some (.cells X 40 (0, 0)) → V.cell? ⟨b, 1, none⟩ = some (.int .i64 x.e.k) ∧ V.cell? ⟨b, 2, none⟩ = some (.int .i64 x.e.c) ∧ V.rangeAt b 1 U.toList) := fun V b hh => by
        have hr := range_row (l := icells x) (W := V) (g := b) (t := 40) (fr := (0, 0)) (by rw [← HXX.out]; exact hh)
        refine ⟨by simpa using hr 1 _ (icells_k x), by simpa using hr 2 _ (icells_c x), ?_⟩
        rw [HU.out]
        have := range_entry hr
        simpa using this
      have HCB : Hid (∀ V : World, Below wr.heap.size wr V → V.cell? ⟨Bc, 0, none⟩ = some (.int .i64 c)) := fun V hb =>
        (hb.cell (p := ⟨Bc, 0, none⟩) (by show Bc < wr.heap.size; omega)).trans ((World.cell?_of_block (a := ⟨Bc, 0, none⟩) HKP.out.2.2).trans hBc)
      have HN := hidk (entsF_next l hok c k hkl)
      obtain ⟨y, Hy⟩ : ∃ y : Ur, Hid (y = ⟨k, l[k].e, hok _ (List.getElem_mem hkl)⟩) := ⟨_, hidk rfl⟩
      have HIU : Hid (isU l[k] c = (decide (x.e.k = 1) && decide (x.e.c = c))) := by show _ = _; rw [HX.out]; rfl
      have HENC : Hid (encU y = #[.int .i64 (k : Int), .agg U]) := by show _ = _; unfold encU; rw [Hy.out, HU.out, HX.out]
      have HKB : Hid (∀ V, Below wr.heap.size wr V → KpE n₀ Bs Bc W V ∧ J pre V) := fun V hb => ⟨kpE_t HKP.out (kpE_below (by omega) (by omega) (by omega) hb), hJ pre wr V none hJs (grown_of_below11 hb) (fun r e => by cases e)⟩
      have HX1 : Hid (∀ V, J pre V → ∃ fn tmps assign body, (Instr.yield lp #[.int .i64 (k : Int), .agg U]).run Try.prog V = .ok (.round lp fn tmps assign body) V ∧
            RoundIn Fence.wide (n - 1) Try.prog lp fn tmps assign body V fun e W' => ∃ bb, e = .returned (.bool bb) ∧ ((bb = true ∧ J (pre ++ [y]) W' ∧ KpE n₀ Bs Bc V W') ∨ (bb = false ∧ Jx (pre ++ [y]) W'))) := by
        intro V hj
        obtain ⟨fn, tmps, assign, body, hy, hRo⟩ := hY pre y V hj (by have := HP.out; omega)
        rw [HENC.out] at hy
        refine ⟨fn, tmps, assign, body, hy, hRo.mono ?_⟩
        rintro e W' (⟨he, h2, h3⟩ | ⟨he, h2⟩)
        · exact ⟨true, he, .inl ⟨rfl, h2, h3⟩⟩
        · exact ⟨false, he, .inr ⟨rfl, h2⟩⟩
      rw [← Hy.out] at HN
      obtain ⟨kk, hkk⟩ : ∃ z, x.e.k = z := ⟨_, rfl⟩
      obtain ⟨cc, hcc⟩ : ∃ z, x.e.c = z := ⟨_, rfl⟩
      rw [hkk, hcc] at HIU HCX
      have hmo : Try.prog.follows Departure.mixedOrders = true := by kernel_rfl
      clear hY hBs hBc HXX HU H1U HNU HNX HENC Hy hkk hcc hox HX hg hgn hJs h0 hsw HR0 HA0
      by_cases hk1 : kk = 1
      · have dk : decide (kk = (1 : Int)) = true := decide_eq_true hk1
        by_cases hc1 : cc = c
        · have dc : decide (cc = c) = true := decide_eq_true hc1
          rw [dk, dc] at HIU
          have HN2 : Hid (entsF l hok c k = [y] ++ entsF l hok c (k + 1)) := by show _ = _; rw [HN.out, HIU.out]; rfl
          clear HN HIU dk dc
          subst hk1
          replace hc1 := hc1.symm
          subst hc1
          gi_wp2_with (first
            | (show wpListIn _ _ _ _ _ ({ dst := some 12, op := _, type := _, pos := _, after := _, guard := _ } :: _) _ _; refine wpListIn_mid (by rfl) 40 (.tmp 11) rfl g (o + 110 * k) rfl X _ HR.out Try.underlying40 rfl HSX.out ?_; try simp only [Act.put, List.setIfInBounds_toArray, List.set_cons_zero, List.set_cons_succ])
            | (show wpListIn _ _ _ _ _ ({ dst := some 5, op := _, type := _, pos := _, after := _, guard := _ } :: _) _ _; refine wpListIn_new_var rfl 40 rfl Z HAZ.out ?_; intro g5 w1 HM; have HG := hidk HM.out.row; try simp only [Act.put, List.setIfInBounds_toArray, List.set_cons_zero, List.set_cons_succ])
            | (refine wpListIn_set_var rfl 40 (.tmp 5) (.tmp 12) rfl g5 X rfl rfl 40 Z HG.out HSX.out HZX.out H1X.out ?_; intro w2 HW; have hb2 : Below wr.heap.size wr w2 := HW.out.below wr.heap.size wr HM.out.below (by rw [HM.out.new]; exact Nat.le_refl _); have HK2 := hidk (HKB.out _ hb2); have HG2 := hidk HW.out.row; obtain ⟨c1, c2, HR2⟩ := HCX.out _ _ HW.out.row; have HRU := hidk HR2; clear HR2; obtain ⟨fn, tmps, assign, body, hy, hRo⟩ := HX1.out _ HK2.out.2; have cB := HCB.out _ hb2; clear hb2; try simp only [Act.put, List.setIfInBounds_toArray, List.set_cons_zero, List.set_cons_succ])
            | (show wpListIn _ _ _ _ _ ({ dst := some 27, op := _, type := _, pos := _, after := _, guard := _ } :: _) _ _; refine wpListIn_mid (by rfl) 38 (.tmp 26) rfl g5 1 rfl U _ HRU.out Try.underlying38 rfl HSU.out ?_; try simp only [Act.put, List.setIfInBounds_toArray, List.set_cons_zero, List.set_cons_succ])
            | fail)
          refine hRo.mono ?_
          rintro e W3 ⟨bb, rfl, hbb⟩
          rcases hbb with ⟨rfl, hJ3, hk3⟩ | ⟨rfl, hJx3⟩
          · have HE3 : Hid (entsF l hok c 0 = (pre ++ [y]) ++ entsF l hok c (k + 1)) := by show _ = _; rw [HE.out, HN2.out]; simp
            have HP3 : Hid ((pre ++ [y]).length ≤ k + 1) := by show _ ≤ _; have := HP.out; rw [List.length_append]; show pre.length + 1 ≤ k + 1; omega
            have HK3 := hidk (kpE_t HK2.out.1 hk3)
            clear hy hRo hk3 c1 c2 cB HK2 HX1
            gi_wp2
            go_roundw
            case rel => exact ⟨k + 1, pre ++ [y], by omega, by go_num, HP3, HE3, hJ3, HK3⟩
            case measure => simp [intOf]; omega
          · have HPX : Hid ((pre ++ [y]) <+: entsF l hok c 0) := by show _ <+: _; rw [HE.out, HN2.out]; exact ⟨entsF l hok c (k + 1), by simp⟩
            clear hy hRo c1 c2 cB HK2 HX1
            gi_wp2
            refine bodyPost_ret (results_none rfl _ _ _) rfl ?_
            exact ⟨⟨_, rfl⟩, .inr ⟨_, HPX.out, hJx3⟩⟩
        · have bc : (cc == c) = false := by rw [beq_eq_false_iff_ne]; exact hc1
          have dc : decide (cc = c) = false := decide_eq_false hc1
          rw [dk, dc] at HIU
          have HN2 : Hid (entsF l hok c k = entsF l hok c (k + 1)) := by show _ = _; rw [HN.out, HIU.out]; rfl
          clear hc1 HN HIU HX1 dk
          subst hk1
          gi_wp2_with (first
            | (show wpListIn _ _ _ _ _ ({ dst := some 12, op := _, type := _, pos := _, after := _, guard := _ } :: _) _ _; refine wpListIn_mid (by rfl) 40 (.tmp 11) rfl g (o + 110 * k) rfl X _ HR.out Try.underlying40 rfl HSX.out ?_; try simp only [Act.put, List.setIfInBounds_toArray, List.set_cons_zero, List.set_cons_succ])
            | (show wpListIn _ _ _ _ _ ({ dst := some 5, op := _, type := _, pos := _, after := _, guard := _ } :: _) _ _; refine wpListIn_new_var rfl 40 rfl Z HAZ.out ?_; intro g5 w1 HM; have HG := hidk HM.out.row; try simp only [Act.put, List.setIfInBounds_toArray, List.set_cons_zero, List.set_cons_succ])
            | (refine wpListIn_set_var rfl 40 (.tmp 5) (.tmp 12) rfl g5 X rfl rfl 40 Z HG.out HSX.out HZX.out H1X.out ?_; intro w2 HW; have hb2 : Below wr.heap.size wr w2 := HW.out.below wr.heap.size wr HM.out.below (by rw [HM.out.new]; exact Nat.le_refl _); have HK2 := hidk (HKB.out _ hb2); have HG2 := hidk HW.out.row; obtain ⟨c1, c2, HR2⟩ := HCX.out _ _ HW.out.row; have cB := HCB.out _ hb2; clear hb2; try simp only [Act.put, List.setIfInBounds_toArray, List.set_cons_zero, List.set_cons_succ])
            | (show wpListIn _ _ _ _ _ ({ dst := some 27, op := _, type := _, pos := _, after := _, guard := _ } :: _) _ _; refine wpListIn_mid (by rfl) 38 (.tmp 26) rfl g5 1 rfl U _ HRU.out Try.underlying38 rfl HSU.out ?_; try simp only [Act.put, List.setIfInBounds_toArray, List.set_cons_zero, List.set_cons_succ])
            | fail)
          go_roundw
          case rel => exact ⟨k + 1, pre, by omega, by go_num, by show _ ≤ _; have := HP.out; omega, by show _ = _; rw [HE.out, HN2.out], HK2.out.2, HK2.out.1⟩
          case measure => simp [intOf]; omega
      · have bk : (kk == (1 : Int)) = false := by rw [beq_eq_false_iff_ne]; exact hk1
        have dk : decide (kk = (1 : Int)) = false := decide_eq_false hk1
        rw [dk] at HIU
        have HN2 : Hid (entsF l hok c k = entsF l hok c (k + 1)) := by show _ = _; rw [HN.out, HIU.out]; rfl
        clear hk1 HN HIU HX1
        gi_wp2_with (first
          | (show wpListIn _ _ _ _ _ ({ dst := some 12, op := _, type := _, pos := _, after := _, guard := _ } :: _) _ _; refine wpListIn_mid (by rfl) 40 (.tmp 11) rfl g (o + 110 * k) rfl X _ HR.out Try.underlying40 rfl HSX.out ?_; try simp only [Act.put, List.setIfInBounds_toArray, List.set_cons_zero, List.set_cons_succ])
          | (show wpListIn _ _ _ _ _ ({ dst := some 5, op := _, type := _, pos := _, after := _, guard := _ } :: _) _ _; refine wpListIn_new_var rfl 40 rfl Z HAZ.out ?_; intro g5 w1 HM; have HG := hidk HM.out.row; try simp only [Act.put, List.setIfInBounds_toArray, List.set_cons_zero, List.set_cons_succ])
          | (refine wpListIn_set_var rfl 40 (.tmp 5) (.tmp 12) rfl g5 X rfl rfl 40 Z HG.out HSX.out HZX.out H1X.out ?_; intro w2 HW; have hb2 : Below wr.heap.size wr w2 := HW.out.below wr.heap.size wr HM.out.below (by rw [HM.out.new]; exact Nat.le_refl _); have HK2 := hidk (HKB.out _ hb2); have HG2 := hidk HW.out.row; obtain ⟨c1, c2, HR2⟩ := HCX.out _ _ HW.out.row; have cB := HCB.out _ hb2; clear hb2; try simp only [Act.put, List.setIfInBounds_toArray, List.set_cons_zero, List.set_cons_succ])
          | (show wpListIn _ _ _ _ _ ({ dst := some 27, op := _, type := _, pos := _, after := _, guard := _ } :: _) _ _; refine wpListIn_mid (by rfl) 38 (.tmp 26) rfl g5 1 rfl U _ HRU.out Try.underlying38 rfl HSU.out ?_; try simp only [Act.put, List.setIfInBounds_toArray, List.set_cons_zero, List.set_cons_succ])
          | fail)
        go_roundw
        case rel => exact ⟨k + 1, pre, by omega, by go_num, by show _ ≤ _; have := HP.out; omega, by show _ = _; rw [HE.out, HN2.out], HK2.out.2, HK2.out.1⟩
        case measure => simp [intOf]; omega
    · have HEE : Hid (pre = entsF l hok c 0) := by show _ = _; rw [HE.out, entsF_end l hok c k (by have := HL.out; omega), List.append_nil]
      clear hY
      gi_wp2
      go_end0
      exact ⟨⟨_, rfl⟩, .inl ⟨pre, HEE.out, hJs⟩⟩
set_option maxHeartbeats 1000000 in
theorem ents_in (n : Nat) (a : Option Addr) (len cap : Nat) (c : Int) (w : World) :
    CallsIn Fence.wide n Try.prog 118 #[.slice a len cap, .int .i64 c] w fun e w' => e = .returned (.func (.func 129) #[] #[.pointer (some ⟨w.heap.size, 0, none⟩), .pointer (some ⟨w.heap.size + 1, 0, none⟩)]) ∧ w' = (w.alloc (.cells #[.slice a len cap] 22)).alloc (.cells #[.int .i64 c] 3) := by
  refine callsIn_of_wp Try.func118 rfl trivial ?_ rfl
  simp only [Try.ntmps118, List.size_toArray, List.length_cons, List.length_nil, Nat.reduceAdd, Nat.reduceSub, Array.replicate_succ, Array.replicate_zero, List.push_toArray, List.append_toArray, List.nil_append, List.cons_append]
  gi_wp2
  go_ret
  exact ⟨rfl, rfl⟩
/-- The iterator's value goes through all of a client's entries, or through a part of them. -/
theorem ents_stops (n : Nat) (hn : 1 ≤ n) (Bs Bc n₀ : Nat) (a : Option Addr) (len cap : Nat) (l : List ItT) (c : Int) (w : World) (hm : len ≤ 1000000) (hBs : Bs < w.heap.size) (hBc : Bc < w.heap.size) (hn₀ : n₀ ≤ w.heap.size)
    (hcs : w.cell? ⟨Bs, 0, none⟩ = some (.slice a len cap)) (hcc : w.cell? ⟨Bc, 0, none⟩ = some (.int .i64 c)) (hR : IReads w a len cap l) (hA : ∀ g o, a = some ⟨g, o, none⟩ → 0 < len → g < n₀) :
    SeqStopsK Fence.wide n Try.prog 129 #[.pointer (some ⟨Bs, 0, none⟩), .pointer (some ⟨Bc, 0, none⟩)] encU (KpE n₀ Bs Bc) (fun ys => ys = entsF l hR.ok c 0) (fun pre => pre <+: entsF l hR.ok c 0) len w := fun lp J Jx W hW hJ _ hY h0 =>
  ents1_in n hn lp Bs Bc n₀ a len cap l c hR.ok hm J Jx W hJ (Nat.le_trans hn₀ hW.size) (Nat.lt_of_lt_of_le hBs hW.size) (Nat.lt_of_lt_of_le hBc hW.size) hY ((hW.cell (p := ⟨Bs, 0, none⟩) hBs).trans hcs) ((hW.cell (p := ⟨Bc, 0, none⟩) hBc).trans hcc) (hR.keep hW) hA h0
end Go.Proofs.Ytjpmmbmhkpgjcaa

/- The program's Find and isOld. -/
namespace Go.Proofs.Ytjpmmbmhkpgjcaa
open Go.RowKit Go.Shelf Nums Sums
set_option linter.unusedVariables false
set_option linter.unusedSimpArgs false
set_option maxRecDepth 100000

attribute [local go_sem] Oper.semAt_some
/-- The blocks of Find's own variables: the Seq, the two results. -/
structure FndB (w : World) (s i : Int) (b : Bool) (W : World) : Prop where
  s : W.heap[w.heap.size]? = some (.cells #[.int .i64 s] 3 (0, 0))
  i : W.heap[w.heap.size + 1]? = some (.cells #[.int .i64 i] 3 (0, 0))
  b : W.heap[w.heap.size + 1 + 1]? = some (.cells #[.bool b] 4 (0, 0))
  bl : Below w.heap.size w W
  z : w.heap.size + 5 ≤ W.heap.size
theorem FndB.own {w : World} {s i : Int} {b : Bool} {X Y : World} {row : Option Nat} {B : Nat} (h : FndB w s i b X) (hB : w.heap.size ≤ B) (hg : X.grownBy Y row) (hr : ∀ r, row = some r → B ≤ r ∧ ∃ o : Obj, X.heap[r]? = some o ∧ o.isCells = false) : FndB w s i b Y :=
  ⟨cells_stay h.s hg (fun r e => (hr r e).2), cells_stay h.i hg (fun r e => (hr r e).2), cells_stay h.b hg (fun r e => (hr r e).2), h.bl.grown hg (Nat.le_trans h.bl.size (Nat.le_refl _)) (fun k e => by have := (hr k e).1; omega), Nat.le_trans h.z hg.size⟩
theorem FndB.keep {w : World} {s i : Int} {b : Bool} {X Y : World} (h : FndB w s i b X) (hb : Below X.heap.size X Y) : FndB w s i b Y :=
  ⟨(hb.block _ (heap_lt h.s)).trans h.s, (hb.block _ (heap_lt h.i)).trans h.i, (hb.block _ (heap_lt h.b)).trans h.b, h.bl.trans (hb.mono h.bl.size), Nat.le_trans h.z hb.size⟩
/-- The blocks of isOld's own variables: the entry, the result. -/
structure OldB (w : World) (V : Array Value) (b : Bool) (W : World) : Prop where
  e : W.heap[w.heap.size]? = some (.cells V 38 (0, 0))
  b : W.heap[w.heap.size + 1]? = some (.cells #[.bool b] 4 (0, 0))
  bl : Below w.heap.size w W
  z : w.heap.size + 4 ≤ W.heap.size
theorem OldB.own {w : World} {V : Array Value} {b : Bool} {X Y : World} {row : Option Nat} {B : Nat} (h : OldB w V b X) (hB : w.heap.size ≤ B) (hg : X.grownBy Y row) (hr : ∀ r, row = some r → B ≤ r ∧ ∃ o : Obj, X.heap[r]? = some o ∧ o.isCells = false) : OldB w V b Y :=
  ⟨cells_stay h.e hg (fun r e => (hr r e).2), cells_stay h.b hg (fun r e => (hr r e).2), h.bl.grown hg (Nat.le_trans h.bl.size (Nat.le_refl _)) (fun k e => by have := (hr k e).1; omega), Nat.le_trans h.z hg.size⟩
theorem OldB.keep {w : World} {V : Array Value} {b : Bool} {X Y : World} (h : OldB w V b X) (hb : Below X.heap.size X Y) : OldB w V b Y :=
  ⟨(hb.block _ (heap_lt h.e)).trans h.e, (hb.block _ (heap_lt h.b)).trans h.b, h.bl.trans (hb.mono h.bl.size), Nat.le_trans h.z hb.size⟩
theorem olds_no {l : List ItT} (hok : ∀ x ∈ l, OkE x.e) {c s : Int} (h : ∀ y ∈ entsF l hok c 0, y.e.s < s) : oldL l c s = false := by
  rw [old_any hok, List.any_eq_false]
  intro y hy
  have := h y hy
  simp; omega
theorem olds_at {l : List ItT} (hok : ∀ x ∈ l, OkE x.e) {c s : Int} {pre : List Ur} {x : Ur} (hp : pre ++ [x] <+: entsF l hok c 0) (h : s ≤ x.e.s) : oldL l c s = true := by
  rw [old_any hok, List.any_eq_true]
  obtain ⟨t, ht⟩ := hp
  exact ⟨x, by rw [← ht]; simp, by simpa using h⟩
set_option maxHeartbeats 8000000 in
theorem old_in (n : Nat) (hn : 3 ≤ n) (a : Option Addr) (len cap : Nat) (l : List ItT) (v : EnT) (V : Array Value) (HV : Hid (V = (ecells v).toArray)) (w : World) (h : InL w a len cap l) :
    CallsIn Fence.wide n Try.prog 102 #[.slice a len cap, .agg V] w fun e w' => e = .returned (.bool (oldL l v.c v.s)) ∧ Below w.heap.size w w' := by
  have h1 : 1 ≤ n := by omega
  obtain ⟨Z, HZ, HAZ, HBZ, HNZ⟩ := noughtsE
  have hA : ∀ g o, a = some ⟨g, o, none⟩ → 0 < len → g < w.heap.size := fun g o e h0 => by
    obtain ⟨g', o', e', hl⟩ := h.rd.at h0
    rw [e] at e'; cases e'; exact hl
  have HVC : Hid (∀ (W : World), W.heap[w.heap.size]? = some (.cells V 38 (0, 0)) → W.cell? ⟨w.heap.size, 1, none⟩ = some (.int .i64 v.c) ∧ W.cell? ⟨w.heap.size, 2, none⟩ = some (.int .i64 v.s)) := fun W hh => by
    rw [cell_of_row W _ 1 _ _ (0, 0) hh, cell_of_row W _ 2 _ _ (0, 0) hh, HV.out]
    exact ⟨rfl, rfl⟩
  obtain ⟨c, Hc⟩ : ∃ z, Hid (v.c = z) := ⟨_, hidk rfl⟩
  obtain ⟨s, Hs⟩ : ∃ z, Hid (v.s = z) := ⟨_, hidk rfl⟩
  rw [Hc.out, Hs.out] at HVC ⊢
  have g0 : ((w.alloc (.cells V 38)).alloc (.cells #[.bool false] 4)).heap[w.heap.size]? = some (.cells V 38 (0, 0)) := heap_keep (heap_alloc_new w _)
  obtain ⟨c10, c20⟩ := HVC.out _ g0
  clear HV Hc Hs HZ HBZ
  refine callsIn_of_wp_marks Try.func102 rfl trivial ?_ rfl
  simp only [Try.ntmps102, List.size_toArray, List.length_cons, List.length_nil, Nat.reduceAdd, Nat.reduceSub, Array.replicate_succ, Array.replicate_zero, List.push_toArray, List.append_toArray, List.nil_append, List.cons_append]
  gi_wp2_with (refine ⟨trivial, ?_⟩; gi_at_call 118; refine (ents_in (n - 1) _ _ _ _ _).mono ?_; rintro e w' ⟨rfl, rfl⟩)
  have hB0 : Below w.heap.size w ((((w.alloc (.cells V 38)).alloc (.cells #[.bool false] 4)).alloc (.cells #[.slice a len cap] 22)).alloc (.cells #[.int .i64 c] 3)) :=
    ((((Below.refl _ w).alloc (Nat.le_refl _) _).alloc (by simp) _).alloc (by simp; omega) _).alloc (by simp; omega) _
  have hsz : ((((w.alloc (.cells V 38)).alloc (.cells #[.bool false] 4)).alloc (.cells #[.slice a len cap] 22)).alloc (.cells #[.int .i64 c] 3)).heap.size = w.heap.size + 4 := by simp
  have b0 := heap_keep (o' := .cells #[.int .i64 c] 3) (heap_keep (o' := .cells #[.slice a len cap] 22) g0)
  have b2 := ((Boxed.new (w.alloc (.cells V 38)) 4 (.bool false)).alloc (.cells #[.slice a len cap] 22)).alloc (.cells #[.int .i64 c] 3)
  have b3 := (Boxed.new ((w.alloc (.cells V 38)).alloc (.cells #[.bool false] 4)) 22 (.slice a len cap)).alloc (.cells #[.int .i64 c] 3)
  have b4 := Boxed.new (((w.alloc (.cells V 38)).alloc (.cells #[.bool false] 4)).alloc (.cells #[.slice a len cap] 22)) 3 (.int .i64 c)
  simp only [World.size_alloc] at b2 b3 b4
  obtain ⟨W0, hW0⟩ : ∃ W0, ((((w.alloc (.cells V 38)).alloc (.cells #[.bool false] 4)).alloc (.cells #[.slice a len cap] 22)).alloc (.cells #[.int .i64 c] 3)) = W0 := ⟨_, rfl⟩
  rw [hW0] at b0 b2 b3 b4 hB0 hsz ⊢
  clear hW0 g0 c10 c20
  have hge : w.heap.size + 4 ≤ W0.heap.size := Nat.le_of_eq hsz.symm
  clear hsz
  have F0 : OldB w V false W0 := ⟨b0, b2, hB0, hge⟩
  have hRd := h.rd.keep hB0
  refine wpIn_rangeFunc_ownH rfl h1 (gf := 129) (lb := #[.pointer (some ⟨w.heap.size + 1 + 1, 0, none⟩), .pointer (some ⟨w.heap.size + 1 + 1 + 1, 0, none⟩)]) rfl trivial (enters_of Try.func129 (by kernel_rfl) rfl)
    (ents_stops (n - 1) (by omega) (w.heap.size + 1 + 1) (w.heap.size + 1 + 1 + 1) w.heap.size a len cap l c W0 (by have := h.le; omega) (by omega) (by omega) (by omega) b3.cell b4.cell hRd hA) kpE_t (kpE_b (by omega) (by omega) (by omega)) (Below.refl _ _) (fun _ => rfl)
    (fun pre W => OldB w V false W ∧ ∀ x ∈ pre, x.e.s < s)
    (fun cd pre W => cd = .ret ∧ ∃ pre' x, pre = pre' ++ [x] ∧ s ≤ x.e.s ∧ OldB w V true W)
    (fun pre X Y row hs hg hr => ⟨hs.1.own (by omega) hg hr, hs.2⟩)
    (fun cd pre X Y row hs hg hr => by
      obtain ⟨hc, pre', x, e1, e2, e4⟩ := hs
      exact ⟨hc, pre', x, e1, e2, e4.own (by omega) hg hr⟩)
    ⟨F0, fun x hx => by cases hx⟩
    (fun x a' W => ∃ Bx, W.heap[Bx]? = some (.cells (ecells x.e).toArray 38 (0, 0)) ∧ a' = { tmps := #[.slice a len cap, .agg V, undef, .pointer (some ⟨w.heap.size, 0, none⟩), .pointer (some ⟨w.heap.size + 1, 0, none⟩), undef, .pointer (some ⟨Bx, 0, none⟩), .slice a len cap, .pointer (some ⟨w.heap.size, 1, none⟩), .int .i64 c, .func (.func 129) #[] #[.pointer (some ⟨w.heap.size + 1 + 1, 0, none⟩), .pointer (some ⟨w.heap.size + 1 + 1 + 1, 0, none⟩)], .int .i64 (x.i : Int), .agg (ecells x.e).toArray, undef, undef, undef, undef, undef], defers := [] })
    (fun x a' _ X Y row hs hg hr => by obtain ⟨Bx, k2, k3⟩ := hs; exact ⟨Bx, cells_stay k2 hg (fun r e => (hr r e).2), k3⟩)
    ?assign ?body ?done ?stop
  case assign =>
    rintro lp pre x W K ⟨hF, hz⟩ hK
    obtain ⟨U, HU, HSU, H1U, HNU⟩ := entry_row x.e x.ok
    have HZU : Hid (Z.size = U.size) := by show _ = _; rw [HNZ.out, HNU.out]
    dsimp only [encU]
    rw [← HU.out] at hK ⊢
    have hls := hF.bl.size
    have l3 := hF.z
    have HFF := hidk hF
    have HKK := hidk hK
    clear hF hK HU HNU
    simp only [List.zip_toArray, List.foldl_toArray, List.zip_cons_cons, List.zip_nil_right, List.foldl_cons, List.foldl_nil, List.setIfInBounds_toArray, List.set_cons_succ, List.set_cons_zero]
    gi_wp2_with (first
      | (show wpListIn _ _ _ _ _ ({ dst := some 6, op := _, type := _, pos := _, after := _, guard := _ } :: _) _ _; refine wpListIn_new_var rfl 38 rfl Z HAZ.out ?_; intro g9 w1 HM; have HG := hidk HM.out.row; try simp only [Act.put, List.setIfInBounds_toArray, List.set_cons_zero, List.set_cons_succ])
      | (refine wpListIn_set_var rfl 38 (.tmp 6) (.tmp 12) rfl g9 U rfl rfl 38 Z HG.out HSU.out HZU.out H1U.out ?_; intro w2 HW; have HB2 : Hid (Below W.heap.size W w2) := HW.out.below W.heap.size W HM.out.below (by rw [HM.out.new]; exact Nat.le_refl _); have HG2 := hidk HW.out.row; try simp only [Act.put, List.setIfInBounds_toArray, List.set_cons_zero, List.set_cons_succ])
      | fail)
    exact HKK.out _ _ (KeepsFrom.of_grownBy (grown_of_below11 HB2.out) (fun j e => by cases e)) (kpE_below (by omega) (by omega) (by omega) HB2.out) ⟨HFF.out.keep HB2.out, hz⟩ ⟨g9, HG2.out, rfl⟩
  case body =>
    rintro lp pre x a' W hl0 ⟨r, hlr⟩ ⟨hF, hz⟩ ⟨Bx, hBx, rfl⟩ hlt
    have HFF := hidk hF
    have cX : W.cell? ⟨Bx, 2, none⟩ = some (.int .i64 x.e.s) := by rw [cell_of_row W Bx 2 _ _ (0, 0) hBx]; rfl
    have cS := (HVC.out W hF.e).2
    have c2 : W.cell? ⟨w.heap.size + 1, 0, none⟩ = some (.bool false) := by rw [cell_of_row W _ 0 _ _ (0, 0) hF.b]; rfl
    have f2 := frozen_of_row W (w.heap.size + 1) 0 _ _ hF.b
    obtain ⟨U, HU⟩ : ∃ U, Hid ((ecells x.e).toArray = U) := ⟨_, hidk rfl⟩
    rw [HU.out]
    obtain ⟨ss, Hss⟩ : ∃ z, Hid (x.e.s = z) := ⟨_, hidk rfl⟩
    rw [Hss.out] at cX
    by_cases hs : s ≤ ss
    · have FIN : Hid (OldB w V true (W.setCell ⟨w.heap.size + 1, 0, none⟩ (.bool true)) ∧ KeepsFrom W0.heap.size W (W.setCell ⟨w.heap.size + 1, 0, none⟩ (.bool true))) := by
        refine ⟨⟨?_, ?_, HFF.out.bl.setCell (p := ⟨w.heap.size + 1, 0, none⟩) (by show w.heap.size ≤ w.heap.size + 1; omega) _, by simpa using HFF.out.z⟩, (KeepsOthers.setCell _ _ _).from _⟩
        · exact set_other HFF.out.e (by omega) _
        · exact Boxed.set _ (show Boxed W (w.heap.size + 1) 4 (.bool false) from HFF.out.b)
      have HS : Hid (s ≤ x.e.s) := by show _ ≤ _; rw [Hss.out]; exact hs
      have ds : decide (s ≤ ss) = true := decide_eq_true hs
      clear hF hBx HFF Hss HU hs
      gi_wp2
      exact ⟨FIN.out.2, rfl, pre, x, rfl, HS.out, FIN.out.1⟩
    · have ds : decide (s ≤ ss) = false := decide_eq_false hs
      have HS : Hid (x.e.s < s) := by show _ < _; rw [Hss.out]; omega
      have hls := hF.z
      clear hF hBx Hss HU hs
      gi_wp2
      refine ⟨KeepsFrom.refl _ _, ⟨Below.refl _ _, rfl, rfl⟩, HFF.out, fun y hy => ?_⟩
      rcases List.mem_append.1 hy with h | h
      · exact hz y h
      · rw [List.mem_singleton] at h; rw [h]; exact HS.out
  case done =>
    rintro D ys W hD rfl ⟨hF, hz⟩ hK
    have c2 : W.cell? ⟨w.heap.size + 1, 0, none⟩ = some (.bool false) := by rw [cell_of_row W _ 0 _ _ (0, 0) hF.b]; rfl
    have f2 := frozen_of_row W (w.heap.size + 1) 0 _ _ hF.b
    have HFN := hidk (olds_no h.rd.ok hz)
    have FIN : Hid (OldB w V false (W.setCell ⟨w.heap.size + 1, 0, none⟩ (.bool false))) := by
      refine ⟨?_, ?_, hF.bl.setCell (p := ⟨w.heap.size + 1, 0, none⟩) (by show w.heap.size ≤ w.heap.size + 1; omega) _, by simpa using hF.z⟩
      · exact set_other hF.e (by omega) _
      · exact Boxed.set _ (show Boxed W (w.heap.size + 1) 4 (.bool false) from hF.b)
    have hK' := hidk ((KeepsOthers.setCell W ⟨w.heap.size + 1, 0, none⟩ (.bool false)).same D _ hK rfl)
    clear hF hz hK
    gi_wp2
    refine ⟨by simp, .inl ⟨_, _, rfl, run_takeDeferred hK'.out, ?_⟩⟩
    have FE := FIN.out.own (B := W0.heap.size) (by omega) (grownBy_putObj' _ D (.deferred none)) (fun r e => by cases e; exact ⟨hD, _, hK'.out, rfl⟩)
    have q2 := cell_of_row _ _ 0 _ _ (0, 0) FE.b
    refine ⟨.bool false, ?_, by rw [HFN.out], FE.bl⟩
    simp [results, Try.f102, go_sem, q2]
  case stop =>
    rintro D cd pre W hD hpre ⟨rfl, pre', x, rfl, hx, hF⟩ hK
    have HFN := hidk (olds_at h.rd.ok hpre hx)
    gi_wp2
    refine ⟨by simp, .inl ⟨_, _, rfl, run_takeDeferred hK, ?_⟩⟩
    have FE := hF.own (B := W0.heap.size) (by omega) (grownBy_putObj' _ D (.deferred none)) (fun r e => by cases e; exact ⟨hD, _, hK, rfl⟩)
    have q2 := cell_of_row _ _ 0 _ _ (0, 0) FE.b
    refine ⟨.bool true, ?_, by rw [HFN.out], FE.bl⟩
    simp [results, Try.f102, go_sem, q2]
theorem hOld (a : Option Addr) (len cap : Nat) (l : List ItT) (v : EnT) (V : Array Value) (HV : Hid (V = (ecells v).toArray)) (w : World) (h : InL w a len cap l) :
    Calls Try.prog 102 #[.slice a len cap, .agg V] w fun e w' => e = .returned (.bool (oldL l v.c v.s)) ∧ Below w.heap.size w w' := callsIn_wide.1 (old_in 3 (Nat.le_refl _) a len cap l v V HV w h)
end Go.Proofs.Ytjpmmbmhkpgjcaa

/- The program's May of logs. -/
namespace Go.Proofs.Ytjpmmbmhkpgjcaa
open Go.RowKit Nums Sums
set_option linter.unusedVariables false
set_option linter.unusedSimpArgs false
set_option maxRecDepth 100000
set_option maxHeartbeats 16000000 in
theorem hMay (ck : EntryC) (a : Option Addr) (len cap : Nat) (l : List ItT) (x : ItT) (hx : InI x) (w : World) (hin : InL w a len cap l) (hmx : len ≤ 1000) (X : Array Value) (HX : Hid (X = (icells x).toArray)) :
    Calls Try.prog 86 #[.slice a len cap, .agg X] w fun e w' => e = .returned (.int .i64 (mayE l x)) ∧ Below w.heap.size w w' := by
  have h := hin.rd
  have ok := hx.e.ok
  have HSX : Hid ((Try.prog.info? 40).map (·.size) = some X.size) := by show _ = _; rw [sizeI, HX.out]; simp [icells_length _ ok]
  have HB : Hid (Below w.heap.size w (w.alloc (.cells X 40))) := (Below.refl _ _).alloc (Nat.le_refl _) _
  have HG := hidk (heap_alloc_new w (.cells X 40))
  have HRL : Hid (∀ W, Below w.heap.size w W → Calls Try.prog 55 #[.slice a len cap] W fun e w' => e = .returned (.int .i64 (if rightL l = true then 0 else 100)) ∧ Below W.heap.size W w') := fun W hb => hCheck ck a len cap l W (hin.keep hb)
  have HRI : Hid (∀ W, Calls Try.prog 82 #[.agg X] W fun e w' => e = .returned (.bool (rightI x)) ∧ Below W.heap.size W w') := fun W => hIsRight ck x hx W X HX
  obtain ⟨V, HV, HSV, H1V, HNV⟩ := entry_row x.e ok
  have HRV : Hid (∀ W : World, W.heap[w.heap.size]? = some (.cells X 40 (0, 0)) → W.rangeAt w.heap.size 1 V.toList) := fun W hh => by
    have h0 := range_row (l := icells x) (W := W) (g := w.heap.size) (t := 40) (fr := (0, 0)) (by rw [← HX.out]; exact hh)
    rw [HV.out]
    have := range_entry h0
    simpa using this
  have HOL : Hid (∀ W, Below w.heap.size w W → Calls Try.prog 102 #[.slice a len cap, .agg V] W fun e w' => e = .returned (.bool (oldL l x.e.c x.e.s)) ∧ Below W.heap.size W w') := fun W hb => hOld a len cap l x.e V HV W (hin.keep hb)
  have HCL : Hid (∀ (W : World) (b : Nat), W.heap[b]? = some (.cells X 40 (0, 0)) → W.cell? ⟨b, 0, none⟩ = some (.int .i64 x.p) ∧ W.cell? ⟨b, 1, none⟩ = some (.int .i64 x.e.k) ∧ W.cell? ⟨b, 2, none⟩ = some (.int .i64 x.e.c) ∧ W.cell? ⟨b, 3, none⟩ = some (.int .i64 x.e.s)) := fun W b hh => by
    have hX := HX.out
    subst hX
    refine ⟨?_, ?_, ?_, ?_⟩ <;> (rw [cell_of_row _ _ _ _ _ (0, 0) hh]; rfl)
  have HLN := hidk h.ln
  have HIR := hidk h
  obtain ⟨b1, H1⟩ : ∃ b, Hid (rightL l = b) := ⟨_, hidk rfl⟩
  obtain ⟨b2, H2⟩ : ∃ b, Hid (rightI x = b) := ⟨_, hidk rfl⟩
  rw [H1.out] at HRL
  rw [H2.out] at HRI
  clear HX ok h hin hx HV H1V HNV ck
  cases b1
  · have HE := hidk (mayE_form (x := x) (.inl H1.out))
    rw [if_neg (by decide)] at HRL
    go_enter Try.func86, Try.ntmps86
    go_wp2_with fail
    refine (HRL.out _ HB.out).mono ?_
    rintro e w1 ⟨rfl, hb1⟩
    have HB1 := hidk (HB.out.trans (hb1.mono HB.out.size))
    have HG1 := hidk ((hb1.block _ (heap_lt HG.out)).trans HG.out)
    clear hb1
    go_wp2
    go_ret
    exact ⟨by rw [HE.out]; rfl, HB1.out⟩
  · rw [if_pos rfl] at HRL
    cases b2
    · have HE := hidk (mayE_form (l := l) (.inr H2.out))
      go_enter Try.func86, Try.ntmps86
      go_wp2_with fail
      refine (HRL.out _ HB.out).mono ?_
      rintro e w1 ⟨rfl, hb1⟩
      have HB1 := hidk (HB.out.trans (hb1.mono HB.out.size))
      have HG1 := hidk ((hb1.block _ (heap_lt HG.out)).trans HG.out)
      clear hb1
      go_wp2_with (first
        | (show wpList _ _ _ ({ dst := some 10, op := _, type := _, pos := _, after := _, guard := _ } :: _) _ _; refine wpList_load_row_w (by rfl) 40 (.tmp 3) rfl w.heap.size rfl 40 X (0, 0) _ HG1.out Try.underlying40 rfl HSX.out ?_; try simp only [Act.put, List.setIfInBounds_toArray, List.set_cons_zero, List.set_cons_succ])
        | fail)
      refine (HRI.out _).mono ?_
      rintro e w2 ⟨rfl, hb2⟩
      have HB2 := hidk (HB1.out.trans (hb2.mono HB1.out.size))
      have HG2 := hidk ((hb2.block _ (heap_lt HG1.out)).trans HG1.out)
      clear hb2
      go_wp2
      go_ret
      exact ⟨by rw [HE.out]; rfl, HB2.out⟩
    · obtain ⟨px, Hpx⟩ : ∃ p, Hid (x.p = p) := ⟨_, hidk rfl⟩
      obtain ⟨kx, Hkx⟩ : ∃ p, Hid (x.e.k = p) := ⟨_, hidk rfl⟩
      obtain ⟨cx, Hcx⟩ : ∃ p, Hid (x.e.c = p) := ⟨_, hidk rfl⟩
      obtain ⟨sx, Hsx⟩ : ∃ p, Hid (x.e.s = p) := ⟨_, hidk rfl⟩
      rw [Hpx.out, Hkx.out, Hcx.out, Hsx.out] at HCL
      rw [Hcx.out, Hsx.out] at HOL
      have HLF : Hid (lowB l px = true → mayE l x = 102) := fun hh => mayE_low H1.out H2.out (by rw [Hpx.out]; exact hh)
      have HFU : Hid (lowB l px = false → len = 2000 → mayE l x = 2) := fun hh h3 => mayE_full H1.out H2.out (by rw [Hpx.out]; exact hh) (by rw [HLN.out]; exact h3)
      have HLA : Hid (lowB l px = false → len ≠ 2000 → mayE l x = if kx = 1 ∧ oldL l cx sx = true then 101 else 0) := fun hh h3 => by rw [mayE_last H1.out H2.out (by rw [Hpx.out]; exact hh) (by rw [HLN.out]; exact h3), Hkx.out, Hcx.out, Hsx.out]
      have hlen : len ≤ 2000 := by rw [← HLN.out]; exact ((rightL_iff l).1 H1.out).1
      clear Hpx Hkx Hcx Hsx H1 H2
      by_cases h0 : len = 0
      · subst h0
        have hlow : lowB l px = false := lowB_none HLN.out
        have hfull : ¬ (0 : Nat) = 2000 := by decide
        by_cases hk : kx = 1
        · have bk : (kx == 1) = true := by simp [hk]
          obtain ⟨b3, H3⟩ : ∃ b, Hid (oldL l cx sx = b) := ⟨_, hidk rfl⟩
          rw [H3.out] at HOL HLA
          have HE := hidk (HLA.out hlow hfull)
          cases b3
          · have HE2 : Hid (mayE l x = 0) := by show _ = _; rw [HE.out]; simp [hk]
            go_enter Try.func86, Try.ntmps86
            go_wp2_with fail
            refine (HRL.out _ HB.out).mono ?_
            rintro e w1 ⟨rfl, hb1⟩
            have HB1 := hidk (HB.out.trans (hb1.mono HB.out.size))
            have HG1 := hidk ((hb1.block _ (heap_lt HG.out)).trans HG.out)
            clear hb1
            go_wp2_with (first
              | (show wpList _ _ _ ({ dst := some 10, op := _, type := _, pos := _, after := _, guard := _ } :: _) _ _; refine wpList_load_row_w (by rfl) 40 (.tmp 3) rfl w.heap.size rfl 40 X (0, 0) _ HG1.out Try.underlying40 rfl HSX.out ?_; try simp only [Act.put, List.setIfInBounds_toArray, List.set_cons_zero, List.set_cons_succ])
              | fail)
            refine (HRI.out _).mono ?_
            rintro e w2 ⟨rfl, hb2⟩
            have HB2 := hidk (HB1.out.trans (hb2.mono HB1.out.size))
            have HG2 := hidk ((hb2.block _ (heap_lt HG1.out)).trans HG1.out)
            clear hb2
            obtain ⟨c0, c1, c2, c3⟩ := HCL.out _ _ HG2.out
            go_wp2
            refine wp_region_held_drew (S := (fun _ => True)) (by kernel_rfl) trivial (fun hHeld => ?_)
            refine wpAnyH_take (i := 0) (oi := { dst := some 15, op := Op.move (Operand.tmp 0), type := 22, pos := "history.go:43", after := #[], guard := none }) (v := .slice a 0 cap) rfl (by kernel_rfl) (by kernel_rfl) (by kernel_rfl) (fun _ _ _ h => h) (Or.inl ⟨by rfl, by intro w hSw; go_simp⟩) hHeld ?_
            try simp only [Act.put, List.setIfInBounds_toArray, List.set_cons_zero, List.set_cons_succ]
            refine wpAnyH_take (i := 1) (oi := { dst := some 16, op := Op.call { callee := Callee.builtin Builtin.len, args := #[Operand.tmp 15], argTypes := #[22] }, type := 3, pos := "history.go:43", after := #[{ on := 0, ground := Ground.data }], guard := none }) (v := .int .i64 0) rfl (by kernel_rfl) (by kernel_rfl) (by kernel_rfl) (fun _ _ _ h => h) (Or.inl ⟨by rfl, by intro w hSw; go_simp⟩) hHeld ?_
            try simp only [Act.put, List.setIfInBounds_toArray, List.set_cons_zero, List.set_cons_succ]
            refine wpAnyH_take (i := 2) (oi := { dst := some 17, op := Op.binOp BinOp.gtr 3 (Operand.tmp 16) (Operand.const (Value.int IntKind.i64 0)) 3, type := 4, pos := "history.go:43", after := #[{ on := 1, ground := Ground.data }], guard := none }) (v := .bool false) rfl (by kernel_rfl) (by kernel_rfl) (by kernel_rfl) (fun _ _ _ h => h) (Or.inl ⟨by rfl, by intro w hSw; go_simp⟩) hHeld ?_
            try simp only [Act.put, List.setIfInBounds_toArray, List.set_cons_zero, List.set_cons_succ]
            refine wpAnyH_take (i := 3) (oi := { dst := some 18, op := Op.move (Operand.tmp 17), type := 4, pos := "history.go:43", after := #[{ on := 2, ground := Ground.data }], guard := none }) (v := .bool false) rfl (by kernel_rfl) (by kernel_rfl) (by kernel_rfl) (fun _ _ _ h => h) (Or.inl ⟨by rfl, by intro w hSw; go_simp⟩) hHeld ?_
            try simp only [Act.put, List.setIfInBounds_toArray, List.set_cons_zero, List.set_cons_succ]
            refine wpAnyH_take (i := 4) (oi := { dst := some 19, op := Op.fieldAddr 40 (Operand.tmp 3) 0, type := 0, pos := "history.go:43", after := #[{ on := 3, ground := Ground.guard }], guard := some (3, true) }) (v := undef) rfl (by kernel_rfl) (by kernel_rfl) (by kernel_rfl) (fun _ _ _ h => h) (Or.inr ⟨by rfl, rfl⟩) hHeld ?_
            try simp only [Act.put, List.setIfInBounds_toArray, List.set_cons_zero, List.set_cons_succ]
            refine wpAnyH_take (i := 5) (oi := { dst := some 20, op := Op.load 3 (Operand.tmp 19), type := 3, pos := "history.go:43", after := #[{ on := 4, ground := Ground.data }, { on := 3, ground := Ground.guard }], guard := some (3, true) }) (v := undef) rfl (by kernel_rfl) (by kernel_rfl) (by kernel_rfl) (fun _ _ _ h => h) (Or.inr ⟨by rfl, rfl⟩) hHeld ?_
            try simp only [Act.put, List.setIfInBounds_toArray, List.set_cons_zero, List.set_cons_succ]
            refine wpAnyH_take (i := 6) (oi := { dst := some 21, op := Op.move (Operand.tmp 0), type := 22, pos := "history.go:43", after := #[{ on := 3, ground := Ground.guard }], guard := some (3, true) }) (v := undef) rfl (by kernel_rfl) (by kernel_rfl) (by kernel_rfl) (fun _ _ _ h => h) (Or.inr ⟨by rfl, rfl⟩) hHeld ?_
            try simp only [Act.put, List.setIfInBounds_toArray, List.set_cons_zero, List.set_cons_succ]
            refine wpAnyH_take (i := 7) (oi := { dst := some 22, op := Op.move (Operand.tmp 0), type := 22, pos := "history.go:43", after := #[{ on := 3, ground := Ground.guard }], guard := some (3, true) }) (v := undef) rfl (by kernel_rfl) (by kernel_rfl) (by kernel_rfl) (fun _ _ _ h => h) (Or.inr ⟨by rfl, rfl⟩) hHeld ?_
            try simp only [Act.put, List.setIfInBounds_toArray, List.set_cons_zero, List.set_cons_succ]
            refine wpAnyH_take (i := 8) (oi := { dst := some 23, op := Op.call { callee := Callee.builtin Builtin.len, args := #[Operand.tmp 22], argTypes := #[22] }, type := 3, pos := "history.go:43", after := #[{ on := 7, ground := Ground.data }, { on := 3, ground := Ground.guard }], guard := some (3, true) }) (v := undef) rfl (by kernel_rfl) (by kernel_rfl) (by kernel_rfl) (fun _ _ _ h => h) (Or.inr ⟨by rfl, rfl⟩) hHeld ?_
            try simp only [Act.put, List.setIfInBounds_toArray, List.set_cons_zero, List.set_cons_succ]
            refine wpAnyH_take (i := 9) (oi := { dst := some 24, op := Op.binOp BinOp.sub 3 (Operand.tmp 23) (Operand.const (Value.int IntKind.i64 1)) 3, type := 3, pos := "history.go:43", after := #[{ on := 8, ground := Ground.data }, { on := 3, ground := Ground.guard }], guard := some (3, true) }) (v := undef) rfl (by kernel_rfl) (by kernel_rfl) (by kernel_rfl) (fun _ _ _ h => h) (Or.inr ⟨by rfl, rfl⟩) hHeld ?_
            try simp only [Act.put, List.setIfInBounds_toArray, List.set_cons_zero, List.set_cons_succ]
            refine wpAnyH_take (i := 10) (oi := { dst := some 25, op := Op.indexAddr 22 (Operand.tmp 21) (Operand.tmp 24), type := 0, pos := "history.go:43", after := #[{ on := 6, ground := Ground.data }, { on := 9, ground := Ground.data }, { on := 3, ground := Ground.guard }], guard := some (3, true) }) (v := undef) rfl (by kernel_rfl) (by kernel_rfl) (by kernel_rfl) (fun _ _ _ h => h) (Or.inr ⟨by rfl, rfl⟩) hHeld ?_
            try simp only [Act.put, List.setIfInBounds_toArray, List.set_cons_zero, List.set_cons_succ]
            refine wpAnyH_take (i := 11) (oi := { dst := some 26, op := Op.fieldAddr 40 (Operand.tmp 25) 0, type := 0, pos := "history.go:43", after := #[{ on := 10, ground := Ground.data }, { on := 3, ground := Ground.guard }], guard := some (3, true) }) (v := undef) rfl (by kernel_rfl) (by kernel_rfl) (by kernel_rfl) (fun _ _ _ h => h) (Or.inr ⟨by rfl, rfl⟩) hHeld ?_
            try simp only [Act.put, List.setIfInBounds_toArray, List.set_cons_zero, List.set_cons_succ]
            refine wpAnyH_take (i := 12) (oi := { dst := some 27, op := Op.load 3 (Operand.tmp 26), type := 3, pos := "history.go:43", after := #[{ on := 11, ground := Ground.data }, { on := 3, ground := Ground.guard }], guard := some (3, true) }) (v := undef) rfl (by kernel_rfl) (by kernel_rfl) (by kernel_rfl) (fun _ _ _ h => h) (Or.inr ⟨by rfl, rfl⟩) hHeld ?_
            try simp only [Act.put, List.setIfInBounds_toArray, List.set_cons_zero, List.set_cons_succ]
            refine wpAnyH_take (i := 13) (oi := { dst := some 28, op := Op.binOp BinOp.lss 3 (Operand.tmp 20) (Operand.tmp 27) 3, type := 4, pos := "history.go:43", after := #[{ on := 5, ground := Ground.data }, { on := 12, ground := Ground.data }, { on := 3, ground := Ground.guard }], guard := some (3, true) }) (v := undef) rfl (by kernel_rfl) (by kernel_rfl) (by kernel_rfl) (fun _ _ _ h => h) (Or.inr ⟨by rfl, rfl⟩) hHeld ?_
            try simp only [Act.put, List.setIfInBounds_toArray, List.set_cons_zero, List.set_cons_succ]
            refine wpAnyH_take (i := 14) (oi := { dst := some 29, op := Op.pick (Operand.tmp 18) (Operand.tmp 28) (Operand.const (Value.bool false)), type := 4, pos := "history.go:43", after := #[{ on := 3, ground := Ground.data }, { on := 13, ground := Ground.data }], guard := none }) (v := .bool false) rfl (by kernel_rfl) (by kernel_rfl) (by kernel_rfl) (fun _ _ _ h => h) (Or.inl ⟨by rfl, by intro w hSw; go_simp⟩) hHeld ?_
            try simp only [Act.put, List.setIfInBounds_toArray, List.set_cons_zero, List.set_cons_succ]
            refine wpAnyH_take (i := 15) (oi := { dst := some 14, op := Op.assign (Operand.tmp 29), type := 4, pos := "history.go:43", after := #[{ on := 14, ground := Ground.data }, { on := 3, ground := Ground.chain }], guard := none }) (v := .bool false) rfl (by kernel_rfl) (by kernel_rfl) (by kernel_rfl) (fun _ _ _ h => h) (Or.inl ⟨by rfl, by intro w hSw; go_simp⟩) hHeld ?_
            try simp only [Act.put, List.setIfInBounds_toArray, List.set_cons_zero, List.set_cons_succ]
            refine wpAnyH_done (by kernel_rfl) ?_ _
            have HBD := hidk HB2.out.drew
            have HRD : Hid (w2.drew.rangeAt w.heap.size 1 V.toList) := HRV.out w2 HG2.out
            go_wp2_with (first
              | (show wpList _ _ _ ({ dst := some 42, op := _, type := _, pos := _, after := _, guard := _ } :: _) _ _; refine wpList_mid_w (by rfl) 38 (.tmp 41) rfl w.heap.size 1 rfl V _ HRD.out Try.underlying38 rfl HSV.out ?_; try simp only [Act.put, List.setIfInBounds_toArray, List.set_cons_zero, List.set_cons_succ])
              | fail)
            refine (HOL.out _ HBD.out).mono ?_
            rintro e w3 ⟨rfl, hb3⟩
            have HB3 := hidk (HBD.out.trans (hb3.mono HBD.out.size))
            clear hb3
            go_wp2
            go_ret
            exact ⟨by rw [HE2.out]; rfl, HB3.out⟩
          · have HE2 : Hid (mayE l x = 101) := by show _ = _; rw [HE.out]; simp [hk]
            go_enter Try.func86, Try.ntmps86
            go_wp2_with fail
            refine (HRL.out _ HB.out).mono ?_
            rintro e w1 ⟨rfl, hb1⟩
            have HB1 := hidk (HB.out.trans (hb1.mono HB.out.size))
            have HG1 := hidk ((hb1.block _ (heap_lt HG.out)).trans HG.out)
            clear hb1
            go_wp2_with (first
              | (show wpList _ _ _ ({ dst := some 10, op := _, type := _, pos := _, after := _, guard := _ } :: _) _ _; refine wpList_load_row_w (by rfl) 40 (.tmp 3) rfl w.heap.size rfl 40 X (0, 0) _ HG1.out Try.underlying40 rfl HSX.out ?_; try simp only [Act.put, List.setIfInBounds_toArray, List.set_cons_zero, List.set_cons_succ])
              | fail)
            refine (HRI.out _).mono ?_
            rintro e w2 ⟨rfl, hb2⟩
            have HB2 := hidk (HB1.out.trans (hb2.mono HB1.out.size))
            have HG2 := hidk ((hb2.block _ (heap_lt HG1.out)).trans HG1.out)
            clear hb2
            obtain ⟨c0, c1, c2, c3⟩ := HCL.out _ _ HG2.out
            go_wp2
            refine wp_region_held_drew (S := (fun _ => True)) (by kernel_rfl) trivial (fun hHeld => ?_)
            refine wpAnyH_take (i := 0) (oi := { dst := some 15, op := Op.move (Operand.tmp 0), type := 22, pos := "history.go:43", after := #[], guard := none }) (v := .slice a 0 cap) rfl (by kernel_rfl) (by kernel_rfl) (by kernel_rfl) (fun _ _ _ h => h) (Or.inl ⟨by rfl, by intro w hSw; go_simp⟩) hHeld ?_
            try simp only [Act.put, List.setIfInBounds_toArray, List.set_cons_zero, List.set_cons_succ]
            refine wpAnyH_take (i := 1) (oi := { dst := some 16, op := Op.call { callee := Callee.builtin Builtin.len, args := #[Operand.tmp 15], argTypes := #[22] }, type := 3, pos := "history.go:43", after := #[{ on := 0, ground := Ground.data }], guard := none }) (v := .int .i64 0) rfl (by kernel_rfl) (by kernel_rfl) (by kernel_rfl) (fun _ _ _ h => h) (Or.inl ⟨by rfl, by intro w hSw; go_simp⟩) hHeld ?_
            try simp only [Act.put, List.setIfInBounds_toArray, List.set_cons_zero, List.set_cons_succ]
            refine wpAnyH_take (i := 2) (oi := { dst := some 17, op := Op.binOp BinOp.gtr 3 (Operand.tmp 16) (Operand.const (Value.int IntKind.i64 0)) 3, type := 4, pos := "history.go:43", after := #[{ on := 1, ground := Ground.data }], guard := none }) (v := .bool false) rfl (by kernel_rfl) (by kernel_rfl) (by kernel_rfl) (fun _ _ _ h => h) (Or.inl ⟨by rfl, by intro w hSw; go_simp⟩) hHeld ?_
            try simp only [Act.put, List.setIfInBounds_toArray, List.set_cons_zero, List.set_cons_succ]
            refine wpAnyH_take (i := 3) (oi := { dst := some 18, op := Op.move (Operand.tmp 17), type := 4, pos := "history.go:43", after := #[{ on := 2, ground := Ground.data }], guard := none }) (v := .bool false) rfl (by kernel_rfl) (by kernel_rfl) (by kernel_rfl) (fun _ _ _ h => h) (Or.inl ⟨by rfl, by intro w hSw; go_simp⟩) hHeld ?_
            try simp only [Act.put, List.setIfInBounds_toArray, List.set_cons_zero, List.set_cons_succ]
            refine wpAnyH_take (i := 4) (oi := { dst := some 19, op := Op.fieldAddr 40 (Operand.tmp 3) 0, type := 0, pos := "history.go:43", after := #[{ on := 3, ground := Ground.guard }], guard := some (3, true) }) (v := undef) rfl (by kernel_rfl) (by kernel_rfl) (by kernel_rfl) (fun _ _ _ h => h) (Or.inr ⟨by rfl, rfl⟩) hHeld ?_
            try simp only [Act.put, List.setIfInBounds_toArray, List.set_cons_zero, List.set_cons_succ]
            refine wpAnyH_take (i := 5) (oi := { dst := some 20, op := Op.load 3 (Operand.tmp 19), type := 3, pos := "history.go:43", after := #[{ on := 4, ground := Ground.data }, { on := 3, ground := Ground.guard }], guard := some (3, true) }) (v := undef) rfl (by kernel_rfl) (by kernel_rfl) (by kernel_rfl) (fun _ _ _ h => h) (Or.inr ⟨by rfl, rfl⟩) hHeld ?_
            try simp only [Act.put, List.setIfInBounds_toArray, List.set_cons_zero, List.set_cons_succ]
            refine wpAnyH_take (i := 6) (oi := { dst := some 21, op := Op.move (Operand.tmp 0), type := 22, pos := "history.go:43", after := #[{ on := 3, ground := Ground.guard }], guard := some (3, true) }) (v := undef) rfl (by kernel_rfl) (by kernel_rfl) (by kernel_rfl) (fun _ _ _ h => h) (Or.inr ⟨by rfl, rfl⟩) hHeld ?_
            try simp only [Act.put, List.setIfInBounds_toArray, List.set_cons_zero, List.set_cons_succ]
            refine wpAnyH_take (i := 7) (oi := { dst := some 22, op := Op.move (Operand.tmp 0), type := 22, pos := "history.go:43", after := #[{ on := 3, ground := Ground.guard }], guard := some (3, true) }) (v := undef) rfl (by kernel_rfl) (by kernel_rfl) (by kernel_rfl) (fun _ _ _ h => h) (Or.inr ⟨by rfl, rfl⟩) hHeld ?_
            try simp only [Act.put, List.setIfInBounds_toArray, List.set_cons_zero, List.set_cons_succ]
            refine wpAnyH_take (i := 8) (oi := { dst := some 23, op := Op.call { callee := Callee.builtin Builtin.len, args := #[Operand.tmp 22], argTypes := #[22] }, type := 3, pos := "history.go:43", after := #[{ on := 7, ground := Ground.data }, { on := 3, ground := Ground.guard }], guard := some (3, true) }) (v := undef) rfl (by kernel_rfl) (by kernel_rfl) (by kernel_rfl) (fun _ _ _ h => h) (Or.inr ⟨by rfl, rfl⟩) hHeld ?_
            try simp only [Act.put, List.setIfInBounds_toArray, List.set_cons_zero, List.set_cons_succ]
            refine wpAnyH_take (i := 9) (oi := { dst := some 24, op := Op.binOp BinOp.sub 3 (Operand.tmp 23) (Operand.const (Value.int IntKind.i64 1)) 3, type := 3, pos := "history.go:43", after := #[{ on := 8, ground := Ground.data }, { on := 3, ground := Ground.guard }], guard := some (3, true) }) (v := undef) rfl (by kernel_rfl) (by kernel_rfl) (by kernel_rfl) (fun _ _ _ h => h) (Or.inr ⟨by rfl, rfl⟩) hHeld ?_
            try simp only [Act.put, List.setIfInBounds_toArray, List.set_cons_zero, List.set_cons_succ]
            refine wpAnyH_take (i := 10) (oi := { dst := some 25, op := Op.indexAddr 22 (Operand.tmp 21) (Operand.tmp 24), type := 0, pos := "history.go:43", after := #[{ on := 6, ground := Ground.data }, { on := 9, ground := Ground.data }, { on := 3, ground := Ground.guard }], guard := some (3, true) }) (v := undef) rfl (by kernel_rfl) (by kernel_rfl) (by kernel_rfl) (fun _ _ _ h => h) (Or.inr ⟨by rfl, rfl⟩) hHeld ?_
            try simp only [Act.put, List.setIfInBounds_toArray, List.set_cons_zero, List.set_cons_succ]
            refine wpAnyH_take (i := 11) (oi := { dst := some 26, op := Op.fieldAddr 40 (Operand.tmp 25) 0, type := 0, pos := "history.go:43", after := #[{ on := 10, ground := Ground.data }, { on := 3, ground := Ground.guard }], guard := some (3, true) }) (v := undef) rfl (by kernel_rfl) (by kernel_rfl) (by kernel_rfl) (fun _ _ _ h => h) (Or.inr ⟨by rfl, rfl⟩) hHeld ?_
            try simp only [Act.put, List.setIfInBounds_toArray, List.set_cons_zero, List.set_cons_succ]
            refine wpAnyH_take (i := 12) (oi := { dst := some 27, op := Op.load 3 (Operand.tmp 26), type := 3, pos := "history.go:43", after := #[{ on := 11, ground := Ground.data }, { on := 3, ground := Ground.guard }], guard := some (3, true) }) (v := undef) rfl (by kernel_rfl) (by kernel_rfl) (by kernel_rfl) (fun _ _ _ h => h) (Or.inr ⟨by rfl, rfl⟩) hHeld ?_
            try simp only [Act.put, List.setIfInBounds_toArray, List.set_cons_zero, List.set_cons_succ]
            refine wpAnyH_take (i := 13) (oi := { dst := some 28, op := Op.binOp BinOp.lss 3 (Operand.tmp 20) (Operand.tmp 27) 3, type := 4, pos := "history.go:43", after := #[{ on := 5, ground := Ground.data }, { on := 12, ground := Ground.data }, { on := 3, ground := Ground.guard }], guard := some (3, true) }) (v := undef) rfl (by kernel_rfl) (by kernel_rfl) (by kernel_rfl) (fun _ _ _ h => h) (Or.inr ⟨by rfl, rfl⟩) hHeld ?_
            try simp only [Act.put, List.setIfInBounds_toArray, List.set_cons_zero, List.set_cons_succ]
            refine wpAnyH_take (i := 14) (oi := { dst := some 29, op := Op.pick (Operand.tmp 18) (Operand.tmp 28) (Operand.const (Value.bool false)), type := 4, pos := "history.go:43", after := #[{ on := 3, ground := Ground.data }, { on := 13, ground := Ground.data }], guard := none }) (v := .bool false) rfl (by kernel_rfl) (by kernel_rfl) (by kernel_rfl) (fun _ _ _ h => h) (Or.inl ⟨by rfl, by intro w hSw; go_simp⟩) hHeld ?_
            try simp only [Act.put, List.setIfInBounds_toArray, List.set_cons_zero, List.set_cons_succ]
            refine wpAnyH_take (i := 15) (oi := { dst := some 14, op := Op.assign (Operand.tmp 29), type := 4, pos := "history.go:43", after := #[{ on := 14, ground := Ground.data }, { on := 3, ground := Ground.chain }], guard := none }) (v := .bool false) rfl (by kernel_rfl) (by kernel_rfl) (by kernel_rfl) (fun _ _ _ h => h) (Or.inl ⟨by rfl, by intro w hSw; go_simp⟩) hHeld ?_
            try simp only [Act.put, List.setIfInBounds_toArray, List.set_cons_zero, List.set_cons_succ]
            refine wpAnyH_done (by kernel_rfl) ?_ _
            have HBD := hidk HB2.out.drew
            have HRD : Hid (w2.drew.rangeAt w.heap.size 1 V.toList) := HRV.out w2 HG2.out
            go_wp2_with (first
              | (show wpList _ _ _ ({ dst := some 42, op := _, type := _, pos := _, after := _, guard := _ } :: _) _ _; refine wpList_mid_w (by rfl) 38 (.tmp 41) rfl w.heap.size 1 rfl V _ HRD.out Try.underlying38 rfl HSV.out ?_; try simp only [Act.put, List.setIfInBounds_toArray, List.set_cons_zero, List.set_cons_succ])
              | fail)
            refine (HOL.out _ HBD.out).mono ?_
            rintro e w3 ⟨rfl, hb3⟩
            have HB3 := hidk (HBD.out.trans (hb3.mono HBD.out.size))
            clear hb3
            go_wp2
            go_ret
            exact ⟨by rw [HE2.out]; rfl, HB3.out⟩
        · have bk : (kx == 1) = false := by simp [hk]
          have HE2 : Hid (mayE l x = 0) := by show _ = _; rw [HLA.out hlow hfull]; simp [hk]
          go_enter Try.func86, Try.ntmps86
          go_wp2_with fail
          refine (HRL.out _ HB.out).mono ?_
          rintro e w1 ⟨rfl, hb1⟩
          have HB1 := hidk (HB.out.trans (hb1.mono HB.out.size))
          have HG1 := hidk ((hb1.block _ (heap_lt HG.out)).trans HG.out)
          clear hb1
          go_wp2_with (first
            | (show wpList _ _ _ ({ dst := some 10, op := _, type := _, pos := _, after := _, guard := _ } :: _) _ _; refine wpList_load_row_w (by rfl) 40 (.tmp 3) rfl w.heap.size rfl 40 X (0, 0) _ HG1.out Try.underlying40 rfl HSX.out ?_; try simp only [Act.put, List.setIfInBounds_toArray, List.set_cons_zero, List.set_cons_succ])
            | fail)
          refine (HRI.out _).mono ?_
          rintro e w2 ⟨rfl, hb2⟩
          have HB2 := hidk (HB1.out.trans (hb2.mono HB1.out.size))
          have HG2 := hidk ((hb2.block _ (heap_lt HG1.out)).trans HG1.out)
          clear hb2
          obtain ⟨c0, c1, c2, c3⟩ := HCL.out _ _ HG2.out
          go_wp2
          refine wp_region_held_drew (S := (fun _ => True)) (by kernel_rfl) trivial (fun hHeld => ?_)
          refine wpAnyH_take (i := 0) (oi := { dst := some 15, op := Op.move (Operand.tmp 0), type := 22, pos := "history.go:43", after := #[], guard := none }) (v := .slice a 0 cap) rfl (by kernel_rfl) (by kernel_rfl) (by kernel_rfl) (fun _ _ _ h => h) (Or.inl ⟨by rfl, by intro w hSw; go_simp⟩) hHeld ?_
          try simp only [Act.put, List.setIfInBounds_toArray, List.set_cons_zero, List.set_cons_succ]
          refine wpAnyH_take (i := 1) (oi := { dst := some 16, op := Op.call { callee := Callee.builtin Builtin.len, args := #[Operand.tmp 15], argTypes := #[22] }, type := 3, pos := "history.go:43", after := #[{ on := 0, ground := Ground.data }], guard := none }) (v := .int .i64 0) rfl (by kernel_rfl) (by kernel_rfl) (by kernel_rfl) (fun _ _ _ h => h) (Or.inl ⟨by rfl, by intro w hSw; go_simp⟩) hHeld ?_
          try simp only [Act.put, List.setIfInBounds_toArray, List.set_cons_zero, List.set_cons_succ]
          refine wpAnyH_take (i := 2) (oi := { dst := some 17, op := Op.binOp BinOp.gtr 3 (Operand.tmp 16) (Operand.const (Value.int IntKind.i64 0)) 3, type := 4, pos := "history.go:43", after := #[{ on := 1, ground := Ground.data }], guard := none }) (v := .bool false) rfl (by kernel_rfl) (by kernel_rfl) (by kernel_rfl) (fun _ _ _ h => h) (Or.inl ⟨by rfl, by intro w hSw; go_simp⟩) hHeld ?_
          try simp only [Act.put, List.setIfInBounds_toArray, List.set_cons_zero, List.set_cons_succ]
          refine wpAnyH_take (i := 3) (oi := { dst := some 18, op := Op.move (Operand.tmp 17), type := 4, pos := "history.go:43", after := #[{ on := 2, ground := Ground.data }], guard := none }) (v := .bool false) rfl (by kernel_rfl) (by kernel_rfl) (by kernel_rfl) (fun _ _ _ h => h) (Or.inl ⟨by rfl, by intro w hSw; go_simp⟩) hHeld ?_
          try simp only [Act.put, List.setIfInBounds_toArray, List.set_cons_zero, List.set_cons_succ]
          refine wpAnyH_take (i := 4) (oi := { dst := some 19, op := Op.fieldAddr 40 (Operand.tmp 3) 0, type := 0, pos := "history.go:43", after := #[{ on := 3, ground := Ground.guard }], guard := some (3, true) }) (v := undef) rfl (by kernel_rfl) (by kernel_rfl) (by kernel_rfl) (fun _ _ _ h => h) (Or.inr ⟨by rfl, rfl⟩) hHeld ?_
          try simp only [Act.put, List.setIfInBounds_toArray, List.set_cons_zero, List.set_cons_succ]
          refine wpAnyH_take (i := 5) (oi := { dst := some 20, op := Op.load 3 (Operand.tmp 19), type := 3, pos := "history.go:43", after := #[{ on := 4, ground := Ground.data }, { on := 3, ground := Ground.guard }], guard := some (3, true) }) (v := undef) rfl (by kernel_rfl) (by kernel_rfl) (by kernel_rfl) (fun _ _ _ h => h) (Or.inr ⟨by rfl, rfl⟩) hHeld ?_
          try simp only [Act.put, List.setIfInBounds_toArray, List.set_cons_zero, List.set_cons_succ]
          refine wpAnyH_take (i := 6) (oi := { dst := some 21, op := Op.move (Operand.tmp 0), type := 22, pos := "history.go:43", after := #[{ on := 3, ground := Ground.guard }], guard := some (3, true) }) (v := undef) rfl (by kernel_rfl) (by kernel_rfl) (by kernel_rfl) (fun _ _ _ h => h) (Or.inr ⟨by rfl, rfl⟩) hHeld ?_
          try simp only [Act.put, List.setIfInBounds_toArray, List.set_cons_zero, List.set_cons_succ]
          refine wpAnyH_take (i := 7) (oi := { dst := some 22, op := Op.move (Operand.tmp 0), type := 22, pos := "history.go:43", after := #[{ on := 3, ground := Ground.guard }], guard := some (3, true) }) (v := undef) rfl (by kernel_rfl) (by kernel_rfl) (by kernel_rfl) (fun _ _ _ h => h) (Or.inr ⟨by rfl, rfl⟩) hHeld ?_
          try simp only [Act.put, List.setIfInBounds_toArray, List.set_cons_zero, List.set_cons_succ]
          refine wpAnyH_take (i := 8) (oi := { dst := some 23, op := Op.call { callee := Callee.builtin Builtin.len, args := #[Operand.tmp 22], argTypes := #[22] }, type := 3, pos := "history.go:43", after := #[{ on := 7, ground := Ground.data }, { on := 3, ground := Ground.guard }], guard := some (3, true) }) (v := undef) rfl (by kernel_rfl) (by kernel_rfl) (by kernel_rfl) (fun _ _ _ h => h) (Or.inr ⟨by rfl, rfl⟩) hHeld ?_
          try simp only [Act.put, List.setIfInBounds_toArray, List.set_cons_zero, List.set_cons_succ]
          refine wpAnyH_take (i := 9) (oi := { dst := some 24, op := Op.binOp BinOp.sub 3 (Operand.tmp 23) (Operand.const (Value.int IntKind.i64 1)) 3, type := 3, pos := "history.go:43", after := #[{ on := 8, ground := Ground.data }, { on := 3, ground := Ground.guard }], guard := some (3, true) }) (v := undef) rfl (by kernel_rfl) (by kernel_rfl) (by kernel_rfl) (fun _ _ _ h => h) (Or.inr ⟨by rfl, rfl⟩) hHeld ?_
          try simp only [Act.put, List.setIfInBounds_toArray, List.set_cons_zero, List.set_cons_succ]
          refine wpAnyH_take (i := 10) (oi := { dst := some 25, op := Op.indexAddr 22 (Operand.tmp 21) (Operand.tmp 24), type := 0, pos := "history.go:43", after := #[{ on := 6, ground := Ground.data }, { on := 9, ground := Ground.data }, { on := 3, ground := Ground.guard }], guard := some (3, true) }) (v := undef) rfl (by kernel_rfl) (by kernel_rfl) (by kernel_rfl) (fun _ _ _ h => h) (Or.inr ⟨by rfl, rfl⟩) hHeld ?_
          try simp only [Act.put, List.setIfInBounds_toArray, List.set_cons_zero, List.set_cons_succ]
          refine wpAnyH_take (i := 11) (oi := { dst := some 26, op := Op.fieldAddr 40 (Operand.tmp 25) 0, type := 0, pos := "history.go:43", after := #[{ on := 10, ground := Ground.data }, { on := 3, ground := Ground.guard }], guard := some (3, true) }) (v := undef) rfl (by kernel_rfl) (by kernel_rfl) (by kernel_rfl) (fun _ _ _ h => h) (Or.inr ⟨by rfl, rfl⟩) hHeld ?_
          try simp only [Act.put, List.setIfInBounds_toArray, List.set_cons_zero, List.set_cons_succ]
          refine wpAnyH_take (i := 12) (oi := { dst := some 27, op := Op.load 3 (Operand.tmp 26), type := 3, pos := "history.go:43", after := #[{ on := 11, ground := Ground.data }, { on := 3, ground := Ground.guard }], guard := some (3, true) }) (v := undef) rfl (by kernel_rfl) (by kernel_rfl) (by kernel_rfl) (fun _ _ _ h => h) (Or.inr ⟨by rfl, rfl⟩) hHeld ?_
          try simp only [Act.put, List.setIfInBounds_toArray, List.set_cons_zero, List.set_cons_succ]
          refine wpAnyH_take (i := 13) (oi := { dst := some 28, op := Op.binOp BinOp.lss 3 (Operand.tmp 20) (Operand.tmp 27) 3, type := 4, pos := "history.go:43", after := #[{ on := 5, ground := Ground.data }, { on := 12, ground := Ground.data }, { on := 3, ground := Ground.guard }], guard := some (3, true) }) (v := undef) rfl (by kernel_rfl) (by kernel_rfl) (by kernel_rfl) (fun _ _ _ h => h) (Or.inr ⟨by rfl, rfl⟩) hHeld ?_
          try simp only [Act.put, List.setIfInBounds_toArray, List.set_cons_zero, List.set_cons_succ]
          refine wpAnyH_take (i := 14) (oi := { dst := some 29, op := Op.pick (Operand.tmp 18) (Operand.tmp 28) (Operand.const (Value.bool false)), type := 4, pos := "history.go:43", after := #[{ on := 3, ground := Ground.data }, { on := 13, ground := Ground.data }], guard := none }) (v := .bool false) rfl (by kernel_rfl) (by kernel_rfl) (by kernel_rfl) (fun _ _ _ h => h) (Or.inl ⟨by rfl, by intro w hSw; go_simp⟩) hHeld ?_
          try simp only [Act.put, List.setIfInBounds_toArray, List.set_cons_zero, List.set_cons_succ]
          refine wpAnyH_take (i := 15) (oi := { dst := some 14, op := Op.assign (Operand.tmp 29), type := 4, pos := "history.go:43", after := #[{ on := 14, ground := Ground.data }, { on := 3, ground := Ground.chain }], guard := none }) (v := .bool false) rfl (by kernel_rfl) (by kernel_rfl) (by kernel_rfl) (fun _ _ _ h => h) (Or.inl ⟨by rfl, by intro w hSw; go_simp⟩) hHeld ?_
          try simp only [Act.put, List.setIfInBounds_toArray, List.set_cons_zero, List.set_cons_succ]
          refine wpAnyH_done (by kernel_rfl) ?_ _
          have HBD := hidk HB2.out.drew
          have HRD : Hid (w2.drew.rangeAt w.heap.size 1 V.toList) := HRV.out w2 HG2.out
          go_wp2
          go_ret
          exact ⟨by rw [HE2.out]; rfl, HBD.out⟩
      · obtain ⟨j, HJ, hj⟩ : ∃ j, Hid (j + 1 = len) ∧ j < len := ⟨len - 1, by show _ = _; omega, by omega⟩
        have hsub : IntKind.i64.wrap ((len : Int) - 1) = (j : Int) := by rw [wrap_int _ (by omega) (by omega)]; have := HJ.out; omega
        have h0n : 0 < len := by omega
        have h0' : decide ((0 : Int) < (len : Int)) = true := by rw [decide_eq_true_eq]; omega
        obtain ⟨g, o, rfl, hg⟩ := HIR.out.at h0n
        have hjl : j < l.length := by rw [HLN.out]; exact hj
        obtain ⟨py, Hpy⟩ : ∃ p, Hid (l[j].p = p) := ⟨_, hidk rfl⟩
        have ix := fun W => index_item W g o len cap j .i64 hj
        have HLO : Hid (lowB l px = decide (px < py)) := by show _ = _; rw [lowB_some (j := j) (by rw [HLN.out]; exact HJ.out), Hpy.out]
        have HCJ : Hid (∀ W, Below w.heap.size w W → W.cell? ⟨g, o + 110 * j, none⟩ = some (.int .i64 py)) := fun W hb => by rw [← Hpy.out]; exact (HIR.out.keep hb).cell j hjl 0 _ rfl
        clear Hpy hjl
        by_cases hp : px < py
        · have d1 : decide (px < py) = true := decide_eq_true hp
          have HE := hidk (HLF.out (HLO.out.trans d1))
          go_enter Try.func86, Try.ntmps86
          go_wp2_with fail
          refine (HRL.out _ HB.out).mono ?_
          rintro e w1 ⟨rfl, hb1⟩
          have HB1 := hidk (HB.out.trans (hb1.mono HB.out.size))
          have HG1 := hidk ((hb1.block _ (heap_lt HG.out)).trans HG.out)
          clear hb1
          go_wp2_with (first
            | (show wpList _ _ _ ({ dst := some 10, op := _, type := _, pos := _, after := _, guard := _ } :: _) _ _; refine wpList_load_row_w (by rfl) 40 (.tmp 3) rfl w.heap.size rfl 40 X (0, 0) _ HG1.out Try.underlying40 rfl HSX.out ?_; try simp only [Act.put, List.setIfInBounds_toArray, List.set_cons_zero, List.set_cons_succ])
            | fail)
          refine (HRI.out _).mono ?_
          rintro e w2 ⟨rfl, hb2⟩
          have HB2 := hidk (HB1.out.trans (hb2.mono HB1.out.size))
          have HG2 := hidk ((hb2.block _ (heap_lt HG1.out)).trans HG1.out)
          clear hb2
          obtain ⟨c0, c1, c2, c3⟩ := HCL.out _ _ HG2.out
          have hS : w2.cell? ⟨w.heap.size, 0, none⟩ = some (.int .i64 px) ∧ w2.cell? ⟨g, o + 110 * j, none⟩ = some (.int .i64 py) := ⟨c0, HCJ.out _ HB2.out⟩
          go_wp2
          refine wp_region_held_drew (S := (fun V => V.cell? ⟨w.heap.size, 0, none⟩ = some (.int .i64 px) ∧ V.cell? ⟨g, o + 110 * j, none⟩ = some (.int .i64 py))) (by kernel_rfl) hS (fun hHeld => ?_)
          refine wpAnyH_take (i := 0) (oi := { dst := some 15, op := Op.move (Operand.tmp 0), type := 22, pos := "history.go:43", after := #[], guard := none }) (v := .slice (some ⟨g, o, none⟩) len cap) rfl (by kernel_rfl) (by kernel_rfl) (by kernel_rfl) (fun _ _ _ h => h) (Or.inl ⟨by rfl, by intro w hSw; go_simp⟩) hHeld ?_
          try simp only [Act.put, List.setIfInBounds_toArray, List.set_cons_zero, List.set_cons_succ]
          refine wpAnyH_take (i := 1) (oi := { dst := some 16, op := Op.call { callee := Callee.builtin Builtin.len, args := #[Operand.tmp 15], argTypes := #[22] }, type := 3, pos := "history.go:43", after := #[{ on := 0, ground := Ground.data }], guard := none }) (v := .int .i64 len) rfl (by kernel_rfl) (by kernel_rfl) (by kernel_rfl) (fun _ _ _ h => h) (Or.inl ⟨by rfl, by intro w hSw; go_simp⟩) hHeld ?_
          try simp only [Act.put, List.setIfInBounds_toArray, List.set_cons_zero, List.set_cons_succ]
          refine wpAnyH_take (i := 2) (oi := { dst := some 17, op := Op.binOp BinOp.gtr 3 (Operand.tmp 16) (Operand.const (Value.int IntKind.i64 0)) 3, type := 4, pos := "history.go:43", after := #[{ on := 1, ground := Ground.data }], guard := none }) (v := .bool true) rfl (by kernel_rfl) (by kernel_rfl) (by kernel_rfl) (fun _ _ _ h => h) (Or.inl ⟨by rfl, by intro w hSw; go_simp⟩) hHeld ?_
          try simp only [Act.put, List.setIfInBounds_toArray, List.set_cons_zero, List.set_cons_succ]
          refine wpAnyH_take (i := 3) (oi := { dst := some 18, op := Op.move (Operand.tmp 17), type := 4, pos := "history.go:43", after := #[{ on := 2, ground := Ground.data }], guard := none }) (v := .bool true) rfl (by kernel_rfl) (by kernel_rfl) (by kernel_rfl) (fun _ _ _ h => h) (Or.inl ⟨by rfl, by intro w hSw; go_simp⟩) hHeld ?_
          try simp only [Act.put, List.setIfInBounds_toArray, List.set_cons_zero, List.set_cons_succ]
          refine wpAnyH_take (i := 4) (oi := { dst := some 19, op := Op.fieldAddr 40 (Operand.tmp 3) 0, type := 0, pos := "history.go:43", after := #[{ on := 3, ground := Ground.guard }], guard := some (3, true) }) (v := .pointer (some ⟨w.heap.size, 0, none⟩)) rfl (by kernel_rfl) (by kernel_rfl) (by kernel_rfl) (fun _ _ _ h => h) (Or.inl ⟨by rfl, by intro w hSw; go_simp⟩) hHeld ?_
          try simp only [Act.put, List.setIfInBounds_toArray, List.set_cons_zero, List.set_cons_succ]
          refine wpAnyH_take (i := 5) (oi := { dst := some 20, op := Op.load 3 (Operand.tmp 19), type := 3, pos := "history.go:43", after := #[{ on := 4, ground := Ground.data }, { on := 3, ground := Ground.guard }], guard := some (3, true) }) (v := .int .i64 px) rfl (by kernel_rfl) (by kernel_rfl) (by kernel_rfl) (fun _ _ _ h => h) (Or.inl ⟨by rfl, by intro W hSw; have h1 := hSw.1; go_simp⟩) hHeld ?_
          try simp only [Act.put, List.setIfInBounds_toArray, List.set_cons_zero, List.set_cons_succ]
          refine wpAnyH_take (i := 6) (oi := { dst := some 21, op := Op.move (Operand.tmp 0), type := 22, pos := "history.go:43", after := #[{ on := 3, ground := Ground.guard }], guard := some (3, true) }) (v := .slice (some ⟨g, o, none⟩) len cap) rfl (by kernel_rfl) (by kernel_rfl) (by kernel_rfl) (fun _ _ _ h => h) (Or.inl ⟨by rfl, by intro w hSw; go_simp⟩) hHeld ?_
          try simp only [Act.put, List.setIfInBounds_toArray, List.set_cons_zero, List.set_cons_succ]
          refine wpAnyH_take (i := 7) (oi := { dst := some 22, op := Op.move (Operand.tmp 0), type := 22, pos := "history.go:43", after := #[{ on := 3, ground := Ground.guard }], guard := some (3, true) }) (v := .slice (some ⟨g, o, none⟩) len cap) rfl (by kernel_rfl) (by kernel_rfl) (by kernel_rfl) (fun _ _ _ h => h) (Or.inl ⟨by rfl, by intro w hSw; go_simp⟩) hHeld ?_
          try simp only [Act.put, List.setIfInBounds_toArray, List.set_cons_zero, List.set_cons_succ]
          refine wpAnyH_take (i := 8) (oi := { dst := some 23, op := Op.call { callee := Callee.builtin Builtin.len, args := #[Operand.tmp 22], argTypes := #[22] }, type := 3, pos := "history.go:43", after := #[{ on := 7, ground := Ground.data }, { on := 3, ground := Ground.guard }], guard := some (3, true) }) (v := .int .i64 len) rfl (by kernel_rfl) (by kernel_rfl) (by kernel_rfl) (fun _ _ _ h => h) (Or.inl ⟨by rfl, by intro w hSw; go_simp⟩) hHeld ?_
          try simp only [Act.put, List.setIfInBounds_toArray, List.set_cons_zero, List.set_cons_succ]
          refine wpAnyH_take (i := 9) (oi := { dst := some 24, op := Op.binOp BinOp.sub 3 (Operand.tmp 23) (Operand.const (Value.int IntKind.i64 1)) 3, type := 3, pos := "history.go:43", after := #[{ on := 8, ground := Ground.data }, { on := 3, ground := Ground.guard }], guard := some (3, true) }) (v := .int .i64 j) rfl (by kernel_rfl) (by kernel_rfl) (by kernel_rfl) (fun _ _ _ h => h) (Or.inl ⟨by rfl, by intro W hSw; have := hsub; go_simp⟩) hHeld ?_
          try simp only [Act.put, List.setIfInBounds_toArray, List.set_cons_zero, List.set_cons_succ]
          refine wpAnyH_take (i := 10) (oi := { dst := some 25, op := Op.indexAddr 22 (Operand.tmp 21) (Operand.tmp 24), type := 0, pos := "history.go:43", after := #[{ on := 6, ground := Ground.data }, { on := 9, ground := Ground.data }, { on := 3, ground := Ground.guard }], guard := some (3, true) }) (v := .pointer (some ⟨g, o + 110 * j, none⟩)) rfl (by kernel_rfl) (by kernel_rfl) (by kernel_rfl) (fun _ _ _ h => h) (Or.inl ⟨by rfl, by intro W hSw; have := ix W; go_simp⟩) hHeld ?_
          try simp only [Act.put, List.setIfInBounds_toArray, List.set_cons_zero, List.set_cons_succ]
          refine wpAnyH_take (i := 11) (oi := { dst := some 26, op := Op.fieldAddr 40 (Operand.tmp 25) 0, type := 0, pos := "history.go:43", after := #[{ on := 10, ground := Ground.data }, { on := 3, ground := Ground.guard }], guard := some (3, true) }) (v := .pointer (some ⟨g, o + 110 * j, none⟩)) rfl (by kernel_rfl) (by kernel_rfl) (by kernel_rfl) (fun _ _ _ h => h) (Or.inl ⟨by rfl, by intro w hSw; go_simp⟩) hHeld ?_
          try simp only [Act.put, List.setIfInBounds_toArray, List.set_cons_zero, List.set_cons_succ]
          refine wpAnyH_take (i := 12) (oi := { dst := some 27, op := Op.load 3 (Operand.tmp 26), type := 3, pos := "history.go:43", after := #[{ on := 11, ground := Ground.data }, { on := 3, ground := Ground.guard }], guard := some (3, true) }) (v := .int .i64 py) rfl (by kernel_rfl) (by kernel_rfl) (by kernel_rfl) (fun _ _ _ h => h) (Or.inl ⟨by rfl, by intro W hSw; have h1 := hSw.2; go_simp⟩) hHeld ?_
          try simp only [Act.put, List.setIfInBounds_toArray, List.set_cons_zero, List.set_cons_succ]
          refine wpAnyH_take (i := 13) (oi := { dst := some 28, op := Op.binOp BinOp.lss 3 (Operand.tmp 20) (Operand.tmp 27) 3, type := 4, pos := "history.go:43", after := #[{ on := 5, ground := Ground.data }, { on := 12, ground := Ground.data }, { on := 3, ground := Ground.guard }], guard := some (3, true) }) (v := .bool true) rfl (by kernel_rfl) (by kernel_rfl) (by kernel_rfl) (fun _ _ _ h => h) (Or.inl ⟨by rfl, by intro w hSw; go_simp⟩) hHeld ?_
          try simp only [Act.put, List.setIfInBounds_toArray, List.set_cons_zero, List.set_cons_succ]
          refine wpAnyH_take (i := 14) (oi := { dst := some 29, op := Op.pick (Operand.tmp 18) (Operand.tmp 28) (Operand.const (Value.bool false)), type := 4, pos := "history.go:43", after := #[{ on := 3, ground := Ground.data }, { on := 13, ground := Ground.data }], guard := none }) (v := .bool true) rfl (by kernel_rfl) (by kernel_rfl) (by kernel_rfl) (fun _ _ _ h => h) (Or.inl ⟨by rfl, by intro w hSw; go_simp⟩) hHeld ?_
          try simp only [Act.put, List.setIfInBounds_toArray, List.set_cons_zero, List.set_cons_succ]
          refine wpAnyH_take (i := 15) (oi := { dst := some 14, op := Op.assign (Operand.tmp 29), type := 4, pos := "history.go:43", after := #[{ on := 14, ground := Ground.data }, { on := 3, ground := Ground.chain }], guard := none }) (v := .bool true) rfl (by kernel_rfl) (by kernel_rfl) (by kernel_rfl) (fun _ _ _ h => h) (Or.inl ⟨by rfl, by intro w hSw; go_simp⟩) hHeld ?_
          try simp only [Act.put, List.setIfInBounds_toArray, List.set_cons_zero, List.set_cons_succ]
          refine wpAnyH_done (by kernel_rfl) ?_ _
          go_wp2
          go_ret
          exact ⟨by rw [HE.out]; rfl, HB2.out.drew⟩
        · have d1 : decide (px < py) = false := decide_eq_false hp
          have hlow : lowB l px = false := HLO.out.trans d1
          by_cases hfull : len = 2000
          · omega
          · have bf : ((len : Int) == 2000) = false := by rw [beq_eq_false_iff_ne]; omega
            by_cases hk : kx = 1
            · have bk : (kx == 1) = true := by simp [hk]
              obtain ⟨b3, H3⟩ : ∃ b, Hid (oldL l cx sx = b) := ⟨_, hidk rfl⟩
              rw [H3.out] at HOL HLA
              have HE := hidk (HLA.out hlow hfull)
              cases b3
              · have HE2 : Hid (mayE l x = 0) := by show _ = _; rw [HE.out]; simp [hk]
                go_enter Try.func86, Try.ntmps86
                go_wp2_with fail
                refine (HRL.out _ HB.out).mono ?_
                rintro e w1 ⟨rfl, hb1⟩
                have HB1 := hidk (HB.out.trans (hb1.mono HB.out.size))
                have HG1 := hidk ((hb1.block _ (heap_lt HG.out)).trans HG.out)
                clear hb1
                go_wp2_with (first
                  | (show wpList _ _ _ ({ dst := some 10, op := _, type := _, pos := _, after := _, guard := _ } :: _) _ _; refine wpList_load_row_w (by rfl) 40 (.tmp 3) rfl w.heap.size rfl 40 X (0, 0) _ HG1.out Try.underlying40 rfl HSX.out ?_; try simp only [Act.put, List.setIfInBounds_toArray, List.set_cons_zero, List.set_cons_succ])
                  | fail)
                refine (HRI.out _).mono ?_
                rintro e w2 ⟨rfl, hb2⟩
                have HB2 := hidk (HB1.out.trans (hb2.mono HB1.out.size))
                have HG2 := hidk ((hb2.block _ (heap_lt HG1.out)).trans HG1.out)
                clear hb2
                obtain ⟨c0, c1, c2, c3⟩ := HCL.out _ _ HG2.out
                have hS : w2.cell? ⟨w.heap.size, 0, none⟩ = some (.int .i64 px) ∧ w2.cell? ⟨g, o + 110 * j, none⟩ = some (.int .i64 py) := ⟨c0, HCJ.out _ HB2.out⟩
                go_wp2
                refine wp_region_held_drew (S := (fun V => V.cell? ⟨w.heap.size, 0, none⟩ = some (.int .i64 px) ∧ V.cell? ⟨g, o + 110 * j, none⟩ = some (.int .i64 py))) (by kernel_rfl) hS (fun hHeld => ?_)
                refine wpAnyH_take (i := 0) (oi := { dst := some 15, op := Op.move (Operand.tmp 0), type := 22, pos := "history.go:43", after := #[], guard := none }) (v := .slice (some ⟨g, o, none⟩) len cap) rfl (by kernel_rfl) (by kernel_rfl) (by kernel_rfl) (fun _ _ _ h => h) (Or.inl ⟨by rfl, by intro w hSw; go_simp⟩) hHeld ?_
                try simp only [Act.put, List.setIfInBounds_toArray, List.set_cons_zero, List.set_cons_succ]
                refine wpAnyH_take (i := 1) (oi := { dst := some 16, op := Op.call { callee := Callee.builtin Builtin.len, args := #[Operand.tmp 15], argTypes := #[22] }, type := 3, pos := "history.go:43", after := #[{ on := 0, ground := Ground.data }], guard := none }) (v := .int .i64 len) rfl (by kernel_rfl) (by kernel_rfl) (by kernel_rfl) (fun _ _ _ h => h) (Or.inl ⟨by rfl, by intro w hSw; go_simp⟩) hHeld ?_
                try simp only [Act.put, List.setIfInBounds_toArray, List.set_cons_zero, List.set_cons_succ]
                refine wpAnyH_take (i := 2) (oi := { dst := some 17, op := Op.binOp BinOp.gtr 3 (Operand.tmp 16) (Operand.const (Value.int IntKind.i64 0)) 3, type := 4, pos := "history.go:43", after := #[{ on := 1, ground := Ground.data }], guard := none }) (v := .bool true) rfl (by kernel_rfl) (by kernel_rfl) (by kernel_rfl) (fun _ _ _ h => h) (Or.inl ⟨by rfl, by intro w hSw; go_simp⟩) hHeld ?_
                try simp only [Act.put, List.setIfInBounds_toArray, List.set_cons_zero, List.set_cons_succ]
                refine wpAnyH_take (i := 3) (oi := { dst := some 18, op := Op.move (Operand.tmp 17), type := 4, pos := "history.go:43", after := #[{ on := 2, ground := Ground.data }], guard := none }) (v := .bool true) rfl (by kernel_rfl) (by kernel_rfl) (by kernel_rfl) (fun _ _ _ h => h) (Or.inl ⟨by rfl, by intro w hSw; go_simp⟩) hHeld ?_
                try simp only [Act.put, List.setIfInBounds_toArray, List.set_cons_zero, List.set_cons_succ]
                refine wpAnyH_take (i := 4) (oi := { dst := some 19, op := Op.fieldAddr 40 (Operand.tmp 3) 0, type := 0, pos := "history.go:43", after := #[{ on := 3, ground := Ground.guard }], guard := some (3, true) }) (v := .pointer (some ⟨w.heap.size, 0, none⟩)) rfl (by kernel_rfl) (by kernel_rfl) (by kernel_rfl) (fun _ _ _ h => h) (Or.inl ⟨by rfl, by intro w hSw; go_simp⟩) hHeld ?_
                try simp only [Act.put, List.setIfInBounds_toArray, List.set_cons_zero, List.set_cons_succ]
                refine wpAnyH_take (i := 5) (oi := { dst := some 20, op := Op.load 3 (Operand.tmp 19), type := 3, pos := "history.go:43", after := #[{ on := 4, ground := Ground.data }, { on := 3, ground := Ground.guard }], guard := some (3, true) }) (v := .int .i64 px) rfl (by kernel_rfl) (by kernel_rfl) (by kernel_rfl) (fun _ _ _ h => h) (Or.inl ⟨by rfl, by intro W hSw; have h1 := hSw.1; go_simp⟩) hHeld ?_
                try simp only [Act.put, List.setIfInBounds_toArray, List.set_cons_zero, List.set_cons_succ]
                refine wpAnyH_take (i := 6) (oi := { dst := some 21, op := Op.move (Operand.tmp 0), type := 22, pos := "history.go:43", after := #[{ on := 3, ground := Ground.guard }], guard := some (3, true) }) (v := .slice (some ⟨g, o, none⟩) len cap) rfl (by kernel_rfl) (by kernel_rfl) (by kernel_rfl) (fun _ _ _ h => h) (Or.inl ⟨by rfl, by intro w hSw; go_simp⟩) hHeld ?_
                try simp only [Act.put, List.setIfInBounds_toArray, List.set_cons_zero, List.set_cons_succ]
                refine wpAnyH_take (i := 7) (oi := { dst := some 22, op := Op.move (Operand.tmp 0), type := 22, pos := "history.go:43", after := #[{ on := 3, ground := Ground.guard }], guard := some (3, true) }) (v := .slice (some ⟨g, o, none⟩) len cap) rfl (by kernel_rfl) (by kernel_rfl) (by kernel_rfl) (fun _ _ _ h => h) (Or.inl ⟨by rfl, by intro w hSw; go_simp⟩) hHeld ?_
                try simp only [Act.put, List.setIfInBounds_toArray, List.set_cons_zero, List.set_cons_succ]
                refine wpAnyH_take (i := 8) (oi := { dst := some 23, op := Op.call { callee := Callee.builtin Builtin.len, args := #[Operand.tmp 22], argTypes := #[22] }, type := 3, pos := "history.go:43", after := #[{ on := 7, ground := Ground.data }, { on := 3, ground := Ground.guard }], guard := some (3, true) }) (v := .int .i64 len) rfl (by kernel_rfl) (by kernel_rfl) (by kernel_rfl) (fun _ _ _ h => h) (Or.inl ⟨by rfl, by intro w hSw; go_simp⟩) hHeld ?_
                try simp only [Act.put, List.setIfInBounds_toArray, List.set_cons_zero, List.set_cons_succ]
                refine wpAnyH_take (i := 9) (oi := { dst := some 24, op := Op.binOp BinOp.sub 3 (Operand.tmp 23) (Operand.const (Value.int IntKind.i64 1)) 3, type := 3, pos := "history.go:43", after := #[{ on := 8, ground := Ground.data }, { on := 3, ground := Ground.guard }], guard := some (3, true) }) (v := .int .i64 j) rfl (by kernel_rfl) (by kernel_rfl) (by kernel_rfl) (fun _ _ _ h => h) (Or.inl ⟨by rfl, by intro W hSw; have := hsub; go_simp⟩) hHeld ?_
                try simp only [Act.put, List.setIfInBounds_toArray, List.set_cons_zero, List.set_cons_succ]
                refine wpAnyH_take (i := 10) (oi := { dst := some 25, op := Op.indexAddr 22 (Operand.tmp 21) (Operand.tmp 24), type := 0, pos := "history.go:43", after := #[{ on := 6, ground := Ground.data }, { on := 9, ground := Ground.data }, { on := 3, ground := Ground.guard }], guard := some (3, true) }) (v := .pointer (some ⟨g, o + 110 * j, none⟩)) rfl (by kernel_rfl) (by kernel_rfl) (by kernel_rfl) (fun _ _ _ h => h) (Or.inl ⟨by rfl, by intro W hSw; have := ix W; go_simp⟩) hHeld ?_
                try simp only [Act.put, List.setIfInBounds_toArray, List.set_cons_zero, List.set_cons_succ]
                refine wpAnyH_take (i := 11) (oi := { dst := some 26, op := Op.fieldAddr 40 (Operand.tmp 25) 0, type := 0, pos := "history.go:43", after := #[{ on := 10, ground := Ground.data }, { on := 3, ground := Ground.guard }], guard := some (3, true) }) (v := .pointer (some ⟨g, o + 110 * j, none⟩)) rfl (by kernel_rfl) (by kernel_rfl) (by kernel_rfl) (fun _ _ _ h => h) (Or.inl ⟨by rfl, by intro w hSw; go_simp⟩) hHeld ?_
                try simp only [Act.put, List.setIfInBounds_toArray, List.set_cons_zero, List.set_cons_succ]
                refine wpAnyH_take (i := 12) (oi := { dst := some 27, op := Op.load 3 (Operand.tmp 26), type := 3, pos := "history.go:43", after := #[{ on := 11, ground := Ground.data }, { on := 3, ground := Ground.guard }], guard := some (3, true) }) (v := .int .i64 py) rfl (by kernel_rfl) (by kernel_rfl) (by kernel_rfl) (fun _ _ _ h => h) (Or.inl ⟨by rfl, by intro W hSw; have h1 := hSw.2; go_simp⟩) hHeld ?_
                try simp only [Act.put, List.setIfInBounds_toArray, List.set_cons_zero, List.set_cons_succ]
                refine wpAnyH_take (i := 13) (oi := { dst := some 28, op := Op.binOp BinOp.lss 3 (Operand.tmp 20) (Operand.tmp 27) 3, type := 4, pos := "history.go:43", after := #[{ on := 5, ground := Ground.data }, { on := 12, ground := Ground.data }, { on := 3, ground := Ground.guard }], guard := some (3, true) }) (v := .bool false) rfl (by kernel_rfl) (by kernel_rfl) (by kernel_rfl) (fun _ _ _ h => h) (Or.inl ⟨by rfl, by intro w hSw; go_simp⟩) hHeld ?_
                try simp only [Act.put, List.setIfInBounds_toArray, List.set_cons_zero, List.set_cons_succ]
                refine wpAnyH_take (i := 14) (oi := { dst := some 29, op := Op.pick (Operand.tmp 18) (Operand.tmp 28) (Operand.const (Value.bool false)), type := 4, pos := "history.go:43", after := #[{ on := 3, ground := Ground.data }, { on := 13, ground := Ground.data }], guard := none }) (v := .bool false) rfl (by kernel_rfl) (by kernel_rfl) (by kernel_rfl) (fun _ _ _ h => h) (Or.inl ⟨by rfl, by intro w hSw; go_simp⟩) hHeld ?_
                try simp only [Act.put, List.setIfInBounds_toArray, List.set_cons_zero, List.set_cons_succ]
                refine wpAnyH_take (i := 15) (oi := { dst := some 14, op := Op.assign (Operand.tmp 29), type := 4, pos := "history.go:43", after := #[{ on := 14, ground := Ground.data }, { on := 3, ground := Ground.chain }], guard := none }) (v := .bool false) rfl (by kernel_rfl) (by kernel_rfl) (by kernel_rfl) (fun _ _ _ h => h) (Or.inl ⟨by rfl, by intro w hSw; go_simp⟩) hHeld ?_
                try simp only [Act.put, List.setIfInBounds_toArray, List.set_cons_zero, List.set_cons_succ]
                refine wpAnyH_done (by kernel_rfl) ?_ _
                have HBD := hidk HB2.out.drew
                have HRD : Hid (w2.drew.rangeAt w.heap.size 1 V.toList) := HRV.out w2 HG2.out
                go_wp2_with (first
                  | (show wpList _ _ _ ({ dst := some 42, op := _, type := _, pos := _, after := _, guard := _ } :: _) _ _; refine wpList_mid_w (by rfl) 38 (.tmp 41) rfl w.heap.size 1 rfl V _ HRD.out Try.underlying38 rfl HSV.out ?_; try simp only [Act.put, List.setIfInBounds_toArray, List.set_cons_zero, List.set_cons_succ])
                  | fail)
                refine (HOL.out _ HBD.out).mono ?_
                rintro e w3 ⟨rfl, hb3⟩
                have HB3 := hidk (HBD.out.trans (hb3.mono HBD.out.size))
                clear hb3
                go_wp2
                go_ret
                exact ⟨by rw [HE2.out]; rfl, HB3.out⟩
              · have HE2 : Hid (mayE l x = 101) := by show _ = _; rw [HE.out]; simp [hk]
                go_enter Try.func86, Try.ntmps86
                go_wp2_with fail
                refine (HRL.out _ HB.out).mono ?_
                rintro e w1 ⟨rfl, hb1⟩
                have HB1 := hidk (HB.out.trans (hb1.mono HB.out.size))
                have HG1 := hidk ((hb1.block _ (heap_lt HG.out)).trans HG.out)
                clear hb1
                go_wp2_with (first
                  | (show wpList _ _ _ ({ dst := some 10, op := _, type := _, pos := _, after := _, guard := _ } :: _) _ _; refine wpList_load_row_w (by rfl) 40 (.tmp 3) rfl w.heap.size rfl 40 X (0, 0) _ HG1.out Try.underlying40 rfl HSX.out ?_; try simp only [Act.put, List.setIfInBounds_toArray, List.set_cons_zero, List.set_cons_succ])
                  | fail)
                refine (HRI.out _).mono ?_
                rintro e w2 ⟨rfl, hb2⟩
                have HB2 := hidk (HB1.out.trans (hb2.mono HB1.out.size))
                have HG2 := hidk ((hb2.block _ (heap_lt HG1.out)).trans HG1.out)
                clear hb2
                obtain ⟨c0, c1, c2, c3⟩ := HCL.out _ _ HG2.out
                have hS : w2.cell? ⟨w.heap.size, 0, none⟩ = some (.int .i64 px) ∧ w2.cell? ⟨g, o + 110 * j, none⟩ = some (.int .i64 py) := ⟨c0, HCJ.out _ HB2.out⟩
                go_wp2
                refine wp_region_held_drew (S := (fun V => V.cell? ⟨w.heap.size, 0, none⟩ = some (.int .i64 px) ∧ V.cell? ⟨g, o + 110 * j, none⟩ = some (.int .i64 py))) (by kernel_rfl) hS (fun hHeld => ?_)
                refine wpAnyH_take (i := 0) (oi := { dst := some 15, op := Op.move (Operand.tmp 0), type := 22, pos := "history.go:43", after := #[], guard := none }) (v := .slice (some ⟨g, o, none⟩) len cap) rfl (by kernel_rfl) (by kernel_rfl) (by kernel_rfl) (fun _ _ _ h => h) (Or.inl ⟨by rfl, by intro w hSw; go_simp⟩) hHeld ?_
                try simp only [Act.put, List.setIfInBounds_toArray, List.set_cons_zero, List.set_cons_succ]
                refine wpAnyH_take (i := 1) (oi := { dst := some 16, op := Op.call { callee := Callee.builtin Builtin.len, args := #[Operand.tmp 15], argTypes := #[22] }, type := 3, pos := "history.go:43", after := #[{ on := 0, ground := Ground.data }], guard := none }) (v := .int .i64 len) rfl (by kernel_rfl) (by kernel_rfl) (by kernel_rfl) (fun _ _ _ h => h) (Or.inl ⟨by rfl, by intro w hSw; go_simp⟩) hHeld ?_
                try simp only [Act.put, List.setIfInBounds_toArray, List.set_cons_zero, List.set_cons_succ]
                refine wpAnyH_take (i := 2) (oi := { dst := some 17, op := Op.binOp BinOp.gtr 3 (Operand.tmp 16) (Operand.const (Value.int IntKind.i64 0)) 3, type := 4, pos := "history.go:43", after := #[{ on := 1, ground := Ground.data }], guard := none }) (v := .bool true) rfl (by kernel_rfl) (by kernel_rfl) (by kernel_rfl) (fun _ _ _ h => h) (Or.inl ⟨by rfl, by intro w hSw; go_simp⟩) hHeld ?_
                try simp only [Act.put, List.setIfInBounds_toArray, List.set_cons_zero, List.set_cons_succ]
                refine wpAnyH_take (i := 3) (oi := { dst := some 18, op := Op.move (Operand.tmp 17), type := 4, pos := "history.go:43", after := #[{ on := 2, ground := Ground.data }], guard := none }) (v := .bool true) rfl (by kernel_rfl) (by kernel_rfl) (by kernel_rfl) (fun _ _ _ h => h) (Or.inl ⟨by rfl, by intro w hSw; go_simp⟩) hHeld ?_
                try simp only [Act.put, List.setIfInBounds_toArray, List.set_cons_zero, List.set_cons_succ]
                refine wpAnyH_take (i := 4) (oi := { dst := some 19, op := Op.fieldAddr 40 (Operand.tmp 3) 0, type := 0, pos := "history.go:43", after := #[{ on := 3, ground := Ground.guard }], guard := some (3, true) }) (v := .pointer (some ⟨w.heap.size, 0, none⟩)) rfl (by kernel_rfl) (by kernel_rfl) (by kernel_rfl) (fun _ _ _ h => h) (Or.inl ⟨by rfl, by intro w hSw; go_simp⟩) hHeld ?_
                try simp only [Act.put, List.setIfInBounds_toArray, List.set_cons_zero, List.set_cons_succ]
                refine wpAnyH_take (i := 5) (oi := { dst := some 20, op := Op.load 3 (Operand.tmp 19), type := 3, pos := "history.go:43", after := #[{ on := 4, ground := Ground.data }, { on := 3, ground := Ground.guard }], guard := some (3, true) }) (v := .int .i64 px) rfl (by kernel_rfl) (by kernel_rfl) (by kernel_rfl) (fun _ _ _ h => h) (Or.inl ⟨by rfl, by intro W hSw; have h1 := hSw.1; go_simp⟩) hHeld ?_
                try simp only [Act.put, List.setIfInBounds_toArray, List.set_cons_zero, List.set_cons_succ]
                refine wpAnyH_take (i := 6) (oi := { dst := some 21, op := Op.move (Operand.tmp 0), type := 22, pos := "history.go:43", after := #[{ on := 3, ground := Ground.guard }], guard := some (3, true) }) (v := .slice (some ⟨g, o, none⟩) len cap) rfl (by kernel_rfl) (by kernel_rfl) (by kernel_rfl) (fun _ _ _ h => h) (Or.inl ⟨by rfl, by intro w hSw; go_simp⟩) hHeld ?_
                try simp only [Act.put, List.setIfInBounds_toArray, List.set_cons_zero, List.set_cons_succ]
                refine wpAnyH_take (i := 7) (oi := { dst := some 22, op := Op.move (Operand.tmp 0), type := 22, pos := "history.go:43", after := #[{ on := 3, ground := Ground.guard }], guard := some (3, true) }) (v := .slice (some ⟨g, o, none⟩) len cap) rfl (by kernel_rfl) (by kernel_rfl) (by kernel_rfl) (fun _ _ _ h => h) (Or.inl ⟨by rfl, by intro w hSw; go_simp⟩) hHeld ?_
                try simp only [Act.put, List.setIfInBounds_toArray, List.set_cons_zero, List.set_cons_succ]
                refine wpAnyH_take (i := 8) (oi := { dst := some 23, op := Op.call { callee := Callee.builtin Builtin.len, args := #[Operand.tmp 22], argTypes := #[22] }, type := 3, pos := "history.go:43", after := #[{ on := 7, ground := Ground.data }, { on := 3, ground := Ground.guard }], guard := some (3, true) }) (v := .int .i64 len) rfl (by kernel_rfl) (by kernel_rfl) (by kernel_rfl) (fun _ _ _ h => h) (Or.inl ⟨by rfl, by intro w hSw; go_simp⟩) hHeld ?_
                try simp only [Act.put, List.setIfInBounds_toArray, List.set_cons_zero, List.set_cons_succ]
                refine wpAnyH_take (i := 9) (oi := { dst := some 24, op := Op.binOp BinOp.sub 3 (Operand.tmp 23) (Operand.const (Value.int IntKind.i64 1)) 3, type := 3, pos := "history.go:43", after := #[{ on := 8, ground := Ground.data }, { on := 3, ground := Ground.guard }], guard := some (3, true) }) (v := .int .i64 j) rfl (by kernel_rfl) (by kernel_rfl) (by kernel_rfl) (fun _ _ _ h => h) (Or.inl ⟨by rfl, by intro W hSw; have := hsub; go_simp⟩) hHeld ?_
                try simp only [Act.put, List.setIfInBounds_toArray, List.set_cons_zero, List.set_cons_succ]
                refine wpAnyH_take (i := 10) (oi := { dst := some 25, op := Op.indexAddr 22 (Operand.tmp 21) (Operand.tmp 24), type := 0, pos := "history.go:43", after := #[{ on := 6, ground := Ground.data }, { on := 9, ground := Ground.data }, { on := 3, ground := Ground.guard }], guard := some (3, true) }) (v := .pointer (some ⟨g, o + 110 * j, none⟩)) rfl (by kernel_rfl) (by kernel_rfl) (by kernel_rfl) (fun _ _ _ h => h) (Or.inl ⟨by rfl, by intro W hSw; have := ix W; go_simp⟩) hHeld ?_
                try simp only [Act.put, List.setIfInBounds_toArray, List.set_cons_zero, List.set_cons_succ]
                refine wpAnyH_take (i := 11) (oi := { dst := some 26, op := Op.fieldAddr 40 (Operand.tmp 25) 0, type := 0, pos := "history.go:43", after := #[{ on := 10, ground := Ground.data }, { on := 3, ground := Ground.guard }], guard := some (3, true) }) (v := .pointer (some ⟨g, o + 110 * j, none⟩)) rfl (by kernel_rfl) (by kernel_rfl) (by kernel_rfl) (fun _ _ _ h => h) (Or.inl ⟨by rfl, by intro w hSw; go_simp⟩) hHeld ?_
                try simp only [Act.put, List.setIfInBounds_toArray, List.set_cons_zero, List.set_cons_succ]
                refine wpAnyH_take (i := 12) (oi := { dst := some 27, op := Op.load 3 (Operand.tmp 26), type := 3, pos := "history.go:43", after := #[{ on := 11, ground := Ground.data }, { on := 3, ground := Ground.guard }], guard := some (3, true) }) (v := .int .i64 py) rfl (by kernel_rfl) (by kernel_rfl) (by kernel_rfl) (fun _ _ _ h => h) (Or.inl ⟨by rfl, by intro W hSw; have h1 := hSw.2; go_simp⟩) hHeld ?_
                try simp only [Act.put, List.setIfInBounds_toArray, List.set_cons_zero, List.set_cons_succ]
                refine wpAnyH_take (i := 13) (oi := { dst := some 28, op := Op.binOp BinOp.lss 3 (Operand.tmp 20) (Operand.tmp 27) 3, type := 4, pos := "history.go:43", after := #[{ on := 5, ground := Ground.data }, { on := 12, ground := Ground.data }, { on := 3, ground := Ground.guard }], guard := some (3, true) }) (v := .bool false) rfl (by kernel_rfl) (by kernel_rfl) (by kernel_rfl) (fun _ _ _ h => h) (Or.inl ⟨by rfl, by intro w hSw; go_simp⟩) hHeld ?_
                try simp only [Act.put, List.setIfInBounds_toArray, List.set_cons_zero, List.set_cons_succ]
                refine wpAnyH_take (i := 14) (oi := { dst := some 29, op := Op.pick (Operand.tmp 18) (Operand.tmp 28) (Operand.const (Value.bool false)), type := 4, pos := "history.go:43", after := #[{ on := 3, ground := Ground.data }, { on := 13, ground := Ground.data }], guard := none }) (v := .bool false) rfl (by kernel_rfl) (by kernel_rfl) (by kernel_rfl) (fun _ _ _ h => h) (Or.inl ⟨by rfl, by intro w hSw; go_simp⟩) hHeld ?_
                try simp only [Act.put, List.setIfInBounds_toArray, List.set_cons_zero, List.set_cons_succ]
                refine wpAnyH_take (i := 15) (oi := { dst := some 14, op := Op.assign (Operand.tmp 29), type := 4, pos := "history.go:43", after := #[{ on := 14, ground := Ground.data }, { on := 3, ground := Ground.chain }], guard := none }) (v := .bool false) rfl (by kernel_rfl) (by kernel_rfl) (by kernel_rfl) (fun _ _ _ h => h) (Or.inl ⟨by rfl, by intro w hSw; go_simp⟩) hHeld ?_
                try simp only [Act.put, List.setIfInBounds_toArray, List.set_cons_zero, List.set_cons_succ]
                refine wpAnyH_done (by kernel_rfl) ?_ _
                have HBD := hidk HB2.out.drew
                have HRD : Hid (w2.drew.rangeAt w.heap.size 1 V.toList) := HRV.out w2 HG2.out
                go_wp2_with (first
                  | (show wpList _ _ _ ({ dst := some 42, op := _, type := _, pos := _, after := _, guard := _ } :: _) _ _; refine wpList_mid_w (by rfl) 38 (.tmp 41) rfl w.heap.size 1 rfl V _ HRD.out Try.underlying38 rfl HSV.out ?_; try simp only [Act.put, List.setIfInBounds_toArray, List.set_cons_zero, List.set_cons_succ])
                  | fail)
                refine (HOL.out _ HBD.out).mono ?_
                rintro e w3 ⟨rfl, hb3⟩
                have HB3 := hidk (HBD.out.trans (hb3.mono HBD.out.size))
                clear hb3
                go_wp2
                go_ret
                exact ⟨by rw [HE2.out]; rfl, HB3.out⟩
            · have bk : (kx == 1) = false := by simp [hk]
              have HE2 : Hid (mayE l x = 0) := by show _ = _; rw [HLA.out hlow hfull]; simp [hk]
              go_enter Try.func86, Try.ntmps86
              go_wp2_with fail
              refine (HRL.out _ HB.out).mono ?_
              rintro e w1 ⟨rfl, hb1⟩
              have HB1 := hidk (HB.out.trans (hb1.mono HB.out.size))
              have HG1 := hidk ((hb1.block _ (heap_lt HG.out)).trans HG.out)
              clear hb1
              go_wp2_with (first
                | (show wpList _ _ _ ({ dst := some 10, op := _, type := _, pos := _, after := _, guard := _ } :: _) _ _; refine wpList_load_row_w (by rfl) 40 (.tmp 3) rfl w.heap.size rfl 40 X (0, 0) _ HG1.out Try.underlying40 rfl HSX.out ?_; try simp only [Act.put, List.setIfInBounds_toArray, List.set_cons_zero, List.set_cons_succ])
                | fail)
              refine (HRI.out _).mono ?_
              rintro e w2 ⟨rfl, hb2⟩
              have HB2 := hidk (HB1.out.trans (hb2.mono HB1.out.size))
              have HG2 := hidk ((hb2.block _ (heap_lt HG1.out)).trans HG1.out)
              clear hb2
              obtain ⟨c0, c1, c2, c3⟩ := HCL.out _ _ HG2.out
              have hS : w2.cell? ⟨w.heap.size, 0, none⟩ = some (.int .i64 px) ∧ w2.cell? ⟨g, o + 110 * j, none⟩ = some (.int .i64 py) := ⟨c0, HCJ.out _ HB2.out⟩
              go_wp2
              refine wp_region_held_drew (S := (fun V => V.cell? ⟨w.heap.size, 0, none⟩ = some (.int .i64 px) ∧ V.cell? ⟨g, o + 110 * j, none⟩ = some (.int .i64 py))) (by kernel_rfl) hS (fun hHeld => ?_)
              refine wpAnyH_take (i := 0) (oi := { dst := some 15, op := Op.move (Operand.tmp 0), type := 22, pos := "history.go:43", after := #[], guard := none }) (v := .slice (some ⟨g, o, none⟩) len cap) rfl (by kernel_rfl) (by kernel_rfl) (by kernel_rfl) (fun _ _ _ h => h) (Or.inl ⟨by rfl, by intro w hSw; go_simp⟩) hHeld ?_
              try simp only [Act.put, List.setIfInBounds_toArray, List.set_cons_zero, List.set_cons_succ]
              refine wpAnyH_take (i := 1) (oi := { dst := some 16, op := Op.call { callee := Callee.builtin Builtin.len, args := #[Operand.tmp 15], argTypes := #[22] }, type := 3, pos := "history.go:43", after := #[{ on := 0, ground := Ground.data }], guard := none }) (v := .int .i64 len) rfl (by kernel_rfl) (by kernel_rfl) (by kernel_rfl) (fun _ _ _ h => h) (Or.inl ⟨by rfl, by intro w hSw; go_simp⟩) hHeld ?_
              try simp only [Act.put, List.setIfInBounds_toArray, List.set_cons_zero, List.set_cons_succ]
              refine wpAnyH_take (i := 2) (oi := { dst := some 17, op := Op.binOp BinOp.gtr 3 (Operand.tmp 16) (Operand.const (Value.int IntKind.i64 0)) 3, type := 4, pos := "history.go:43", after := #[{ on := 1, ground := Ground.data }], guard := none }) (v := .bool true) rfl (by kernel_rfl) (by kernel_rfl) (by kernel_rfl) (fun _ _ _ h => h) (Or.inl ⟨by rfl, by intro w hSw; go_simp⟩) hHeld ?_
              try simp only [Act.put, List.setIfInBounds_toArray, List.set_cons_zero, List.set_cons_succ]
              refine wpAnyH_take (i := 3) (oi := { dst := some 18, op := Op.move (Operand.tmp 17), type := 4, pos := "history.go:43", after := #[{ on := 2, ground := Ground.data }], guard := none }) (v := .bool true) rfl (by kernel_rfl) (by kernel_rfl) (by kernel_rfl) (fun _ _ _ h => h) (Or.inl ⟨by rfl, by intro w hSw; go_simp⟩) hHeld ?_
              try simp only [Act.put, List.setIfInBounds_toArray, List.set_cons_zero, List.set_cons_succ]
              refine wpAnyH_take (i := 4) (oi := { dst := some 19, op := Op.fieldAddr 40 (Operand.tmp 3) 0, type := 0, pos := "history.go:43", after := #[{ on := 3, ground := Ground.guard }], guard := some (3, true) }) (v := .pointer (some ⟨w.heap.size, 0, none⟩)) rfl (by kernel_rfl) (by kernel_rfl) (by kernel_rfl) (fun _ _ _ h => h) (Or.inl ⟨by rfl, by intro w hSw; go_simp⟩) hHeld ?_
              try simp only [Act.put, List.setIfInBounds_toArray, List.set_cons_zero, List.set_cons_succ]
              refine wpAnyH_take (i := 5) (oi := { dst := some 20, op := Op.load 3 (Operand.tmp 19), type := 3, pos := "history.go:43", after := #[{ on := 4, ground := Ground.data }, { on := 3, ground := Ground.guard }], guard := some (3, true) }) (v := .int .i64 px) rfl (by kernel_rfl) (by kernel_rfl) (by kernel_rfl) (fun _ _ _ h => h) (Or.inl ⟨by rfl, by intro W hSw; have h1 := hSw.1; go_simp⟩) hHeld ?_
              try simp only [Act.put, List.setIfInBounds_toArray, List.set_cons_zero, List.set_cons_succ]
              refine wpAnyH_take (i := 6) (oi := { dst := some 21, op := Op.move (Operand.tmp 0), type := 22, pos := "history.go:43", after := #[{ on := 3, ground := Ground.guard }], guard := some (3, true) }) (v := .slice (some ⟨g, o, none⟩) len cap) rfl (by kernel_rfl) (by kernel_rfl) (by kernel_rfl) (fun _ _ _ h => h) (Or.inl ⟨by rfl, by intro w hSw; go_simp⟩) hHeld ?_
              try simp only [Act.put, List.setIfInBounds_toArray, List.set_cons_zero, List.set_cons_succ]
              refine wpAnyH_take (i := 7) (oi := { dst := some 22, op := Op.move (Operand.tmp 0), type := 22, pos := "history.go:43", after := #[{ on := 3, ground := Ground.guard }], guard := some (3, true) }) (v := .slice (some ⟨g, o, none⟩) len cap) rfl (by kernel_rfl) (by kernel_rfl) (by kernel_rfl) (fun _ _ _ h => h) (Or.inl ⟨by rfl, by intro w hSw; go_simp⟩) hHeld ?_
              try simp only [Act.put, List.setIfInBounds_toArray, List.set_cons_zero, List.set_cons_succ]
              refine wpAnyH_take (i := 8) (oi := { dst := some 23, op := Op.call { callee := Callee.builtin Builtin.len, args := #[Operand.tmp 22], argTypes := #[22] }, type := 3, pos := "history.go:43", after := #[{ on := 7, ground := Ground.data }, { on := 3, ground := Ground.guard }], guard := some (3, true) }) (v := .int .i64 len) rfl (by kernel_rfl) (by kernel_rfl) (by kernel_rfl) (fun _ _ _ h => h) (Or.inl ⟨by rfl, by intro w hSw; go_simp⟩) hHeld ?_
              try simp only [Act.put, List.setIfInBounds_toArray, List.set_cons_zero, List.set_cons_succ]
              refine wpAnyH_take (i := 9) (oi := { dst := some 24, op := Op.binOp BinOp.sub 3 (Operand.tmp 23) (Operand.const (Value.int IntKind.i64 1)) 3, type := 3, pos := "history.go:43", after := #[{ on := 8, ground := Ground.data }, { on := 3, ground := Ground.guard }], guard := some (3, true) }) (v := .int .i64 j) rfl (by kernel_rfl) (by kernel_rfl) (by kernel_rfl) (fun _ _ _ h => h) (Or.inl ⟨by rfl, by intro W hSw; have := hsub; go_simp⟩) hHeld ?_
              try simp only [Act.put, List.setIfInBounds_toArray, List.set_cons_zero, List.set_cons_succ]
              refine wpAnyH_take (i := 10) (oi := { dst := some 25, op := Op.indexAddr 22 (Operand.tmp 21) (Operand.tmp 24), type := 0, pos := "history.go:43", after := #[{ on := 6, ground := Ground.data }, { on := 9, ground := Ground.data }, { on := 3, ground := Ground.guard }], guard := some (3, true) }) (v := .pointer (some ⟨g, o + 110 * j, none⟩)) rfl (by kernel_rfl) (by kernel_rfl) (by kernel_rfl) (fun _ _ _ h => h) (Or.inl ⟨by rfl, by intro W hSw; have := ix W; go_simp⟩) hHeld ?_
              try simp only [Act.put, List.setIfInBounds_toArray, List.set_cons_zero, List.set_cons_succ]
              refine wpAnyH_take (i := 11) (oi := { dst := some 26, op := Op.fieldAddr 40 (Operand.tmp 25) 0, type := 0, pos := "history.go:43", after := #[{ on := 10, ground := Ground.data }, { on := 3, ground := Ground.guard }], guard := some (3, true) }) (v := .pointer (some ⟨g, o + 110 * j, none⟩)) rfl (by kernel_rfl) (by kernel_rfl) (by kernel_rfl) (fun _ _ _ h => h) (Or.inl ⟨by rfl, by intro w hSw; go_simp⟩) hHeld ?_
              try simp only [Act.put, List.setIfInBounds_toArray, List.set_cons_zero, List.set_cons_succ]
              refine wpAnyH_take (i := 12) (oi := { dst := some 27, op := Op.load 3 (Operand.tmp 26), type := 3, pos := "history.go:43", after := #[{ on := 11, ground := Ground.data }, { on := 3, ground := Ground.guard }], guard := some (3, true) }) (v := .int .i64 py) rfl (by kernel_rfl) (by kernel_rfl) (by kernel_rfl) (fun _ _ _ h => h) (Or.inl ⟨by rfl, by intro W hSw; have h1 := hSw.2; go_simp⟩) hHeld ?_
              try simp only [Act.put, List.setIfInBounds_toArray, List.set_cons_zero, List.set_cons_succ]
              refine wpAnyH_take (i := 13) (oi := { dst := some 28, op := Op.binOp BinOp.lss 3 (Operand.tmp 20) (Operand.tmp 27) 3, type := 4, pos := "history.go:43", after := #[{ on := 5, ground := Ground.data }, { on := 12, ground := Ground.data }, { on := 3, ground := Ground.guard }], guard := some (3, true) }) (v := .bool false) rfl (by kernel_rfl) (by kernel_rfl) (by kernel_rfl) (fun _ _ _ h => h) (Or.inl ⟨by rfl, by intro w hSw; go_simp⟩) hHeld ?_
              try simp only [Act.put, List.setIfInBounds_toArray, List.set_cons_zero, List.set_cons_succ]
              refine wpAnyH_take (i := 14) (oi := { dst := some 29, op := Op.pick (Operand.tmp 18) (Operand.tmp 28) (Operand.const (Value.bool false)), type := 4, pos := "history.go:43", after := #[{ on := 3, ground := Ground.data }, { on := 13, ground := Ground.data }], guard := none }) (v := .bool false) rfl (by kernel_rfl) (by kernel_rfl) (by kernel_rfl) (fun _ _ _ h => h) (Or.inl ⟨by rfl, by intro w hSw; go_simp⟩) hHeld ?_
              try simp only [Act.put, List.setIfInBounds_toArray, List.set_cons_zero, List.set_cons_succ]
              refine wpAnyH_take (i := 15) (oi := { dst := some 14, op := Op.assign (Operand.tmp 29), type := 4, pos := "history.go:43", after := #[{ on := 14, ground := Ground.data }, { on := 3, ground := Ground.chain }], guard := none }) (v := .bool false) rfl (by kernel_rfl) (by kernel_rfl) (by kernel_rfl) (fun _ _ _ h => h) (Or.inl ⟨by rfl, by intro w hSw; go_simp⟩) hHeld ?_
              try simp only [Act.put, List.setIfInBounds_toArray, List.set_cons_zero, List.set_cons_succ]
              refine wpAnyH_done (by kernel_rfl) ?_ _
              have HBD := hidk HB2.out.drew
              have HRD : Hid (w2.drew.rangeAt w.heap.size 1 V.toList) := HRV.out w2 HG2.out
              go_wp2
              go_ret
              exact ⟨by rw [HE2.out]; rfl, HBD.out⟩
end Go.Proofs.Ytjpmmbmhkpgjcaa
