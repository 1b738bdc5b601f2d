/- Texts of our own that the row of AnchorsGrows leans on, part 31. -/
import Derived.Test.YtjalebncfnekiaaDoorAnchorsGrowsJ0
import Derived.Test.YtjalebncfnekiaaDoorAnchorsGrowsJ20
import Derived.Test.YtjalebncfnekiaaDoorAnchorsGrowsJ24
import Derived.Test.YtjalebncfnekiaaDoorAnchorsGrowsJ25
import Derived.Test.YtjalebncfnekiaaDoorAnchorsGrowsJ27
import Derived.Test.YtjalebncfnekiaaDoorAnchorsGrowsJ30
/- HistoryHeads. -/
namespace Go.Proofs.YtjalebncfnekiaaDoor
open Go.RowKit Nums Sums
set_option linter.unusedVariables false
set_option linter.unusedSimpArgs false
set_option maxRecDepth 100000
theorem inL_of {w : World} {a : Option Addr} {len cap : Nat} {l : List ItT} (h : IReads w a len cap l) (hc0 : a = none → cap = 0) (hm : ∀ x ∈ l, CmI x) (hb : bigL l = false) : InL w a len cap l := by
  obtain ⟨h1, h2⟩ := bigL_false hb
  exact ⟨h, hc0, fun x hx => (hm x hx).in (by have := h2 x hx; omega), by have := h.ln; omega⟩
theorem con_finds11 (l : List (List UInt8)) (i : Nat) (hi : i ≤ l.length) (hl : l.length ≤ 100000) : P5.conE i (root (l.take i)) (l.length : Nat) (root l) (goesAt l i) = 0 := by
  unfold goesAt
  by_cases h0 : i = 0
  · subst h0
    rw [if_pos rfl]
    show P5.conE 0 _ _ _ [] = 0
    rw [P5.conE_none _ _ _ _ (by omega), if_pos rfl, if_pos]
    refine ⟨by rw [root_none _ (by simp)], fun e => ?_⟩
    rw [root_none l (by omega), root_none _ (by simp)]
  · rw [if_neg h0, P5.conE_in i _ l.length _ _ (by omega) hi hl, P5.bothR_goes l.length l i true _ rfl (by omega) hi (fun _ => rfl)]
    simp
theorem conE11_inv {l : List ItT} {m n : Int} (h : conE11 l m n = 0) : sizeX l n = 0 ∧ 0 ≤ m ∧ m ≤ n := by
  unfold conE11 at h
  by_cases hs : sizeX l n = 0
  · rw [if_pos hs] at h
    by_cases hi : 0 ≤ m ∧ m ≤ n
    · exact ⟨hs, hi⟩
    · rw [if_neg hi] at h; omega
  · rw [if_neg hs] at h; exact absurd h hs
theorem leavesL_length (l : List ItT) : (leavesL l).length = l.length := by unfold leavesL; rw [List.length_map]
theorem found_con {l : List ItT} {m n : Int} (h : conE11 l m n = 0) (hl : l.length ≤ 100000) : sizeX l m = 0 ∧ P5.conE m (rootO l m) n (rootO l n) (conL11 l m n) = 0 := by
  obtain ⟨h1, h2, h3⟩ := conE11_inv h
  obtain ⟨hr, h4, h5⟩ := sizeX_vals l n h1
  obtain ⟨N, rfl⟩ : ∃ N : Nat, n = N := ⟨n.toNat, by omega⟩
  obtain ⟨k, rfl⟩ : ∃ k : Nat, m = k := ⟨m.toNat, by omega⟩
  have hs : sizeX l k = 0 := by unfold sizeX; rw [if_neg (by rw [hr]; decide), if_neg (by omega)]
  refine ⟨hs, ?_⟩
  have hN : (leavesL (l.take N)).length = N := by rw [leavesL_length, List.length_take]; omega
  have e1 : rootO l N = root (leavesL (l.take N)) := by unfold rootO; rw [if_pos h1, Int.toNat_natCast]
  have e0 : rootO l k = root ((leavesL (l.take N)).take k) := by
    unfold rootO
    rw [if_pos hs, Int.toNat_natCast]
    unfold leavesL
    rw [← List.map_take, List.take_take, Nat.min_eq_left (by omega)]
  have e2 : conL11 l k N = goesAt (leavesL (l.take N)) k := by unfold conL11; rw [if_pos h, Int.toNat_natCast, Int.toNat_natCast]
  have := con_finds11 (leavesL (l.take N)) k (by omega) (by omega)
  rw [hN] at this
  rw [e0, e1, e2]
  exact this
structure HeldP (w : World) (P : List (List UInt8)) (pa : Option Addr) (pl pc : Nat) (Q : List (List UInt8)) (qa : Option Addr) (ql qc : Nat) (V : World) : Prop where
  b : Below w.heap.size w V
  p : LReads V pa pl pc P
  q : LReads V qa ql qc Q
theorem HeldP.keep {w : World} {P : List (List UInt8)} {pa : Option Addr} {pl pc : Nat} {Q : List (List UInt8)} {qa : Option Addr} {ql qc : Nat} {V V' : World} (h : HeldP w P pa pl pc Q qa ql qc V) (hb : Below V.heap.size V V') : HeldP w P pa pl pc Q qa ql qc V' :=
  ⟨h.b.trans (hb.mono h.b.size), h.p.keep hb, h.q.keep hb⟩
end Go.Proofs.YtjalebncfnekiaaDoor
/- Heads of one log that grows (chapter 13). -/
namespace Go.Proofs.YtjalebncfnekiaaDoor
open Nums Sums
set_option linter.unusedVariables false
set_option maxRecDepth 100000
def sgG (l : List ItT) (n r node t : Int) : SgT := signO zeroK (headX l n r 1 t) node
theorem headG {l : List ItT} {n r t : Int} (hl : rightL l = true) (hn : 0 ≤ n ∧ n ≤ l.length) (hr : 1 ≤ r ∧ r ≤ 5) (ht : 0 ≤ t ∧ t ≤ 10) : hdE l n r 1 t = 0 ∧ hdO l n r 1 t = headX l n r 1 t := by
  have hs : sizeX l n = 0 := by unfold sizeX; rw [if_neg (by rw [hl]; decide), if_neg (by omega)]
  have h2 := ((rightL_iff l).1 hl).1
  have hh : rightH (headX l n r 1 t) = true := (rightH_iff _).2 ⟨hr.1, hr.2, by show (1 : Int) ≤ 1; decide, by show (1 : Int) ≤ 900000000; decide, hn.1, by show n ≤ 100000; omega, ht.1, by show t ≤ 900000000; omega⟩
  have e : hdE l n r 1 t = 0 := by unfold hdE; rw [if_pos hs, if_pos hh]
  exact ⟨e, by unfold hdO; rw [if_pos e]⟩
theorem rightG {l : List ItT} {n r t : Int} (hl : rightL l = true) (hn : 0 ≤ n ∧ n ≤ l.length) (hr : 1 ≤ r ∧ r ≤ 5) (ht : 0 ≤ t ∧ t ≤ 10) : rightH (headX l n r 1 t) = true := by
  have h2 := ((rightL_iff l).1 hl).1
  exact (rightH_iff _).2 ⟨hr.1, hr.2, by show (1 : Int) ≤ 1; decide, by show (1 : Int) ≤ 900000000; decide, hn.1, by show n ≤ 100000; omega, ht.1, by show t ≤ 900000000; omega⟩
theorem signsG {l : List ItT} {n r node t : Int} (hl : rightL l = true) (hn : 0 ≤ n ∧ n ≤ l.length) (hr : 1 ≤ r ∧ r ≤ 5) (hd : 1 ≤ node ∧ node ≤ 3) (ht : 0 ≤ t ∧ t ≤ 10) : signsO (headX l n r 1 t) node = true := by
  unfold signsO
  rw [rightG hl hn hr ht]
  simp only [Bool.true_and, decide_eq_true_eq, Bool.and_eq_true]
  omega
theorem sgG_eq {l : List ItT} {n r node t : Int} (hl : rightL l = true) (hn : 0 ≤ n ∧ n ≤ l.length) (hr : 1 ≤ r ∧ r ≤ 5) (hd : 1 ≤ node ∧ node ≤ 3) (ht : 0 ≤ t ∧ t ≤ 10) : sgG l n r node t = ⟨headX l n r 1 t, node, tagD zeroK (headX l n r 1 t) node⟩ := by
  unfold sgG signO
  rw [if_pos (signsG hl hn hr hd ht)]
theorem sgG_may {l : List ItT} {n r node t : Int} (hl : rightL l = true) (hn : 0 ≤ n ∧ n ≤ l.length) (hr : 1 ≤ r ∧ r ≤ 5) (hd : 1 ≤ node ∧ node ≤ 3) (ht : 0 ≤ t ∧ t ≤ 10) : mayS (sgG l n r node t) = true := by
  rw [sgG_eq hl hn hr hd ht, mayS_iff]
  exact ⟨rightG hl hn hr ht, hd.1, hd.2⟩
theorem sgG_ver {l : List ItT} {n r node t : Int} (hl : rightL l = true) (hn : 0 ≤ n ∧ n ≤ l.length) (hr : 1 ≤ r ∧ r ≤ 5) (hd : 1 ≤ node ∧ node ≤ 3) (ht : 0 ≤ t ∧ t ≤ 10) : verE zeroK (sgG l n r node t) = 0 := by
  unfold verE
  rw [if_pos (sgG_may hl hn hr hd ht), if_pos]
  rw [sgG_eq hl hn hr hd ht]
structure GrO (l all : List ItT) (r epoch last : Int) (k : Nat) : Prop where
  right : rightL all = true
  len : all.length ≤ 60 + k
  low : lowB all epoch = false
  zn : 0 ≤ last ∧ last ≤ l.length
  lat : (latA all r = none ∧ last = 0) ∨ ∃ s, latA all r = some s ∧ s.h.e = 1 ∧ s.h.s = last ∧ s.h.d = rootO l last
theorem rootO_zero {l : List ItT} (hl : rightL l = true) : rootO l 0 = sumD [] := by
  have hs : sizeX l 0 = 0 := by unfold sizeX; rw [if_neg (by rw [hl]; decide), if_neg (by omega)]
  unfold rootO
  rw [if_pos hs]
  exact root_none _ rfl
theorem GrO.start {l other : List ItT} {r epoch : Int} (hl : rightL l = true) (ho : rightL other = true) (hlen : other.length ≤ 60) (hlow : lowB other epoch = false) (hn : latA other r = none) : GrO l other r epoch 0 0 :=
  ⟨ho, by omega, hlow, by omega, .inl ⟨hn, rfl⟩⟩
theorem GrO.more {l all : List ItT} {r epoch last : Int} {k : Nat} (h : GrO l all r epoch last k) : GrO l all r epoch last (k + 1) := ⟨h.right, by have := h.len; omega, h.low, h.zn, h.lat⟩
theorem GrO.last {l all : List ItT} {r epoch last : Int} {k : Nat} (hl : rightL l = true) (h : GrO l all r epoch last k) : (lastH (latA all r)).e ≤ 1 ∧ (lastH (latA all r)).s = last ∧ (lastH (latA all r)).d = rootO l last := by
  rcases h.lat with ⟨h1, h2⟩ | ⟨s, h1, h2, h3, h4⟩
  · rw [h1, h2, rootO_zero hl]
    exact ⟨by show (0 : Int) ≤ 1; decide, rfl, rfl⟩
  · rw [h1]
    exact ⟨by show s.h.e ≤ 1; omega, h3, h4⟩
theorem GrO.admits {l all : List ItT} {r epoch last n node t : Int} {k : Nat} (hl : rightL l = true) (h : GrO l all r epoch last k) (hn : last ≤ n ∧ n ≤ l.length) (hr : 1 ≤ r ∧ r ≤ 5) (hd : 1 ≤ node ∧ node ≤ 3) (ht : 0 ≤ t ∧ t ≤ 10) :
    conE11 l last n = 0 ∧ admE zeroK all (sgG l n r node t) last (conL11 l last n) = 0 := by
  have hz := h.zn
  have hn0 : 0 ≤ n ∧ n ≤ l.length := by omega
  have hs : sizeX l n = 0 := by unfold sizeX; rw [if_neg (by rw [hl]; decide), if_neg (by omega)]
  have hc : conE11 l last n = 0 := by unfold conE11; rw [if_pos hs, if_pos (by omega)]
  refine ⟨hc, ?_⟩
  have h2 := ((rightL_iff l).1 hl).1
  obtain ⟨_, hf⟩ := found_con hc (by omega)
  obtain ⟨q1, q2, q3⟩ := h.last hl
  have eh : (sgG l n r node t).h = headX l n r 1 t := by rw [sgG_eq hl hn0 hr hd ht]
  unfold admE
  rw [if_neg (by rw [h.right]; decide), if_pos (sgG_ver hl hn0 hr hd ht), eh]
  have er : (headX l n r 1 t).r = r := rfl
  rw [er, q2, q3]
  rw [if_neg (by show ¬ ((1 : Int) < (lastH (latA all r)).e ∨ n < last ∨ last ≠ last); omega)]
  have ed : rootO l n = (headX l n r 1 t).d := by unfold rootO; rw [if_pos hs]; rfl
  rw [← ed]
  exact if_pos hf
theorem GrO.next {l all : List ItT} {r epoch last n node t : Int} {k : Nat} (hl : rightL l = true) (h : GrO l all r epoch last k) (hk : k ≤ 20) (hn : last ≤ n ∧ n ≤ l.length) (hr : 1 ≤ r ∧ r ≤ 5) (hd : 1 ≤ node ∧ node ≤ 3) (ht : 0 ≤ t ∧ t ≤ 10) (he : 1 ≤ epoch ∧ epoch ≤ 900000000) :
    GrO l (all ++ [anI epoch (sgG l n r node t)]) r epoch n (k + 1) := by
  have hz := h.zn
  have hn0 : 0 ≤ n ∧ n ≤ l.length := by omega
  have hlen := h.len
  have hs : sizeX l n = 0 := by unfold sizeX; rw [if_neg (by rw [hl]; decide), if_neg (by omega)]
  have eh : (sgG l n r node t).h = headX l n r 1 t := by rw [sgG_eq hl hn0 hr hd ht]
  have hmy : mayE all (anI epoch (sgG l n r node t)) = 0 := by
    rw [may_an100 epoch h.right (sgG_may hl hn0 hr hd ht) (by omega), if_pos he, if_neg (by rw [h.low]; decide)]
  refine ⟨right_snoc hmy, by rw [List.length_append]; show all.length + 1 ≤ _; omega, ?_, hn0, .inr ⟨sgG l n r node t, ?_, by rw [eh]; rfl, by rw [eh]; rfl, ?_⟩⟩
  · unfold lowB
    rw [List.getLast?_append]
    show decide (epoch < epoch) = false
    exact decide_eq_false (by omega)
  · have := lat_next all epoch (sgG l n r node t)
    rwa [eh] at this
  · rw [eh]; unfold rootO; rw [if_pos hs]; rfl
end Go.Proofs.YtjalebncfnekiaaDoor
/- HistoryGrows. -/
namespace Go.Proofs.YtjalebncfnekiaaDoor
open Go.RowKit Nums Sums
set_option linter.unusedVariables false
set_option linter.unusedSimpArgs false
set_option maxRecDepth 100000
structure HeldG (w : World) (L : List ItT) (len1 : Nat) (aa : Option Addr) (ca : Nat) (X : Array Value) (V : World) : Prop where
  b : Below w.heap.size w V
  o : IReads V aa len1 ca L
  g : V.heap[w.heap.size]? = some (.cells X 48 (0, 0))
theorem HeldG.keep {w : World} {L : List ItT} {len1 : Nat} {aa : Option Addr} {ca : Nat} {X : Array Value} {V V' : World} (h : HeldG w L len1 aa ca X V) (hb : Below V.heap.size V V') : HeldG w L len1 aa ca X V' :=
  ⟨h.b.trans (hb.mono h.b.size), h.o.keep hb, (hb.block _ (heap_lt h.g)).trans h.g⟩
theorem headX_d (l : List ItT) (n r e t : Int) : (headX l n r e t).d.length = 32 := root_length sumD_length _ (leaves_digs _)
theorem sgG_digs {l : List ItT} {n r d t : Int} (hl : rightL l = true) (hn : 0 ≤ n ∧ n ≤ l.length) (hr : 1 ≤ r ∧ r ≤ 5) (hd : 1 ≤ d ∧ d ≤ 3) (ht : 0 ≤ t ∧ t ≤ 10) : (sgG l n r d t).h.d.length = 32 ∧ (sgG l n r d t).g.length = 32 := by
  rw [sgG_eq hl hn hr hd ht]
  exact ⟨headX_d l n r 1 t, tagD_length sumD_length _ _ _⟩
theorem grow_calls (hd : HeadC) (an : AnchorsC) (hc : HistoryC) {w : World} {a : Option Addr} {len cap : Nat} {l : List ItT} (hin : InL w a len cap l) (hl : rightL l = true) {r d e : Int} (hr : 1 ≤ r ∧ r ≤ 5) (hdn : 1 ≤ d ∧ d ≤ 3) (he : 1 ≤ e ∧ e ≤ 900000000) (hT : TabH w)
    {all : List ItT} {last : Int} {k : Nat} (g : GrO l all r e last k) (hk : k ≤ 10) (n : Int) (hn : last ≤ n ∧ n ≤ l.length) :
    ∃ (x : ItT) (H S X K : Array Value) (P : List (List UInt8)), (OkE x.e ∧ InI x ∧ GrO l (all ++ [x]) r e n (k + 1)) ∧
      (Hid ((Tryd.prog.info? 28).map (·.size) = some H.size) ∧ Hid (H.all (·.oneCell') = true) ∧ Hid (H.size = 36)) ∧
      (Hid ((Tryd.prog.info? 30).map (·.size) = some S.size) ∧ Hid (S.all (·.oneCell') = true) ∧ Hid (S.size = 69)) ∧
      Hid (X = (icells x).toArray) ∧ Hid (Tryd.prog.built 38 [] = some K) ∧
      Hid (∀ W, Below w.heap.size w W → Calls Tryd.prog 21 #[.slice a len cap, .int .i64 n, .int .i64 r, .int .i64 1, .int .i64 (k : Int)] W fun x w' => x = .returned (.tuple #[.agg H, .int .i64 0]) ∧ Below W.heap.size W w') ∧
      Hid (∀ W, Below w.heap.size w W → Calls Tryd.prog 22 #[.agg K, .agg H, .int .i64 d] W fun x w' => x = .returned (.tuple #[.agg S, .int .i64 0]) ∧ Below W.heap.size W w') ∧
      Hid (∀ W, Below w.heap.size w W → Calls Tryd.prog 23 #[.slice a len cap, .int .i64 last, .int .i64 n] W fun x w' => ∃ px pl cx, x = .returned (.tuple #[.slice px pl cx, .int .i64 0]) ∧ LReads w' px pl cx P ∧ Below W.heap.size W w') ∧
      Hid (∀ W aa la ca px pl cx, Below w.heap.size w W → InL W aa la ca all → LReads W px pl cx P → Calls Tryd.prog 16 #[.agg K, .slice aa la ca, .agg S, .int .i64 last, .slice px pl cx] W fun x w' => x = .returned (.int .i64 0) ∧ Below W.heap.size W w') ∧
      Hid (∀ W, Calls Tryd.prog 17 #[.int .i64 e, .agg S] W fun x w' => x = .returned (.agg X) ∧ Below W.heap.size W w') := by
  have hz := g.zn
  have hn0 : 0 ≤ n ∧ n ≤ l.length := by omega
  have ht : 0 ≤ (k : Int) ∧ (k : Int) ≤ 10 := by omega
  have h2 := ((rightL_iff l).1 hl).1
  have i64 : ∀ z : Int, 0 ≤ z → z ≤ 1000000000 → In64 z := fun z h0 h1 => by unfold In64; omega
  have hg := sgG_digs (r := r) (d := d) hl hn0 hr hdn ht
  have hmay := sgG_may (r := r) (node := d) hl hn0 hr hdn ht
  have hins : InS (sgG l n r d k) := may_in hmay hg.1 hg.2
  obtain ⟨hh1, hh2⟩ := headG hl hn0 hr ht
  obtain ⟨H, HH, HSH, H1H, NH⟩ := head_row5 (headX l n r 1 k) (headX_d _ _ _ _ _)
  obtain ⟨S, HS, HSS, H1S, NS⟩ := sign_row (sgG l n r d k) hg.1 hg.2
  obtain ⟨K, HK⟩ : ∃ K : Array Value, Hid (K = (cellsOf zeroK).toArray) := ⟨_, hidk rfl⟩
  obtain ⟨hc1, ha1⟩ := g.admits hl hn hr hdn ht
  have hsg : signE (headX l n r 1 k) d = 0 := by unfold signE; rw [if_pos (signsG hl hn0 hr hdn ht)]
  have okx := anI_ok e (sgG l n r d k) hg.1 hg.2
  refine ⟨anI e (sgG l n r d k), H, S, (icells (anI e (sgG l n r d k))).toArray, K, conL11 l last n, ⟨okx, ⟨i64 e (by omega) (by omega), (by show In64 2; unfold In64; decide), (by show In64 0; unfold In64; decide), (by show In64 0; unfold In64; decide), (by show 0 ≤ 100000; omega), hins, zeroC_in⟩, g.next hl (by omega) hn hr hdn ht he⟩, ⟨HSH, H1H, NH⟩, ⟨HSS, H1S, NS⟩, hidk rfl, by show _ = _; rw [HK.out]; exact builtKey, fun W hb => ?_, fun W hb => ?_, fun W hb => ?_, fun W aa la ca px pl cx hb hi hp => ?_, fun W => ?_⟩
  · have := hc.head a len cap l n r 1 k W (hin.keep hb) (i64 n (by omega) (by omega)) (i64 r (by omega) (by omega)) (i64 1 (by omega) (by omega)) (i64 k (by omega) (by omega)) H (by show _ = _; rw [HH.out, hh2]) (hT.keep hb)
    rwa [hh1] at this
  · have := hd.sign zeroK (headX l n r 1 k) d W K H S HK HH rfl (right_in (rightG hl hn0 hr ht) (headX_d _ _ _ _ _)) (i64 d (by omega) (by omega)) (hT.keep hb) HS
    rwa [hsg] at this
  · have := hc.cons a len cap l last n W (hin.keep hb) (i64 last (by omega) (by omega)) (i64 n (by omega) (by omega)) (hT.keep hb)
    rw [hc1] at this
    refine this.mono ?_
    rintro e w' ⟨x, cx, he, hp, hbw⟩
    exact ⟨x, _, cx, he, hp, hbw⟩
  · have := an.adm zeroK aa la ca all (sgG l n r d k) last px pl cx (conL11 l last n) W K S HK HS rfl hi hins (i64 last (by omega) (by omega)) hp (hT.keep hb)
    rwa [ha1] at this
  · exact itemL_any e (sgG l n r d k) hg.1 hg.2 W S _ HS (hidk rfl)
theorem append_item {U V : World} {la : Nat} {vo : Value} {all : List ItT} {x : ItT} (okx : OkE x.e) (X : Array Value) (HX : Hid (X = (icells x).toArray)) (ho : V.ownsRow U.heap.size 48 110 vo la (icL all)) (oka : ∀ y ∈ all, OkE y.e) (hb : Below U.heap.size U V) (hla : la ≤ 1000) :
    (Instr.buildSlice 22 1 #[(0, .agg X)]).run Tryd.prog V = .ok (.slice (some ⟨V.heap.size, 0, none⟩) 1 1) (V.alloc (.cells X 48)) ∧
    ∃ aa ca V2, (Builtin.append_ #[22, 22] 22 #[vo, .slice (some ⟨V.heap.size, 0, none⟩) 1 1]).run Tryd.prog (V.alloc (.cells X 48)) = .ok (.slice aa (la + 1) ca) V2 ∧ V2.ownsRow U.heap.size 48 110 (.slice aa (la + 1) ca) (la + 1) (icL (all ++ [x])) ∧ Below U.heap.size U V2 := by
  have okx1 : ∀ y ∈ [x], OkE y.e := fun y hy => by rw [List.mem_singleton] at hy; rw [hy]; exact okx
  have okl : ∀ y ∈ all ++ [x], OkE y.e := fun y hy => by
    rcases List.mem_append.1 hy with hy | hy
    · exact oka y hy
    · exact okx1 y hy
  refine ⟨by rw [run_build_items V 1 [x] okx1 rfl (by omega) (by omega) _ (by rw [HX.out]; rfl), icL_cons, icL_nil, List.append_nil, HX.out], ?_⟩
  have hal : Below V.heap.size V (V.alloc (.cells X 48)) := (Below.refl _ _).alloc (Nat.le_refl _) _
  have ho2 : (V.alloc (.cells X 48)).ownsRow U.heap.size 48 110 vo la (icL all) := own_below ho hal
  obtain ⟨v', V2, hrun, hown, hgr⟩ := run_append_items (IReads.new V [x] 1 rfl okx1 (by omega) X (by show _ = _; rw [HX.out, icL_cons, icL_nil, List.append_nil])) (fun e => by cases e) U.heap.size la vo all ho2 (Nat.le_trans hb.size hal.size) (by omega)
  obtain ⟨aa, ca, rfl, _, _, _⟩ := IReads.own hown okl
  exact ⟨aa, ca, V2, hrun, hown, (hb.trans (hal.mono hb.size)).grown hgr (Nat.le_trans hb.size hal.size) (fun k e => (ho2.lt k e).1)⟩
theorem own_inL {W : World} {C la ca : Nat} {aa : Option Addr} {all : List ItT} (ho : W.ownsRow C 48 110 (.slice aa la ca) la (icL all)) (ok : ∀ y ∈ all, InI y ∧ OkE y.e) (hle : all.length ≤ 100) : InL W aa la ca all := by
  obtain ⟨a, c, he, rd, hn, _⟩ := IReads.own ho (fun y hy => (ok y hy).2)
  cases he
  exact ⟨rd, hn, fun y hy => (ok y hy).1, by have := rd.ln; omega⟩
set_option maxHeartbeats 16000000 in
theorem grows_big (w : World) (a : Option Addr) (len cap : Nat) (a1 : Option Addr) (len1 cap1 : Nat) (a2 : Option Addr) (len2 cap2 : Nat) (r d : Int) (BG : Hid (∀ W, Below w.heap.size w W → Calls Tryd.prog 8 #[.slice a len cap] W fun x w' => x = .returned (.bool true) ∧ W = w')) (AD : Hid (∀ W, Below w.heap.size w W → Calls Tryd.prog 14 #[] W fun x w' => x = .returned (.bool true) ∧ Below W.heap.size W w')) :
    Calls Tryd.prog 5 #[.slice a len cap, .slice a1 len1 cap1, .slice a2 len2 cap2, .int .i64 r, .int .i64 d] w fun x w' => x = .returned (.bool true) ∧ Below w.heap.size w w' := by
  have H0 : Hid (Below w.heap.size w w) := Below.refl _ _
  go_enter Tryd.func5, Tryd.ntmps5
  go_wp2_with fail
  refine (BG.out _ H0.out).mono ?_
  rintro x w1 ⟨rfl, rfl⟩
  clear BG
  go_wp2_with fail
  refine (AD.out _ H0.out).mono ?_
  rintro x v9 ⟨rfl, hb9⟩
  have HZ9 := hidk (H0.out.trans (hb9.mono H0.out.size))
  clear hb9
  go_wp2
  go_ret
  exact ⟨rfl, HZ9.out⟩
set_option maxHeartbeats 16000000 in
theorem grows_bigo (w : World) (a : Option Addr) (len cap : Nat) (a1 : Option Addr) (len1 cap1 : Nat) (a2 : Option Addr) (len2 cap2 : Nat) (r d : Int) (BG : Hid (∀ W, Below w.heap.size w W → Calls Tryd.prog 8 #[.slice a len cap] W fun x w' => x = .returned (.bool false) ∧ W = w')) (BG1 : Hid (∀ W, Below w.heap.size w W → Calls Tryd.prog 8 #[.slice a1 len1 cap1] W fun x w' => x = .returned (.bool true) ∧ W = w')) (AD : Hid (∀ W, Below w.heap.size w W → Calls Tryd.prog 14 #[] W fun x w' => x = .returned (.bool true) ∧ Below W.heap.size W w')) :
    Calls Tryd.prog 5 #[.slice a len cap, .slice a1 len1 cap1, .slice a2 len2 cap2, .int .i64 r, .int .i64 d] w fun x w' => x = .returned (.bool true) ∧ Below w.heap.size w w' := by
  have H0 : Hid (Below w.heap.size w w) := Below.refl _ _
  go_enter Tryd.func5, Tryd.ntmps5
  go_wp2_with fail
  refine (BG.out _ H0.out).mono ?_
  rintro x w1 ⟨rfl, rfl⟩
  clear BG
  go_wp2_with fail
  refine (BG1.out _ H0.out).mono ?_
  rintro x w1 ⟨rfl, rfl⟩
  clear BG1
  go_wp2_with fail
  refine (AD.out _ H0.out).mono ?_
  rintro x v9 ⟨rfl, hb9⟩
  have HZ9 := hidk (H0.out.trans (hb9.mono H0.out.size))
  clear hb9
  go_wp2
  go_ret
  exact ⟨rfl, HZ9.out⟩
set_option maxHeartbeats 16000000 in
theorem grows_long (w : World) (a : Option Addr) (len cap : Nat) (a1 : Option Addr) (len1 cap1 : Nat) (a2 : Option Addr) (len2 cap2 : Nat) (r d : Int) (BG : Hid (∀ W, Below w.heap.size w W → Calls Tryd.prog 8 #[.slice a len cap] W fun x w' => x = .returned (.bool false) ∧ W = w')) (BG1 : Hid (∀ W, Below w.heap.size w W → Calls Tryd.prog 8 #[.slice a1 len1 cap1] W fun x w' => x = .returned (.bool false) ∧ W = w')) (dl : decide ((10 : Int) < (len2 : Int)) = true) (AD : Hid (∀ W, Below w.heap.size w W → Calls Tryd.prog 14 #[] W fun x w' => x = .returned (.bool true) ∧ Below W.heap.size W w')) :
    Calls Tryd.prog 5 #[.slice a len cap, .slice a1 len1 cap1, .slice a2 len2 cap2, .int .i64 r, .int .i64 d] w fun x w' => x = .returned (.bool true) ∧ Below w.heap.size w w' := by
  have H0 : Hid (Below w.heap.size w w) := Below.refl _ _
  go_enter Tryd.func5, Tryd.ntmps5
  go_wp2_with fail
  refine (BG.out _ H0.out).mono ?_
  rintro x w1 ⟨rfl, rfl⟩
  clear BG
  go_wp2_with fail
  refine (BG1.out _ H0.out).mono ?_
  rintro x w1 ⟨rfl, rfl⟩
  clear BG1
  go_wp2_with fail
  refine (AD.out _ H0.out).mono ?_
  rintro x v9 ⟨rfl, hb9⟩
  have HZ9 := hidk (H0.out.trans (hb9.mono H0.out.size))
  clear hb9
  go_wp2
  go_ret
  exact ⟨rfl, HZ9.out⟩
set_option maxHeartbeats 16000000 in
theorem grows_form (w : World) (a : Option Addr) (len cap : Nat) (a1 : Option Addr) (len1 cap1 : Nat) (a2 : Option Addr) (len2 cap2 : Nat) (r d : Int) (BG : Hid (∀ W, Below w.heap.size w W → Calls Tryd.prog 8 #[.slice a len cap] W fun x w' => x = .returned (.bool false) ∧ W = w')) (BG1 : Hid (∀ W, Below w.heap.size w W → Calls Tryd.prog 8 #[.slice a1 len1 cap1] W fun x w' => x = .returned (.bool false) ∧ W = w')) (dl : decide ((10 : Int) < (len2 : Int)) = false) (CK : Hid (∀ W, Below w.heap.size w W → Calls Tryd.prog 20 #[.slice a len cap] W fun x w' => x = .returned (.int .i64 100) ∧ Below W.heap.size W w')) (AD : Hid (∀ W, Below w.heap.size w W → Calls Tryd.prog 14 #[] W fun x w' => x = .returned (.bool true) ∧ Below W.heap.size W w')) :
    Calls Tryd.prog 5 #[.slice a len cap, .slice a1 len1 cap1, .slice a2 len2 cap2, .int .i64 r, .int .i64 d] w fun x w' => x = .returned (.bool true) ∧ Below w.heap.size w w' := by
  have H0 : Hid (Below w.heap.size w w) := Below.refl _ _
  go_enter Tryd.func5, Tryd.ntmps5
  go_wp2_with fail
  refine (BG.out _ H0.out).mono ?_
  rintro x w1 ⟨rfl, rfl⟩
  clear BG
  go_wp2_with fail
  refine (BG1.out _ H0.out).mono ?_
  rintro x w1 ⟨rfl, rfl⟩
  clear BG1
  go_wp2_with fail
  refine (CK.out _ H0.out).mono ?_
  rintro x v1 ⟨rfl, hbj⟩
  have H1 := hidk (H0.out.trans (hbj.mono H0.out.size))
  clear hbj H0 CK
  go_wp2_with fail
  refine (AD.out _ H1.out).mono ?_
  rintro x v9 ⟨rfl, hb9⟩
  have HZ9 := hidk (H1.out.trans (hb9.mono H1.out.size))
  clear hb9
  go_wp2
  go_ret
  exact ⟨rfl, HZ9.out⟩
set_option maxHeartbeats 16000000 in
theorem grows_formo (w : World) (a : Option Addr) (len cap : Nat) (a1 : Option Addr) (len1 cap1 : Nat) (a2 : Option Addr) (len2 cap2 : Nat) (r d : Int) (BG : Hid (∀ W, Below w.heap.size w W → Calls Tryd.prog 8 #[.slice a len cap] W fun x w' => x = .returned (.bool false) ∧ W = w')) (BG1 : Hid (∀ W, Below w.heap.size w W → Calls Tryd.prog 8 #[.slice a1 len1 cap1] W fun x w' => x = .returned (.bool false) ∧ W = w')) (dl : decide ((10 : Int) < (len2 : Int)) = false) (CK : Hid (∀ W, Below w.heap.size w W → Calls Tryd.prog 20 #[.slice a len cap] W fun x w' => x = .returned (.int .i64 0) ∧ Below W.heap.size W w')) (CK1 : Hid (∀ W, Below w.heap.size w W → Calls Tryd.prog 20 #[.slice a1 len1 cap1] W fun x w' => x = .returned (.int .i64 100) ∧ Below W.heap.size W w')) (AD : Hid (∀ W, Below w.heap.size w W → Calls Tryd.prog 14 #[] W fun x w' => x = .returned (.bool true) ∧ Below W.heap.size W w')) :
    Calls Tryd.prog 5 #[.slice a len cap, .slice a1 len1 cap1, .slice a2 len2 cap2, .int .i64 r, .int .i64 d] w fun x w' => x = .returned (.bool true) ∧ Below w.heap.size w w' := by
  have H0 : Hid (Below w.heap.size w w) := Below.refl _ _
  go_enter Tryd.func5, Tryd.ntmps5
  go_wp2_with fail
  refine (BG.out _ H0.out).mono ?_
  rintro x w1 ⟨rfl, rfl⟩
  clear BG
  go_wp2_with fail
  refine (BG1.out _ H0.out).mono ?_
  rintro x w1 ⟨rfl, rfl⟩
  clear BG1
  go_wp2_with fail
  refine (CK.out _ H0.out).mono ?_
  rintro x v1 ⟨rfl, hbj⟩
  have H1 := hidk (H0.out.trans (hbj.mono H0.out.size))
  clear hbj H0 CK
  go_wp2_with fail
  refine (CK1.out _ H1.out).mono ?_
  rintro x v2 ⟨rfl, hbj⟩
  have H2 := hidk (H1.out.trans (hbj.mono H1.out.size))
  clear hbj H1 CK1
  go_wp2_with fail
  refine (AD.out _ H2.out).mono ?_
  rintro x v9 ⟨rfl, hb9⟩
  have HZ9 := hidk (H2.out.trans (hb9.mono H2.out.size))
  clear hb9
  go_wp2
  go_ret
  exact ⟨rfl, HZ9.out⟩
set_option maxHeartbeats 16000000 in
theorem grows_r1 (w : World) (a : Option Addr) (len cap : Nat) (a1 : Option Addr) (len1 cap1 : Nat) (a2 : Option Addr) (len2 cap2 : Nat) (r d : Int) (BG : Hid (∀ W, Below w.heap.size w W → Calls Tryd.prog 8 #[.slice a len cap] W fun x w' => x = .returned (.bool false) ∧ W = w')) (BG1 : Hid (∀ W, Below w.heap.size w W → Calls Tryd.prog 8 #[.slice a1 len1 cap1] W fun x w' => x = .returned (.bool false) ∧ W = w')) (dl : decide ((10 : Int) < (len2 : Int)) = false) (CK : Hid (∀ W, Below w.heap.size w W → Calls Tryd.prog 20 #[.slice a len cap] W fun x w' => x = .returned (.int .i64 0) ∧ Below W.heap.size W w')) (CK1 : Hid (∀ W, Below w.heap.size w W → Calls Tryd.prog 20 #[.slice a1 len1 cap1] W fun x w' => x = .returned (.int .i64 0) ∧ Below W.heap.size W w')) (d1 : decide (r < (1 : Int)) = true) (AD : Hid (∀ W, Below w.heap.size w W → Calls Tryd.prog 14 #[] W fun x w' => x = .returned (.bool true) ∧ Below W.heap.size W w')) :
    Calls Tryd.prog 5 #[.slice a len cap, .slice a1 len1 cap1, .slice a2 len2 cap2, .int .i64 r, .int .i64 d] w fun x w' => x = .returned (.bool true) ∧ Below w.heap.size w w' := by
  have H0 : Hid (Below w.heap.size w w) := Below.refl _ _
  go_enter Tryd.func5, Tryd.ntmps5
  go_wp2_with fail
  refine (BG.out _ H0.out).mono ?_
  rintro x w1 ⟨rfl, rfl⟩
  clear BG
  go_wp2_with fail
  refine (BG1.out _ H0.out).mono ?_
  rintro x w1 ⟨rfl, rfl⟩
  clear BG1
  go_wp2_with fail
  refine (CK.out _ H0.out).mono ?_
  rintro x v1 ⟨rfl, hbj⟩
  have H1 := hidk (H0.out.trans (hbj.mono H0.out.size))
  clear hbj H0 CK
  go_wp2_with fail
  refine (CK1.out _ H1.out).mono ?_
  rintro x v2 ⟨rfl, hbj⟩
  have H2 := hidk (H1.out.trans (hbj.mono H1.out.size))
  clear hbj H1 CK1
  go_wp2_with fail
  refine (AD.out _ H2.out).mono ?_
  rintro x v9 ⟨rfl, hb9⟩
  have HZ9 := hidk (H2.out.trans (hb9.mono H2.out.size))
  clear hb9
  go_wp2
  go_ret
  exact ⟨rfl, HZ9.out⟩
set_option maxHeartbeats 16000000 in
theorem grows_r2 (w : World) (a : Option Addr) (len cap : Nat) (a1 : Option Addr) (len1 cap1 : Nat) (a2 : Option Addr) (len2 cap2 : Nat) (r d : Int) (BG : Hid (∀ W, Below w.heap.size w W → Calls Tryd.prog 8 #[.slice a len cap] W fun x w' => x = .returned (.bool false) ∧ W = w')) (BG1 : Hid (∀ W, Below w.heap.size w W → Calls Tryd.prog 8 #[.slice a1 len1 cap1] W fun x w' => x = .returned (.bool false) ∧ W = w')) (dl : decide ((10 : Int) < (len2 : Int)) = false) (CK : Hid (∀ W, Below w.heap.size w W → Calls Tryd.prog 20 #[.slice a len cap] W fun x w' => x = .returned (.int .i64 0) ∧ Below W.heap.size W w')) (CK1 : Hid (∀ W, Below w.heap.size w W → Calls Tryd.prog 20 #[.slice a1 len1 cap1] W fun x w' => x = .returned (.int .i64 0) ∧ Below W.heap.size W w')) (d1 : decide (r < (1 : Int)) = false) (d2 : decide ((5 : Int) < r) = true) (AD : Hid (∀ W, Below w.heap.size w W → Calls Tryd.prog 14 #[] W fun x w' => x = .returned (.bool true) ∧ Below W.heap.size W w')) :
    Calls Tryd.prog 5 #[.slice a len cap, .slice a1 len1 cap1, .slice a2 len2 cap2, .int .i64 r, .int .i64 d] w fun x w' => x = .returned (.bool true) ∧ Below w.heap.size w w' := by
  have H0 : Hid (Below w.heap.size w w) := Below.refl _ _
  go_enter Tryd.func5, Tryd.ntmps5
  go_wp2_with fail
  refine (BG.out _ H0.out).mono ?_
  rintro x w1 ⟨rfl, rfl⟩
  clear BG
  go_wp2_with fail
  refine (BG1.out _ H0.out).mono ?_
  rintro x w1 ⟨rfl, rfl⟩
  clear BG1
  go_wp2_with fail
  refine (CK.out _ H0.out).mono ?_
  rintro x v1 ⟨rfl, hbj⟩
  have H1 := hidk (H0.out.trans (hbj.mono H0.out.size))
  clear hbj H0 CK
  go_wp2_with fail
  refine (CK1.out _ H1.out).mono ?_
  rintro x v2 ⟨rfl, hbj⟩
  have H2 := hidk (H1.out.trans (hbj.mono H1.out.size))
  clear hbj H1 CK1
  go_wp2_with fail
  refine (AD.out _ H2.out).mono ?_
  rintro x v9 ⟨rfl, hb9⟩
  have HZ9 := hidk (H2.out.trans (hb9.mono H2.out.size))
  clear hb9
  go_wp2
  go_ret
  exact ⟨rfl, HZ9.out⟩
set_option maxHeartbeats 16000000 in
theorem grows_d1 (w : World) (a : Option Addr) (len cap : Nat) (a1 : Option Addr) (len1 cap1 : Nat) (a2 : Option Addr) (len2 cap2 : Nat) (r d : Int) (BG : Hid (∀ W, Below w.heap.size w W → Calls Tryd.prog 8 #[.slice a len cap] W fun x w' => x = .returned (.bool false) ∧ W = w')) (BG1 : Hid (∀ W, Below w.heap.size w W → Calls Tryd.prog 8 #[.slice a1 len1 cap1] W fun x w' => x = .returned (.bool false) ∧ W = w')) (dl : decide ((10 : Int) < (len2 : Int)) = false) (CK : Hid (∀ W, Below w.heap.size w W → Calls Tryd.prog 20 #[.slice a len cap] W fun x w' => x = .returned (.int .i64 0) ∧ Below W.heap.size W w')) (CK1 : Hid (∀ W, Below w.heap.size w W → Calls Tryd.prog 20 #[.slice a1 len1 cap1] W fun x w' => x = .returned (.int .i64 0) ∧ Below W.heap.size W w')) (d1 : decide (r < (1 : Int)) = false) (d2 : decide ((5 : Int) < r) = false) (d3 : decide (d < (1 : Int)) = true) (AD : Hid (∀ W, Below w.heap.size w W → Calls Tryd.prog 14 #[] W fun x w' => x = .returned (.bool true) ∧ Below W.heap.size W w')) :
    Calls Tryd.prog 5 #[.slice a len cap, .slice a1 len1 cap1, .slice a2 len2 cap2, .int .i64 r, .int .i64 d] w fun x w' => x = .returned (.bool true) ∧ Below w.heap.size w w' := by
  have H0 : Hid (Below w.heap.size w w) := Below.refl _ _
  go_enter Tryd.func5, Tryd.ntmps5
  go_wp2_with fail
  refine (BG.out _ H0.out).mono ?_
  rintro x w1 ⟨rfl, rfl⟩
  clear BG
  go_wp2_with fail
  refine (BG1.out _ H0.out).mono ?_
  rintro x w1 ⟨rfl, rfl⟩
  clear BG1
  go_wp2_with fail
  refine (CK.out _ H0.out).mono ?_
  rintro x v1 ⟨rfl, hbj⟩
  have H1 := hidk (H0.out.trans (hbj.mono H0.out.size))
  clear hbj H0 CK
  go_wp2_with fail
  refine (CK1.out _ H1.out).mono ?_
  rintro x v2 ⟨rfl, hbj⟩
  have H2 := hidk (H1.out.trans (hbj.mono H1.out.size))
  clear hbj H1 CK1
  go_wp2_with fail
  refine (AD.out _ H2.out).mono ?_
  rintro x v9 ⟨rfl, hb9⟩
  have HZ9 := hidk (H2.out.trans (hb9.mono H2.out.size))
  clear hb9
  go_wp2
  go_ret
  exact ⟨rfl, HZ9.out⟩
set_option maxHeartbeats 16000000 in
theorem grows_d2 (w : World) (a : Option Addr) (len cap : Nat) (a1 : Option Addr) (len1 cap1 : Nat) (a2 : Option Addr) (len2 cap2 : Nat) (r d : Int) (BG : Hid (∀ W, Below w.heap.size w W → Calls Tryd.prog 8 #[.slice a len cap] W fun x w' => x = .returned (.bool false) ∧ W = w')) (BG1 : Hid (∀ W, Below w.heap.size w W → Calls Tryd.prog 8 #[.slice a1 len1 cap1] W fun x w' => x = .returned (.bool false) ∧ W = w')) (dl : decide ((10 : Int) < (len2 : Int)) = false) (CK : Hid (∀ W, Below w.heap.size w W → Calls Tryd.prog 20 #[.slice a len cap] W fun x w' => x = .returned (.int .i64 0) ∧ Below W.heap.size W w')) (CK1 : Hid (∀ W, Below w.heap.size w W → Calls Tryd.prog 20 #[.slice a1 len1 cap1] W fun x w' => x = .returned (.int .i64 0) ∧ Below W.heap.size W w')) (d1 : decide (r < (1 : Int)) = false) (d2 : decide ((5 : Int) < r) = false) (d3 : decide (d < (1 : Int)) = false) (d4 : decide ((3 : Int) < d) = true) (AD : Hid (∀ W, Below w.heap.size w W → Calls Tryd.prog 14 #[] W fun x w' => x = .returned (.bool true) ∧ Below W.heap.size W w')) :
    Calls Tryd.prog 5 #[.slice a len cap, .slice a1 len1 cap1, .slice a2 len2 cap2, .int .i64 r, .int .i64 d] w fun x w' => x = .returned (.bool true) ∧ Below w.heap.size w w' := by
  have H0 : Hid (Below w.heap.size w w) := Below.refl _ _
  go_enter Tryd.func5, Tryd.ntmps5
  go_wp2_with fail
  refine (BG.out _ H0.out).mono ?_
  rintro x w1 ⟨rfl, rfl⟩
  clear BG
  go_wp2_with fail
  refine (BG1.out _ H0.out).mono ?_
  rintro x w1 ⟨rfl, rfl⟩
  clear BG1
  go_wp2_with fail
  refine (CK.out _ H0.out).mono ?_
  rintro x v1 ⟨rfl, hbj⟩
  have H1 := hidk (H0.out.trans (hbj.mono H0.out.size))
  clear hbj H0 CK
  go_wp2_with fail
  refine (CK1.out _ H1.out).mono ?_
  rintro x v2 ⟨rfl, hbj⟩
  have H2 := hidk (H1.out.trans (hbj.mono H1.out.size))
  clear hbj H1 CK1
  go_wp2_with fail
  refine (AD.out _ H2.out).mono ?_
  rintro x v9 ⟨rfl, hb9⟩
  have HZ9 := hidk (H2.out.trans (hb9.mono H2.out.size))
  clear hb9
  go_wp2
  go_ret
  exact ⟨rfl, HZ9.out⟩
set_option maxHeartbeats 16000000 in
theorem grows_there (w : World) (a : Option Addr) (len cap : Nat) (a1 : Option Addr) (len1 cap1 : Nat) (a2 : Option Addr) (len2 cap2 : Nat) (r d : Int) (BG : Hid (∀ W, Below w.heap.size w W → Calls Tryd.prog 8 #[.slice a len cap] W fun x w' => x = .returned (.bool false) ∧ W = w')) (BG1 : Hid (∀ W, Below w.heap.size w W → Calls Tryd.prog 8 #[.slice a1 len1 cap1] W fun x w' => x = .returned (.bool false) ∧ W = w')) (dl : decide ((10 : Int) < (len2 : Int)) = false) (CK : Hid (∀ W, Below w.heap.size w W → Calls Tryd.prog 20 #[.slice a len cap] W fun x w' => x = .returned (.int .i64 0) ∧ Below W.heap.size W w')) (CK1 : Hid (∀ W, Below w.heap.size w W → Calls Tryd.prog 20 #[.slice a1 len1 cap1] W fun x w' => x = .returned (.int .i64 0) ∧ Below W.heap.size W w')) (d1 : decide (r < (1 : Int)) = false) (d2 : decide ((5 : Int) < r) = false) (d3 : decide (d < (1 : Int)) = false) (d4 : decide ((3 : Int) < d) = false) (AD : Hid (∀ W, Below w.heap.size w W → Calls Tryd.prog 14 #[] W fun x w' => x = .returned (.bool true) ∧ Below W.heap.size W w')) (T ZS : Array Value) (HST : Hid ((Tryd.prog.info? 30).map (·.size) = some T.size)) (H1T : Hid (T.all (·.oneCell') = true)) (HAS : Hid ((Tryd.prog.info? 30).map (fun i => (i.zero, i.size)) = some (some (.agg ZS), ZS.size))) (HZT : Hid (ZS.size = T.size)) (LT : Hid (∀ W, Below w.heap.size w W → Calls Tryd.prog 10 #[.slice a1 len1 cap1, .int .i64 r] W fun x w' => x = .returned (.tuple #[.agg T, .bool true]) ∧ Below W.heap.size W w')) :
    Calls Tryd.prog 5 #[.slice a len cap, .slice a1 len1 cap1, .slice a2 len2 cap2, .int .i64 r, .int .i64 d] w fun x w' => x = .returned (.bool true) ∧ Below w.heap.size w w' := by
  have H0 : Hid (Below w.heap.size w w) := Below.refl _ _
  go_enter Tryd.func5, Tryd.ntmps5
  go_wp2_with fail
  refine (BG.out _ H0.out).mono ?_
  rintro x w1 ⟨rfl, rfl⟩
  clear BG
  go_wp2_with fail
  refine (BG1.out _ H0.out).mono ?_
  rintro x w1 ⟨rfl, rfl⟩
  clear BG1
  go_wp2_with fail
  refine (CK.out _ H0.out).mono ?_
  rintro x v1 ⟨rfl, hbj⟩
  have H1 := hidk (H0.out.trans (hbj.mono H0.out.size))
  clear hbj H0 CK
  go_wp2_with fail
  refine (CK1.out _ H1.out).mono ?_
  rintro x v2 ⟨rfl, hbj⟩
  have H2 := hidk (H1.out.trans (hbj.mono H1.out.size))
  clear hbj H1 CK1
  go_wp2_with fail
  refine (LT.out _ H2.out).mono ?_
  rintro x v3 ⟨rfl, hbj⟩
  have H3 := hidk (H2.out.trans (hbj.mono H2.out.size))
  clear hbj H2 LT
  go_wp2_with (first
    | ((with_reducible show aD 11 _ _ _ _ _ _ _ _ _ _ _); refine wpList_new_var rfl 30 rfl ZS HAS.out ?_; intro g11 v4 HM11; have HR11 := hidk HM11.out.row; try simp only [Act.put, pS1, pS2, pS3])
    | (refine wpList_set_var rfl 30 (.tmp 11) (.tmp 66) rfl g11 T rfl rfl 30 ZS HR11.out HST.out HZT.out H1T.out ?_; intro v5 HW11; have hb5 : Below v3.heap.size v3 v5 := HW11.out.below _ _ HM11.out.below (by rw [HM11.out.new]; exact Nat.le_refl _); have H5 := hidk (H3.out.trans (hb5.mono H3.out.size)); clear hb5 HM11 HR11 HW11; try simp only [Act.put, pS1, pS2, pS3])
    | fail)
  refine (AD.out _ H5.out).mono ?_
  rintro x v9 ⟨rfl, hb9⟩
  have HZ9 := hidk (H5.out.trans (hb9.mono H5.out.size))
  clear hb9
  go_wp2
  go_ret
  exact ⟨rfl, HZ9.out⟩
set_option maxHeartbeats 16000000 in
theorem grows_none (w : World) (a : Option Addr) (len cap : Nat) (a1 : Option Addr) (len1 cap1 : Nat) (a2 : Option Addr) (len2 cap2 : Nat) (r d : Int) (BG : Hid (∀ W, Below w.heap.size w W → Calls Tryd.prog 8 #[.slice a len cap] W fun x w' => x = .returned (.bool false) ∧ W = w')) (BG1 : Hid (∀ W, Below w.heap.size w W → Calls Tryd.prog 8 #[.slice a1 len1 cap1] W fun x w' => x = .returned (.bool false) ∧ W = w')) (dl : decide ((10 : Int) < (len2 : Int)) = false) (CK : Hid (∀ W, Below w.heap.size w W → Calls Tryd.prog 20 #[.slice a len cap] W fun x w' => x = .returned (.int .i64 0) ∧ Below W.heap.size W w')) (CK1 : Hid (∀ W, Below w.heap.size w W → Calls Tryd.prog 20 #[.slice a1 len1 cap1] W fun x w' => x = .returned (.int .i64 0) ∧ Below W.heap.size W w')) (d1 : decide (r < (1 : Int)) = false) (d2 : decide ((5 : Int) < r) = false) (d3 : decide (d < (1 : Int)) = false) (d4 : decide ((3 : Int) < d) = false) (AD : Hid (∀ W, Below w.heap.size w W → Calls Tryd.prog 14 #[] W fun x w' => x = .returned (.bool true) ∧ Below W.heap.size W w')) (T ZS : Array Value) (HST : Hid ((Tryd.prog.info? 30).map (·.size) = some T.size)) (H1T : Hid (T.all (·.oneCell') = true)) (HAS : Hid ((Tryd.prog.info? 30).map (fun i => (i.zero, i.size)) = some (some (.agg ZS), ZS.size))) (HZT : Hid (ZS.size = T.size)) (LT : Hid (∀ W, Below w.heap.size w W → Calls Tryd.prog 10 #[.slice a1 len1 cap1, .int .i64 r] W fun x w' => x = .returned (.tuple #[.agg T, .bool false]) ∧ Below W.heap.size W w')) (hd : HeadC) (an : AnchorsC) (hc : HistoryC) (hT : TabH w) (l o : List ItT) (ns : List Int) (e : Int) (he1 : e = 1) (hin : InL w a len cap l) (hl : rightL l = true) (hr : 1 ≤ r ∧ r ≤ 5) (hdn : 1 ≤ d ∧ d ≤ 3) (he : 1 ≤ e ∧ e ≤ 900000000) (h2 : NReads w a2 len2 cap2 ns) (hle2 : len2 ≤ 10) (hio : ∀ y ∈ o, InI y ∧ OkE y.e) (hg0 : GrO l o r e 0 0) (OW : Hid (∀ W, Below w.heap.size w W → Calls Tryd.prog 9 #[.slice a1 len1 cap1] W fun x w' => ∃ v, x = .returned v ∧ w'.ownsRow W.heap.size 48 110 v len1 (icL o) ∧ Below W.heap.size W w')) (h00 : len1 = 0) :
    Calls Tryd.prog 5 #[.slice a len cap, .slice a1 len1 cap1, .slice a2 len2 cap2, .int .i64 r, .int .i64 d] w fun x w' => x = .returned (.bool true) ∧ Below w.heap.size w w' := by
  have HN := hidk h2
  have hlen : Hid (l.length = len) := hin.rd.ln
  obtain ⟨ZH, HZH0, HAH, HBH, N36⟩ := noughtsH
  obtain ⟨ZS2, HZS2, HAS2, HBS2, N69⟩ := noughtsS
  obtain rfl : ZS = ZS2 := by have := HAS.out.symm.trans HAS2.out; simp only [Option.some.injEq, Prod.mk.injEq] at this; exact Value.agg.inj this.1
  have GC := hidk (fun (all : List ItT) (last : Int) (k : Nat) (n : Int) (g : GrO l all r e last k) (hk : k ≤ 10) (hn : last ≤ n ∧ n ≤ l.length) => grow_calls hd an hc hin hl hr hdn he hT g hk n hn)
  have CC : Hid (∀ (aa : Option Addr) (la ca : Nat) (all : List ItT) (W : World) (h : InL W aa la ca all), Calls Tryd.prog 20 #[.slice aa la ca] W fun e w' => e = .returned (.int .i64 (chkE all)) ∧ Below W.heap.size W w') := fun aa la ca all W h => hc.check aa la ca all W h
  have HIO := hidk hio
  have HG0 := hidk hg0
  clear hd an hc hT hin hl h2 hio hg0 HZH0 HBH HZS2 HBS2 HAS2
  subst h00
  have H0 : Hid (Below w.heap.size w w) := Below.refl _ _
  go_enter Tryd.func5, Tryd.ntmps5
  go_wp2_with fail
  refine (BG.out _ H0.out).mono ?_
  rintro x w1 ⟨rfl, rfl⟩
  clear BG
  go_wp2_with fail
  refine (BG1.out _ H0.out).mono ?_
  rintro x w1 ⟨rfl, rfl⟩
  clear BG1
  go_wp2_with fail
  refine (CK.out _ H0.out).mono ?_
  rintro x v1 ⟨rfl, hbj⟩
  have H1 := hidk (H0.out.trans (hbj.mono H0.out.size))
  clear hbj H0 CK
  go_wp2_with fail
  refine (CK1.out _ H1.out).mono ?_
  rintro x v2 ⟨rfl, hbj⟩
  have H2 := hidk (H1.out.trans (hbj.mono H1.out.size))
  clear hbj H1 CK1
  go_wp2_with fail
  refine (LT.out _ H2.out).mono ?_
  rintro x v3 ⟨rfl, hbj⟩
  have H3 := hidk (H2.out.trans (hbj.mono H2.out.size))
  clear hbj H2 LT
  go_wp2_with (first
    | ((with_reducible show aD 11 _ _ _ _ _ _ _ _ _ _ _); refine wpList_new_var rfl 30 rfl ZS HAS.out ?_; intro g11 v4 HM11; have HR11 := hidk HM11.out.row; try simp only [Act.put, pS1, pS2, pS3])
    | (refine wpList_set_var rfl 30 (.tmp 11) (.tmp 66) rfl g11 T rfl rfl 30 ZS HR11.out HST.out HZT.out H1T.out ?_; intro v5 HW11; have hb5 : Below v3.heap.size v3 v5 := HW11.out.below _ _ HM11.out.below (by rw [HM11.out.new]; exact Nat.le_refl _); have H5 := hidk (H3.out.trans (hb5.mono H3.out.size)); clear hb5 HM11 HR11 HW11; try simp only [Act.put, pS1, pS2, pS3])
    | fail)
  refine (OW.out _ H5.out).mono ?_
  rintro x v6 ⟨vo, rfl, ho, hb6⟩
  obtain ⟨ao, co, rfl, _, _, _⟩ := IReads.own ho (fun y hy => (HIO.out y hy).2)
  have HO6 := hidk ho
  have HB6 := hidk hb6
  have HU := H5
  clear ho hb6 OW
  subst he1
  go_wp2
  go_loopw [13, 15, 16] (fun va vl vi wr => ∃ (k : Nat) (all : List ItT) (aa : Option Addr) (la ca : Nat) (last : Int), k ≤ len2 ∧ vi = .int .i64 k ∧ vl = .int .i64 last ∧ va = .slice aa la ca ∧ Hid (GrO l all r 1 last k) ∧ Hid (∀ y ∈ all, InI y ∧ OkE y.e) ∧ Hid (wr.ownsRow v5.heap.size 48 110 (.slice aa la ca) la (icL all)) ∧ Hid (Below v5.heap.size v5 wr)) (fun _ _ vi _ => len2 - (intOf vi).toNat)
  case atStart => exact ⟨0, o, ao, _, co, 0, by omega, rfl, rfl, rfl, HG0, HIO, HO6, HB6⟩
  case round =>
    obtain ⟨k, all, aa, la, ca, last, hk, rfl, rfl, rfl, HG, HIA, HOW, HBU⟩ := hrel
    have hz := HG.out.zn
    have HBr := hidk (HU.out.trans (HBU.out.mono HU.out.size))
    by_cases hlt : k < len2
    · have hd1 : decide ((k : Int) < (len2 : Int)) = true := by rw [decide_eq_true_eq]; omega
      have hw1 := wrap_int ((k : Int) + 1) (by omega) (by omega)
      obtain ⟨g, oo, rfl, hg⟩ := HN.out.at (by omega)
      have hkl : k < ns.length := by have := HN.out.ln; omega
      have ix := fun W => index_num W g oo len2 cap2 k hlt
      obtain ⟨nn, Hnn⟩ : ∃ n, Hid (ns[k] = n) := ⟨_, hidk rfl⟩
      have cN : wr.cell? ⟨g, oo + k, none⟩ = some (.int .i64 nn) := by rw [← Hnn.out]; exact (HN.out.keep HBr.out).cell k hkl
      by_cases h5 : nn < last
      · have d5 : decide (nn < last) = true := decide_eq_true h5
        clear h5 Hnn hz
        go_wp2
        go_roundw
        case rel => exact ⟨k + 1, all, aa, la, ca, last, by omega, by go_num, rfl, rfl, HG.out.more, HIA, HOW, HBU⟩
        case measure => simp [intOf]; omega
      · have d5 : decide (nn < last) = false := decide_eq_false h5
        by_cases h6 : (len : Int) < nn
        · have d6 : decide ((len : Int) < nn) = true := decide_eq_true h6
          clear h5 h6 Hnn hz
          go_wp2
          go_roundw
          case rel => exact ⟨k + 1, all, aa, la, ca, last, by omega, by go_num, rfl, rfl, HG.out.more, HIA, HOW, HBU⟩
          case measure => simp [intOf]; omega
        · have d6 : decide ((len : Int) < nn) = false := decide_eq_false h6
          have hll := hlen.out
          obtain ⟨x, H, S, X, K, P, ⟨okx, inx, gx⟩, ⟨HSH, H1H, NH⟩, ⟨HSS, H1S, NS⟩, HX, HBK, HEA, SI, CN, AM, IT⟩ := GC.out all last k nn HG.out (by omega) (by omega)
          have HZH : Hid (ZH.size = H.size) := by show _ = _; rw [N36.out, NH.out]
          have HZS : Hid (ZS.size = S.size) := by show _ = _; rw [N69.out, NS.out]
          have hal : all.length ≤ 70 := by have := HG.out.len; omega
          have HGX := hidk gx
          have HOKX := hidk okx
          have HINX := hidk inx
          clear gx okx inx Hnn hz NH NS h5 h6 hll
          go_wp2_with fail
          refine (HEA.out _ HBr.out).mono ?_
          rintro x1 v1 ⟨rfl, hbj⟩
          have B1 := hidk (HBU.out.trans (hbj.mono HBU.out.size))
          have O1 := hidk (own_below HOW.out hbj)
          clear hbj HEA HBU HOW
          go_wp2_with (first
            | ((with_reducible show aD 18 _ _ _ _ _ _ _ _ _ _ _); refine wpList_new_var rfl 28 rfl ZH HAH.out ?_; intro g18 v2 HM18; have HR18 := hidk HM18.out.row; try simp only [Act.put, pS1, pS2, pS3])
            | (refine wpList_set_var rfl 28 (.tmp 18) (.tmp 107) rfl g18 H rfl rfl 28 ZH HR18.out HSH.out HZH.out H1H.out ?_; intro v3 HW18; have hbj : Below v1.heap.size v1 v3 := HW18.out.below _ _ HM18.out.below (by rw [HM18.out.new]; exact Nat.le_refl _); have B3 := hidk (B1.out.trans (hbj.mono B1.out.size)); have O3 := hidk (own_below O1.out hbj); have R18 := hidk HW18.out.row; clear hbj HM18 HR18 HW18; try simp only [Act.put, pS1, pS2, pS3])
            | ((with_reducible show aD 110 _ _ _ _ _ _ _ _ _ _ _); refine wpList_build_some_w (by rfl) 38 _ rfl [] rfl K HBK.out ?_; try simp only [Act.put, pS1, pS2, pS3])
            | ((with_reducible show aD 111 _ _ _ _ _ _ _ _ _ _ _); refine wpList_load_row_w (by rfl) 28 (.tmp 18) rfl g18 rfl 28 H (0, 0) _ R18.out Tryd.underlying28 rfl HSH.out ?_; try simp only [Act.put, pS1, pS2, pS3])
            | fail)
          refine (SI.out _ (HU.out.trans (B3.out.mono HU.out.size))).mono ?_
          rintro x1 v4 ⟨rfl, hbj⟩
          have B4 := hidk (B3.out.trans (hbj.mono B3.out.size))
          have O4 := hidk (own_below O3.out hbj)
          clear hbj SI B1 B3 O1 O3 R18
          go_wp2_with (first
            | ((with_reducible show aD 20 _ _ _ _ _ _ _ _ _ _ _); refine wpList_new_var rfl 30 rfl ZS HAS.out ?_; intro g20 v5 HM20; have HR20 := hidk HM20.out.row; try simp only [Act.put, pS1, pS2, pS3])
            | (refine wpList_set_var rfl 30 (.tmp 20) (.tmp 114) rfl g20 S rfl rfl 30 ZS HR20.out HSS.out HZS.out H1S.out ?_; intro v6 HW20; have hbj : Below v4.heap.size v4 v6 := HW20.out.below _ _ HM20.out.below (by rw [HM20.out.new]; exact Nat.le_refl _); have B6 := hidk (B4.out.trans (hbj.mono B4.out.size)); have O6 := hidk (own_below O4.out hbj); have R20 := hidk HW20.out.row; clear hbj HM20 HR20 HW20; try simp only [Act.put, pS1, pS2, pS3])
            | fail)
          refine (CN.out _ (HU.out.trans (B6.out.mono HU.out.size))).mono ?_
          rintro x1 v7 ⟨px, pl, cx, rfl, hp7, hbj⟩
          have B7 := hidk (B6.out.trans (hbj.mono B6.out.size))
          have O7 := hidk (own_below O6.out hbj)
          have R7 := hidk ((hbj.block _ (heap_lt R20.out)).trans R20.out)
          have HP7 := hidk hp7
          clear hbj CN B4 B6 O4 O6 R20 hp7
          go_wp2_with (first
            | ((with_reducible show aD 134 _ _ _ _ _ _ _ _ _ _ _); refine wpList_build_some_w (by rfl) 38 _ rfl [] rfl K HBK.out ?_; try simp only [Act.put, pS1, pS2, pS3])
            | ((with_reducible show aD 136 _ _ _ _ _ _ _ _ _ _ _); refine wpList_load_row_w (by rfl) 30 (.tmp 20) rfl g20 rfl 30 S (0, 0) _ R7.out Tryd.underlying30 rfl HSS.out ?_; try simp only [Act.put, pS1, pS2, pS3])
            | fail)
          refine (AM.out _ _ _ _ _ _ _ (HU.out.trans (B7.out.mono HU.out.size)) (own_inL O7.out HIA.out (by omega)) HP7.out).mono ?_
          rintro x1 v8 ⟨rfl, hbj⟩
          have B8 := hidk (B7.out.trans (hbj.mono B7.out.size))
          have O8 := hidk (own_below O7.out hbj)
          have R8 := hidk ((hbj.block _ (heap_lt R7.out)).trans R7.out)
          clear hbj AM B7 O7 R7 HP7
          go_wp2_with (first
            | ((with_reducible show aD 144 _ _ _ _ _ _ _ _ _ _ _); refine wpList_load_row_w (by rfl) 30 (.tmp 20) rfl g20 rfl 30 S (0, 0) _ R8.out Tryd.underlying30 rfl HSS.out ?_; try simp only [Act.put, pS1, pS2, pS3])
            | fail)
          refine (IT.out _).mono ?_
          rintro x1 v9 ⟨rfl, hbj⟩
          have B9 := hidk (B8.out.trans (hbj.mono B8.out.size))
          have O9 := hidk (own_below O8.out hbj)
          clear hbj IT B8 O8 R8
          obtain ⟨bu, ab, cb, v10, ar, O10, B10⟩ := append_item HOKX.out X HX O9.out (fun y hy => (HIA.out y hy).2) B9.out (by have := (own_inL O9.out HIA.out (by omega)).rd.ln; omega)
          have HBU2 := hidk bu
          have HAR := hidk ar
          have HO10 := hidk O10
          have HB10 := hidk B10
          clear bu ar O10 B10 O9 B9 HX
          go_wp2_with (first
            | ((with_reducible show aD 146 _ _ _ _ _ _ _ _ _ _ _); refine wpList_build_run rfl 22 1 _ rfl #[(0, .agg X)] rfl _ _ HBU2.out ?_; try simp only [Act.put, pS1, pS2, pS3])
            | ((with_reducible show aD 147 _ _ _ _ _ _ _ _ _ _ _); refine wpList_append_runD rfl (.tmp 142) (.tmp 146) 22 22 rfl _ _ _ _ rfl rfl HAR.out ?_; try simp only [Act.put, pS1, pS2, pS3])
            | fail)
          go_roundw
          case rel => exact ⟨k + 1, all ++ [x], ab, la + 1, cb, nn, by omega, by go_num, rfl, rfl, HGX.out, (fun y hy => by
              rcases List.mem_append.1 hy with hy | hy
              · exact HIA.out y hy
              · rw [List.mem_singleton] at hy; rw [hy]; exact ⟨HINX.out, HOKX.out⟩), HO10, HB10⟩
          case measure => simp [intOf]; omega
    · obtain rfl : len2 = k := by omega
      have hd1 : decide ((len2 : Int) < (len2 : Int)) = false := by rw [decide_eq_false_iff_not]; omega
      have CA : Hid (∀ W, Below wr.heap.size wr W → Calls Tryd.prog 20 #[.slice aa la ca] W fun x w' => x = .returned (.int .i64 0) ∧ Below W.heap.size W w') := fun W hb => by
        have := CC.out aa la ca all W (own_inL (own_below HOW.out hb) HIA.out (by have := HG.out.len; omega))
        unfold chkE at this
        rwa [if_pos HG.out.right] at this
      clear hz CC GC HG HIA HOW
      go_wp2_with fail
      refine (AD.out _ HBr.out).mono ?_
      rintro x v1 ⟨rfl, hb1⟩
      have B1 := hidk (HBr.out.trans (hb1.mono HBr.out.size))
      have CA1 := hidk (CA.out _ hb1)
      clear hb1 CA
      go_wp2_with fail
      refine CA1.out.mono ?_
      rintro x v2 ⟨rfl, hb2⟩
      have HZ9 := hidk (B1.out.trans (hb2.mono B1.out.size))
      clear hb2
      go_wp2
      go_ret
      exact ⟨rfl, HZ9.out⟩
set_option maxHeartbeats 16000000 in
theorem grows_some (w : World) (a : Option Addr) (len cap : Nat) (a1 : Option Addr) (len1 cap1 : Nat) (a2 : Option Addr) (len2 cap2 : Nat) (r d : Int) (BG : Hid (∀ W, Below w.heap.size w W → Calls Tryd.prog 8 #[.slice a len cap] W fun x w' => x = .returned (.bool false) ∧ W = w')) (BG1 : Hid (∀ W, Below w.heap.size w W → Calls Tryd.prog 8 #[.slice a1 len1 cap1] W fun x w' => x = .returned (.bool false) ∧ W = w')) (dl : decide ((10 : Int) < (len2 : Int)) = false) (CK : Hid (∀ W, Below w.heap.size w W → Calls Tryd.prog 20 #[.slice a len cap] W fun x w' => x = .returned (.int .i64 0) ∧ Below W.heap.size W w')) (CK1 : Hid (∀ W, Below w.heap.size w W → Calls Tryd.prog 20 #[.slice a1 len1 cap1] W fun x w' => x = .returned (.int .i64 0) ∧ Below W.heap.size W w')) (d1 : decide (r < (1 : Int)) = false) (d2 : decide ((5 : Int) < r) = false) (d3 : decide (d < (1 : Int)) = false) (d4 : decide ((3 : Int) < d) = false) (AD : Hid (∀ W, Below w.heap.size w W → Calls Tryd.prog 14 #[] W fun x w' => x = .returned (.bool true) ∧ Below W.heap.size W w')) (T ZS : Array Value) (HST : Hid ((Tryd.prog.info? 30).map (·.size) = some T.size)) (H1T : Hid (T.all (·.oneCell') = true)) (HAS : Hid ((Tryd.prog.info? 30).map (fun i => (i.zero, i.size)) = some (some (.agg ZS), ZS.size))) (HZT : Hid (ZS.size = T.size)) (LT : Hid (∀ W, Below w.heap.size w W → Calls Tryd.prog 10 #[.slice a1 len1 cap1, .int .i64 r] W fun x w' => x = .returned (.tuple #[.agg T, .bool false]) ∧ Below W.heap.size W w')) (hd : HeadC) (an : AnchorsC) (hc : HistoryC) (hT : TabH w) (l o : List ItT) (ns : List Int) (e : Int) (hin : InL w a len cap l) (hl : rightL l = true) (hr : 1 ≤ r ∧ r ≤ 5) (hdn : 1 ≤ d ∧ d ≤ 3) (he : 1 ≤ e ∧ e ≤ 900000000) (h2 : NReads w a2 len2 cap2 ns) (hle2 : len2 ≤ 10) (hio : ∀ y ∈ o, InI y ∧ OkE y.e) (hg0 : GrO l o r e 0 0) (OW : Hid (∀ W, Below w.heap.size w W → Calls Tryd.prog 9 #[.slice a1 len1 cap1] W fun x w' => ∃ v, x = .returned v ∧ w'.ownsRow W.heap.size 48 110 v len1 (icL o) ∧ Below W.heap.size W w')) (g1 o1 : Nat) (ha1 : a1 = some ⟨g1, o1, none⟩) (hg1 : g1 < w.heap.size) (m1 : Nat) (hm1 : len1 = m1 + 1) (hmx : m1 ≤ 100) (cE : w.cell? ⟨g1, o1 + 110 * m1, none⟩ = some (.int .i64 e)) :
    Calls Tryd.prog 5 #[.slice a len cap, .slice a1 len1 cap1, .slice a2 len2 cap2, .int .i64 r, .int .i64 d] w fun x w' => x = .returned (.bool true) ∧ Below w.heap.size w w' := by
  have HN := hidk h2
  have hlen : Hid (l.length = len) := hin.rd.ln
  obtain ⟨ZH, HZH0, HAH, HBH, N36⟩ := noughtsH
  obtain ⟨ZS2, HZS2, HAS2, HBS2, N69⟩ := noughtsS
  obtain rfl : ZS = ZS2 := by have := HAS.out.symm.trans HAS2.out; simp only [Option.some.injEq, Prod.mk.injEq] at this; exact Value.agg.inj this.1
  have GC := hidk (fun (all : List ItT) (last : Int) (k : Nat) (n : Int) (g : GrO l all r e last k) (hk : k ≤ 10) (hn : last ≤ n ∧ n ≤ l.length) => grow_calls hd an hc hin hl hr hdn he hT g hk n hn)
  have CC : Hid (∀ (aa : Option Addr) (la ca : Nat) (all : List ItT) (W : World) (h : InL W aa la ca all), Calls Tryd.prog 20 #[.slice aa la ca] W fun e w' => e = .returned (.int .i64 (chkE all)) ∧ Below W.heap.size W w') := fun aa la ca all W h => hc.check aa la ca all W h
  have HIO := hidk hio
  have HG0 := hidk hg0
  clear hd an hc hT hin hl h2 hio hg0 HZH0 HBH HZS2 HBS2 HAS2
  subst hm1
  subst ha1
  have H0 : Hid (Below w.heap.size w w) := Below.refl _ _
  go_enter Tryd.func5, Tryd.ntmps5
  go_wp2_with fail
  refine (BG.out _ H0.out).mono ?_
  rintro x w1 ⟨rfl, rfl⟩
  clear BG
  go_wp2_with fail
  refine (BG1.out _ H0.out).mono ?_
  rintro x w1 ⟨rfl, rfl⟩
  clear BG1
  go_wp2_with fail
  refine (CK.out _ H0.out).mono ?_
  rintro x v1 ⟨rfl, hbj⟩
  have H1 := hidk (H0.out.trans (hbj.mono H0.out.size))
  clear hbj H0 CK
  go_wp2_with fail
  refine (CK1.out _ H1.out).mono ?_
  rintro x v2 ⟨rfl, hbj⟩
  have H2 := hidk (H1.out.trans (hbj.mono H1.out.size))
  clear hbj H1 CK1
  go_wp2_with fail
  refine (LT.out _ H2.out).mono ?_
  rintro x v3 ⟨rfl, hbj⟩
  have H3 := hidk (H2.out.trans (hbj.mono H2.out.size))
  clear hbj H2 LT
  go_wp2_with (first
    | ((with_reducible show aD 11 _ _ _ _ _ _ _ _ _ _ _); refine wpList_new_var rfl 30 rfl ZS HAS.out ?_; intro g11 v4 HM11; have HR11 := hidk HM11.out.row; try simp only [Act.put, pS1, pS2, pS3])
    | (refine wpList_set_var rfl 30 (.tmp 11) (.tmp 66) rfl g11 T rfl rfl 30 ZS HR11.out HST.out HZT.out H1T.out ?_; intro v5 HW11; have hb5 : Below v3.heap.size v3 v5 := HW11.out.below _ _ HM11.out.below (by rw [HM11.out.new]; exact Nat.le_refl _); have H5 := hidk (H3.out.trans (hb5.mono H3.out.size)); clear hb5 HM11 HR11 HW11; try simp only [Act.put, pS1, pS2, pS3])
    | fail)
  refine (OW.out _ H5.out).mono ?_
  rintro x v6 ⟨vo, rfl, ho, hb6⟩
  obtain ⟨ao, co, rfl, _, _, _⟩ := IReads.own ho (fun y hy => (HIO.out y hy).2)
  have HO6 := hidk ho
  have HB6 := hidk hb6
  have HU := H5
  clear ho hb6 OW
  have hw9 := wrap_int (m1 : Int) (by omega) (by omega)
  have ix9 := fun W => index_item W g1 o1 (m1 + 1) cap1 m1 .i64 (by omega)
  have c9 : v6.cell? ⟨g1, o1 + 110 * m1, none⟩ = some (.int .i64 e) := ((HU.out.trans (HB6.out.mono HU.out.size)).cell (p := ⟨g1, o1 + 110 * m1, none⟩) hg1).trans cE
  go_wp2
  go_loopw [13, 15, 16] (fun va vl vi wr => ∃ (k : Nat) (all : List ItT) (aa : Option Addr) (la ca : Nat) (last : Int), k ≤ len2 ∧ vi = .int .i64 k ∧ vl = .int .i64 last ∧ va = .slice aa la ca ∧ Hid (GrO l all r e last k) ∧ Hid (∀ y ∈ all, InI y ∧ OkE y.e) ∧ Hid (wr.ownsRow v5.heap.size 48 110 (.slice aa la ca) la (icL all)) ∧ Hid (Below v5.heap.size v5 wr)) (fun _ _ vi _ => len2 - (intOf vi).toNat)
  case atStart => exact ⟨0, o, ao, _, co, 0, by omega, rfl, rfl, rfl, HG0, HIO, HO6, HB6⟩
  case round =>
    obtain ⟨k, all, aa, la, ca, last, hk, rfl, rfl, rfl, HG, HIA, HOW, HBU⟩ := hrel
    have hz := HG.out.zn
    have HBr := hidk (HU.out.trans (HBU.out.mono HU.out.size))
    by_cases hlt : k < len2
    · have hd1 : decide ((k : Int) < (len2 : Int)) = true := by rw [decide_eq_true_eq]; omega
      have hw1 := wrap_int ((k : Int) + 1) (by omega) (by omega)
      obtain ⟨g, oo, rfl, hg⟩ := HN.out.at (by omega)
      have hkl : k < ns.length := by have := HN.out.ln; omega
      have ix := fun W => index_num W g oo len2 cap2 k hlt
      obtain ⟨nn, Hnn⟩ : ∃ n, Hid (ns[k] = n) := ⟨_, hidk rfl⟩
      have cN : wr.cell? ⟨g, oo + k, none⟩ = some (.int .i64 nn) := by rw [← Hnn.out]; exact (HN.out.keep HBr.out).cell k hkl
      by_cases h5 : nn < last
      · have d5 : decide (nn < last) = true := decide_eq_true h5
        clear h5 Hnn hz
        go_wp2
        go_roundw
        case rel => exact ⟨k + 1, all, aa, la, ca, last, by omega, by go_num, rfl, rfl, HG.out.more, HIA, HOW, HBU⟩
        case measure => simp [intOf]; omega
      · have d5 : decide (nn < last) = false := decide_eq_false h5
        by_cases h6 : (len : Int) < nn
        · have d6 : decide ((len : Int) < nn) = true := decide_eq_true h6
          clear h5 h6 Hnn hz
          go_wp2
          go_roundw
          case rel => exact ⟨k + 1, all, aa, la, ca, last, by omega, by go_num, rfl, rfl, HG.out.more, HIA, HOW, HBU⟩
          case measure => simp [intOf]; omega
        · have d6 : decide ((len : Int) < nn) = false := decide_eq_false h6
          have hll := hlen.out
          obtain ⟨x, H, S, X, K, P, ⟨okx, inx, gx⟩, ⟨HSH, H1H, NH⟩, ⟨HSS, H1S, NS⟩, HX, HBK, HEA, SI, CN, AM, IT⟩ := GC.out all last k nn HG.out (by omega) (by omega)
          have HZH : Hid (ZH.size = H.size) := by show _ = _; rw [N36.out, NH.out]
          have HZS : Hid (ZS.size = S.size) := by show _ = _; rw [N69.out, NS.out]
          have hal : all.length ≤ 70 := by have := HG.out.len; omega
          have HGX := hidk gx
          have HOKX := hidk okx
          have HINX := hidk inx
          clear gx okx inx Hnn hz NH NS h5 h6 hll
          go_wp2_with fail
          refine (HEA.out _ HBr.out).mono ?_
          rintro x1 v1 ⟨rfl, hbj⟩
          have B1 := hidk (HBU.out.trans (hbj.mono HBU.out.size))
          have O1 := hidk (own_below HOW.out hbj)
          clear hbj HEA HBU HOW
          go_wp2_with (first
            | ((with_reducible show aD 18 _ _ _ _ _ _ _ _ _ _ _); refine wpList_new_var rfl 28 rfl ZH HAH.out ?_; intro g18 v2 HM18; have HR18 := hidk HM18.out.row; try simp only [Act.put, pS1, pS2, pS3])
            | (refine wpList_set_var rfl 28 (.tmp 18) (.tmp 107) rfl g18 H rfl rfl 28 ZH HR18.out HSH.out HZH.out H1H.out ?_; intro v3 HW18; have hbj : Below v1.heap.size v1 v3 := HW18.out.below _ _ HM18.out.below (by rw [HM18.out.new]; exact Nat.le_refl _); have B3 := hidk (B1.out.trans (hbj.mono B1.out.size)); have O3 := hidk (own_below O1.out hbj); have R18 := hidk HW18.out.row; clear hbj HM18 HR18 HW18; try simp only [Act.put, pS1, pS2, pS3])
            | ((with_reducible show aD 110 _ _ _ _ _ _ _ _ _ _ _); refine wpList_build_some_w (by rfl) 38 _ rfl [] rfl K HBK.out ?_; try simp only [Act.put, pS1, pS2, pS3])
            | ((with_reducible show aD 111 _ _ _ _ _ _ _ _ _ _ _); refine wpList_load_row_w (by rfl) 28 (.tmp 18) rfl g18 rfl 28 H (0, 0) _ R18.out Tryd.underlying28 rfl HSH.out ?_; try simp only [Act.put, pS1, pS2, pS3])
            | fail)
          refine (SI.out _ (HU.out.trans (B3.out.mono HU.out.size))).mono ?_
          rintro x1 v4 ⟨rfl, hbj⟩
          have B4 := hidk (B3.out.trans (hbj.mono B3.out.size))
          have O4 := hidk (own_below O3.out hbj)
          clear hbj SI B1 B3 O1 O3 R18
          go_wp2_with (first
            | ((with_reducible show aD 20 _ _ _ _ _ _ _ _ _ _ _); refine wpList_new_var rfl 30 rfl ZS HAS.out ?_; intro g20 v5 HM20; have HR20 := hidk HM20.out.row; try simp only [Act.put, pS1, pS2, pS3])
            | (refine wpList_set_var rfl 30 (.tmp 20) (.tmp 114) rfl g20 S rfl rfl 30 ZS HR20.out HSS.out HZS.out H1S.out ?_; intro v6 HW20; have hbj : Below v4.heap.size v4 v6 := HW20.out.below _ _ HM20.out.below (by rw [HM20.out.new]; exact Nat.le_refl _); have B6 := hidk (B4.out.trans (hbj.mono B4.out.size)); have O6 := hidk (own_below O4.out hbj); have R20 := hidk HW20.out.row; clear hbj HM20 HR20 HW20; try simp only [Act.put, pS1, pS2, pS3])
            | fail)
          refine (CN.out _ (HU.out.trans (B6.out.mono HU.out.size))).mono ?_
          rintro x1 v7 ⟨px, pl, cx, rfl, hp7, hbj⟩
          have B7 := hidk (B6.out.trans (hbj.mono B6.out.size))
          have O7 := hidk (own_below O6.out hbj)
          have R7 := hidk ((hbj.block _ (heap_lt R20.out)).trans R20.out)
          have HP7 := hidk hp7
          clear hbj CN B4 B6 O4 O6 R20 hp7
          go_wp2_with (first
            | ((with_reducible show aD 134 _ _ _ _ _ _ _ _ _ _ _); refine wpList_build_some_w (by rfl) 38 _ rfl [] rfl K HBK.out ?_; try simp only [Act.put, pS1, pS2, pS3])
            | ((with_reducible show aD 136 _ _ _ _ _ _ _ _ _ _ _); refine wpList_load_row_w (by rfl) 30 (.tmp 20) rfl g20 rfl 30 S (0, 0) _ R7.out Tryd.underlying30 rfl HSS.out ?_; try simp only [Act.put, pS1, pS2, pS3])
            | fail)
          refine (AM.out _ _ _ _ _ _ _ (HU.out.trans (B7.out.mono HU.out.size)) (own_inL O7.out HIA.out (by omega)) HP7.out).mono ?_
          rintro x1 v8 ⟨rfl, hbj⟩
          have B8 := hidk (B7.out.trans (hbj.mono B7.out.size))
          have O8 := hidk (own_below O7.out hbj)
          have R8 := hidk ((hbj.block _ (heap_lt R7.out)).trans R7.out)
          clear hbj AM B7 O7 R7 HP7
          go_wp2_with (first
            | ((with_reducible show aD 144 _ _ _ _ _ _ _ _ _ _ _); refine wpList_load_row_w (by rfl) 30 (.tmp 20) rfl g20 rfl 30 S (0, 0) _ R8.out Tryd.underlying30 rfl HSS.out ?_; try simp only [Act.put, pS1, pS2, pS3])
            | fail)
          refine (IT.out _).mono ?_
          rintro x1 v9 ⟨rfl, hbj⟩
          have B9 := hidk (B8.out.trans (hbj.mono B8.out.size))
          have O9 := hidk (own_below O8.out hbj)
          clear hbj IT B8 O8 R8
          obtain ⟨bu, ab, cb, v10, ar, O10, B10⟩ := append_item HOKX.out X HX O9.out (fun y hy => (HIA.out y hy).2) B9.out (by have := (own_inL O9.out HIA.out (by omega)).rd.ln; omega)
          have HBU2 := hidk bu
          have HAR := hidk ar
          have HO10 := hidk O10
          have HB10 := hidk B10
          clear bu ar O10 B10 O9 B9 HX
          go_wp2_with (first
            | ((with_reducible show aD 146 _ _ _ _ _ _ _ _ _ _ _); refine wpList_build_run rfl 22 1 _ rfl #[(0, .agg X)] rfl _ _ HBU2.out ?_; try simp only [Act.put, pS1, pS2, pS3])
            | ((with_reducible show aD 147 _ _ _ _ _ _ _ _ _ _ _); refine wpList_append_runD rfl (.tmp 142) (.tmp 146) 22 22 rfl _ _ _ _ rfl rfl HAR.out ?_; try simp only [Act.put, pS1, pS2, pS3])
            | fail)
          go_roundw
          case rel => exact ⟨k + 1, all ++ [x], ab, la + 1, cb, nn, by omega, by go_num, rfl, rfl, HGX.out, (fun y hy => by
              rcases List.mem_append.1 hy with hy | hy
              · exact HIA.out y hy
              · rw [List.mem_singleton] at hy; rw [hy]; exact ⟨HINX.out, HOKX.out⟩), HO10, HB10⟩
          case measure => simp [intOf]; omega
    · obtain rfl : len2 = k := by omega
      have hd1 : decide ((len2 : Int) < (len2 : Int)) = false := by rw [decide_eq_false_iff_not]; omega
      have CA : Hid (∀ W, Below wr.heap.size wr W → Calls Tryd.prog 20 #[.slice aa la ca] W fun x w' => x = .returned (.int .i64 0) ∧ Below W.heap.size W w') := fun W hb => by
        have := CC.out aa la ca all W (own_inL (own_below HOW.out hb) HIA.out (by have := HG.out.len; omega))
        unfold chkE at this
        rwa [if_pos HG.out.right] at this
      clear hz CC GC HG HIA HOW
      go_wp2_with fail
      refine (AD.out _ HBr.out).mono ?_
      rintro x v1 ⟨rfl, hb1⟩
      have B1 := hidk (HBr.out.trans (hb1.mono HBr.out.size))
      have CA1 := hidk (CA.out _ hb1)
      clear hb1 CA
      go_wp2_with fail
      refine CA1.out.mono ?_
      rintro x v2 ⟨rfl, hb2⟩
      have HZ9 := hidk (B1.out.trans (hb2.mono B1.out.size))
      clear hb2
      go_wp2
      go_ret
      exact ⟨rfl, HZ9.out⟩
set_option maxHeartbeats 4000000 in
theorem anchorsGrows_in (hd : HeadC) (an : AnchorsC) (hc : HistoryC) (a : Option Addr) (len cap : Nat) (l : List ItT) (a1 : Option Addr) (len1 cap1 : Nat) (o : List ItT) (a2 : Option Addr) (len2 cap2 : Nat) (ns : List Int) (r d : Int) (w : World) (w0 : IReads w a len cap l) (n0 : a = none → cap = 0) (m0 : ∀ x ∈ l, CmI x) (w1 : IReads w a1 len1 cap1 o) (n1 : a1 = none → cap1 = 0) (m1 : ∀ x ∈ o, CmI x) (w2 : NReads w a2 len2 cap2 ns) (ir : In64 r) (id : In64 d) (hT : TabH w) :
    Calls Tryd.prog 5 #[.slice a len cap, .slice a1 len1 cap1, .slice a2 len2 cap2, .int .i64 r, .int .i64 d] w fun x w' => x = .returned (.bool true) ∧ Below w.heap.size w w' := by
  have AD : Hid (∀ W, Below w.heap.size w W → Calls Tryd.prog 14 #[] W fun x w' => x = .returned (.bool true) ∧ Below W.heap.size W w') := fun W hb => admits_true hd an W (hT.keep hb)
  have BGL : ∀ W, Below w.heap.size w W → Calls Tryd.prog 8 #[.slice a len cap] W fun x w' => x = .returned (.bool (bigL l)) ∧ W = w' := fun W hb => refBig_any a len cap l W (w0.keep hb) (fun x hx => (m0 x hx).e.t)
  have BGO : ∀ W, Below w.heap.size w W → Calls Tryd.prog 8 #[.slice a1 len1 cap1] W fun x w' => x = .returned (.bool (bigL o)) ∧ W = w' := fun W hb => refBig_any a1 len1 cap1 o W (w1.keep hb) (fun x hx => (m1 x hx).e.t)
  by_cases hb0 : bigL l = true
  · rw [hb0] at BGL
    exact grows_big w a len cap a1 len1 cap1 a2 len2 cap2 r d (hidk BGL) AD
  have hb0 : bigL l = false := by simpa using hb0
  rw [hb0] at BGL
  have BG := hidk BGL
  by_cases hb1 : bigL o = true
  · rw [hb1] at BGO
    exact grows_bigo w a len cap a1 len1 cap1 a2 len2 cap2 r d BG (hidk BGO) AD
  have hb1 : bigL o = false := by simpa using hb1
  rw [hb1] at BGO
  have BG1 := hidk BGO
  by_cases hl2 : 10 < len2
  · exact grows_long w a len cap a1 len1 cap1 a2 len2 cap2 r d BG BG1 (by rw [decide_eq_true_eq]; omega) AD
  have dl : decide ((10 : Int) < (len2 : Int)) = false := by rw [decide_eq_false_iff_not]; omega
  have hin := inL_of w0 n0 m0 hb0
  have hino := inL_of w1 n1 m1 hb1
  have CKL : ∀ W, Below w.heap.size w W → Calls Tryd.prog 20 #[.slice a len cap] W fun x w' => x = .returned (.int .i64 (chkE l)) ∧ Below W.heap.size W w' := fun W hb => hc.check a len cap l W (hin.keep hb)
  have CKO : ∀ W, Below w.heap.size w W → Calls Tryd.prog 20 #[.slice a1 len1 cap1] W fun x w' => x = .returned (.int .i64 (chkE o)) ∧ Below W.heap.size W w' := fun W hb => hc.check a1 len1 cap1 o W (hino.keep hb)
  unfold chkE at CKL CKO
  by_cases hrl : ¬ rightL l = true
  · rw [if_neg hrl] at CKL
    exact grows_form w a len cap a1 len1 cap1 a2 len2 cap2 r d BG BG1 dl (hidk CKL) AD
  have hrl : rightL l = true := Classical.not_not.1 hrl
  rw [if_pos hrl] at CKL
  have CK := hidk CKL
  by_cases hro : ¬ rightL o = true
  · rw [if_neg hro] at CKO
    exact grows_formo w a len cap a1 len1 cap1 a2 len2 cap2 r d BG BG1 dl CK (hidk CKO) AD
  have hro : rightL o = true := Classical.not_not.1 hro
  rw [if_pos hro] at CKO
  have CK1 := hidk CKO
  by_cases h1 : r < 1
  · exact grows_r1 w a len cap a1 len1 cap1 a2 len2 cap2 r d BG BG1 dl CK CK1 (decide_eq_true h1) AD
  have d1 := decide_eq_false h1
  by_cases h2 : (5 : Int) < r
  · exact grows_r2 w a len cap a1 len1 cap1 a2 len2 cap2 r d BG BG1 dl CK CK1 d1 (decide_eq_true h2) AD
  have d2 := decide_eq_false h2
  by_cases h3 : d < 1
  · exact grows_d1 w a len cap a1 len1 cap1 a2 len2 cap2 r d BG BG1 dl CK CK1 d1 d2 (decide_eq_true h3) AD
  have d3 := decide_eq_false h3
  by_cases h4 : (3 : Int) < d
  · exact grows_d2 w a len cap a1 len1 cap1 a2 len2 cap2 r d BG BG1 dl CK CK1 d1 d2 d3 (decide_eq_true h4) AD
  have d4 := decide_eq_false h4
  have hok := latS_ok (l := o) (r := r) w1.ok
  obtain ⟨T, HT, HST, H1T, N69⟩ := sign_row (latS o r) hok.1 hok.2
  obtain ⟨ZS, HZ, HAS, HBZ, H69⟩ := noughtsS
  have HZT : Hid (ZS.size = T.size) := by show _ = _; rw [H69.out, N69.out]
  have LTO : ∀ W, Below w.heap.size w W → Calls Tryd.prog 10 #[.slice a1 len1 cap1, .int .i64 r] W fun x w' => x = .returned (.tuple #[.agg T, .bool (latA o r).isSome]) ∧ Below W.heap.size W w' := fun W hb => an.latest a1 len1 cap1 o r W (hino.keep hb) ir T HT
  by_cases hy : (latA o r).isSome = true
  · rw [hy] at LTO
    exact grows_there w a len cap a1 len1 cap1 a2 len2 cap2 r d BG BG1 dl CK CK1 d1 d2 d3 d4 AD T ZS HST H1T HAS HZT (hidk LTO)
  have hy : (latA o r).isSome = false := by simpa using hy
  rw [hy] at LTO
  have hno : latA o r = none := by simpa using hy
  have hol : o.length ≤ 60 := (bigL_false hb1).1
  have OW : Hid (∀ W, Below w.heap.size w W → Calls Tryd.prog 9 #[.slice a1 len1 cap1] W fun x w' => ∃ v, x = .returned v ∧ w'.ownsRow W.heap.size 48 110 v len1 (icL o) ∧ Below W.heap.size W w') := fun W hb => refOwn_any a1 len1 cap1 o W (w1.keep hb) n1 (by have := w1.ln; omega)
  have hio : ∀ y ∈ o, InI y ∧ OkE y.e := fun y hy => ⟨hino.its y hy, w1.ok y hy⟩
  have hln := w1.ln
  by_cases h0 : len1 = 0
  · have e0 : o = [] := List.eq_nil_of_length_eq_zero (by omega)
    refine grows_none w a len cap a1 len1 cap1 a2 len2 cap2 r d BG BG1 dl CK CK1 d1 d2 d3 d4 AD T ZS HST H1T HAS HZT (hidk LTO) hd an hc hT l o ns 1 rfl hin hrl (by omega) (by omega) (by omega) w2 (by omega) hio (GrO.start hrl hro hol (by rw [e0]; rfl) hno) OW h0
  · obtain ⟨m, rfl⟩ : ∃ m, len1 = m + 1 := ⟨len1 - 1, by omega⟩
    obtain ⟨g1, o1, ha1, hg1⟩ := w1.at (by omega)
    have hm : m < o.length := by omega
    subst ha1
    have hri := right_item hro (List.getElem_mem hm)
    have hep := (rightI_iff _).1 hri
    have hlow : lowB o o[m].p = false := by
      unfold lowB
      rw [List.getLast?_eq_getElem?, show o.length - 1 = m by omega, List.getElem?_eq_getElem hm]
      exact decide_eq_false (by omega)
    exact grows_some w a len cap (some ⟨g1, o1, none⟩) (m + 1) cap1 a2 len2 cap2 r d BG BG1 dl CK CK1 d1 d2 d3 d4 AD T ZS HST H1T HAS HZT (hidk LTO) hd an hc hT l o ns o[m].p hin hrl (by omega) (by omega) ⟨hep.1, hep.2.1⟩ w2 (by omega) hio (GrO.start hrl hro hol hlow hno) OW g1 o1 rfl hg1 m rfl (by omega) (w1.cell m hm 0 _ (icells_p _))
end Go.Proofs.YtjalebncfnekiaaDoor
