/- Texts of our own that the row of HeadReads leans on, part 2. -/
import Derived.Test.YtdnhnjimhbbabaaDoorHeadReadsJ1
import Derived.RangeFuncNested
import Derived.RangeFuncBound
import Derived.RangeFuncCalls
import Derived.RangeFuncLeaves
import Derived.RangeFuncBox
import Derived.Shelf.Abstract
import Derived.Shelf.RegionOpen
import Derived.WalkKit
import Derived.OwnWalkIn
import Derived.TacticsInMore
import Derived.LoopNIn
import Derived.LoopIn

/- Both Gets answer as one plain function of the bytes. -/
namespace Go.Proofs.YtdnhnjimhbbabaaDoor
open Go.RowKit Nums
set_option maxRecDepth 100000
/-- A slice of bytes that can be read: its bytes are l. -/
def Reads (w : World) (a : Option Addr) (len cap : Nat) (l : List UInt8) : Prop :=
  l.length = len ∧ len ≤ cap ∧ cap ≤ 9223372036854775807 ∧
  ((a = none ∧ cap = 0) ∨ (∃ ad, a = some ad ∧ len = 0) ∨ ∃ b off, a = some ⟨b, off, none⟩ ∧ b < w.heap.size ∧ ∀ (i : Nat) (h : i < l.length), w.cell? ⟨b, off + i, none⟩ = some (.int .u8 l[i].toNat))
theorem Reads.below {w w' : World} {a : Option Addr} {len cap : Nat} {l : List UInt8} (h : Reads w a len cap l) (hb : Below w.heap.size w w') : Reads w' a len cap l := by
  obtain ⟨h1, h2, h3, h4⟩ := h
  refine ⟨h1, h2, h3, ?_⟩
  rcases h4 with h4 | h4 | ⟨b, off, e, hlt, hc⟩
  · exact .inl h4
  · exact .inr (.inl h4)
  · refine .inr (.inr ?_)
    exact ⟨b, off, e, Nat.lt_of_lt_of_le hlt hb.size, fun i hi => (hb.cell (p := ⟨b, off + i, none⟩) hlt).trans (hc i hi)⟩
def gotten (l : List UInt8) : Ending := .returned (.tuple #[.agg #[.int .i64 (gT l), .string ⟨(gD l).toArray⟩], .int .i64 (gN l), .int .i64 (gE l)])
theorem gotten_no {l : List UInt8} {k : Nat} (h : gE l = k) (hk : k ≠ 0) : gotten l = .returned (.tuple #[.agg #[.int .i64 0, .string ⟨#[]⟩], .int .i64 0, .int .i64 k]) := by
  have h0 : gE l ≠ 0 := by omega
  rw [gotten, gT, gD, gN, if_neg h0, if_neg h0, if_neg h0, h]; rfl
theorem gotten_yes {l : List UInt8} (h : gE l = 0) : gotten l = .returned (.tuple #[.agg #[.int .i64 ((l.getD 0 0).toNat : Nat), .string ⟨((l.drop 4).take (size3 l)).toArray⟩], .int .i64 (4 + (size3 l : Int)), .int .i64 0]) := by
  simp [gotten, gT, gD, gN, h]
/-- What a walk needs to know of bytes that are long enough. -/
theorem Reads.heads {w : World} {a : Option Addr} {len cap : Nat} {l : List UInt8} (h : Reads w a len cap l) (h4 : 4 ≤ len) :
    ∃ b off, a = some ⟨b, off, none⟩ ∧ b < w.heap.size ∧ w.cell? ⟨b, off, none⟩ = some (.int .u8 (l.getD 0 0).toNat) ∧ w.cell? ⟨b, off + 1, none⟩ = some (.int .u8 (l.getD 1 0).toNat) ∧
      w.cell? ⟨b, off + 2, none⟩ = some (.int .u8 (l.getD 2 0).toNat) ∧ w.cell? ⟨b, off + 3, none⟩ = some (.int .u8 (l.getD 3 0).toNat) ∧
      ∀ (n : Nat), 4 + n ≤ len → ((l.drop 4).take n).length = n ∧ ∀ (j : Nat) (hj : j < ((l.drop 4).take n).length), w.cell? ⟨b, off + 4 + j, none⟩ = some (.int .u8 ((l.drop 4).take n)[j].toNat) := by
  obtain ⟨h1, h2, h3, ⟨_, h0⟩ | ⟨_, _, h0⟩ | ⟨b, off, e, hlt, hc⟩⟩ := h
  · omega
  · omega
  · have hg : ∀ i, i < len → w.cell? ⟨b, off + i, none⟩ = some (.int .u8 (l.getD i 0).toNat) := fun i hi => by
      rw [hc i (by omega), List.getD, List.getElem?_eq_getElem (by omega)]; rfl
    refine ⟨b, off, e, hlt, hg 0 (by omega), hg 1 (by omega), hg 2 (by omega), hg 3 (by omega), ?_⟩
    intro n hn
    refine ⟨by simp; omega, fun j hj => ?_⟩
    have hj' : j < n := by simp at hj; omega
    have := hc (4 + j) (by omega)
    rw [← Nat.add_assoc] at this
    rw [this]
    simp
theorem get_any (a : Option Addr) (len cap : Nat) (l : List UInt8) (w : World) (h : Reads w a len cap l) :
    Calls Tryd.prog 87 #[.slice a len cap] w fun e w' => e = gotten l ∧ Below w.heap.size w w' := by
  by_cases h4 : len < 4
  · rw [gotten_no (gE_short (by rw [h.1]; exact h4)) (by decide)]
    exact get_short a len cap w h4
  · obtain ⟨b, off, rfl, hlt, h0, h1, h2, h3, hd⟩ := h.heads (by omega)
    have n0 : ¬ l.length < 4 := by rw [h.1]; exact h4
    have b0 := (l.getD 0 0).toNat_lt
    have b1 := (l.getD 1 0).toNat_lt
    have b2 := (l.getD 2 0).toNat_lt
    have b3 := (l.getD 3 0).toNat_lt
    have hb := or3 _ _ _ b1 b2 b3
    change _ = ((size3 l : Nat) : Int) at hb
    have hs : size3 l ≤ 16777215 := by unfold size3; omega
    by_cases hf : (l.getD 0 0).toNat = 0 ∨ 65536 < size3 l
    · rw [gotten_no (gE_form n0 hf) (by decide)]
      exact get_form b off len cap w (by omega) _ _ _ _ (size3 l) hlt h0 h1 h2 h3 (by omega) (by omega) (by omega) (by omega) (by omega) hb (by
        by_cases hz : (l.getD 0 0).toNat = 0
        · left; rw [hz]; rfl
        · right; exact ⟨by simpa using hz, by omega⟩)
    · have hz : (((l.getD 0 0).toNat : Int) == 0) = false := by
        have : ¬ (l.getD 0 0).toNat = 0 := fun h => hf (.inl h)
        simpa using this
      by_cases hc : l.length < 4 + size3 l
      · rw [gotten_no (gE_cut n0 hf hc) (by decide)]
        exact get_cut b off len cap w (by omega) _ _ _ _ (size3 l) hlt h0 h1 h2 h3 (by omega) (by omega) (by omega) (by omega) (by omega) hb hz (by rw [h.1] at hc; omega)
      · rw [gotten_yes (gE_ok n0 hf hc)]
        have hl : 4 + size3 l ≤ len := by rw [h.1] at hc; omega
        exact get_field b off len cap w (by omega) _ _ _ _ (size3 l) hlt h.2.1 h.2.2.1 h0 h1 h2 h3 (by omega) (by omega) (by omega) (by omega) (by omega) hb hz (by omega) _ (hd _ hl).1 (hd _ hl).2
theorem refGet_any (a : Option Addr) (len cap : Nat) (l : List UInt8) (w : World) (h : Reads w a len cap l) :
    Calls Tryd.prog 79 #[.slice a len cap] w fun e w' => e = gotten l ∧ Below w.heap.size w w' := by
  by_cases h4 : len < 4
  · rw [gotten_no (gE_short (by rw [h.1]; exact h4)) (by decide)]
    exact refGet_short a len cap w h4
  · obtain ⟨b, off, rfl, hlt, h0, h1, h2, h3, hd⟩ := h.heads (by omega)
    have n0 : ¬ l.length < 4 := by rw [h.1]; exact h4
    have b0 := (l.getD 0 0).toNat_lt
    have b1 := (l.getD 1 0).toNat_lt
    have b2 := (l.getD 2 0).toNat_lt
    have b3 := (l.getD 3 0).toNat_lt
    have hb : 65536 * ((l.getD 1 0).toNat : Int) + 256 * ((l.getD 2 0).toNat : Int) + ((l.getD 3 0).toNat : Int) = ((size3 l : Nat) : Int) := by unfold size3; omega
    have hs : size3 l ≤ 16777215 := by unfold size3; omega
    have hcap := h.2.2.1
    have hlc := h.2.1
    by_cases hf : (l.getD 0 0).toNat = 0 ∨ 65536 < size3 l
    · rw [gotten_no (gE_form n0 hf) (by decide)]
      exact refGet_form b off len cap w (by omega) _ _ _ _ (size3 l) hlt h0 h1 h2 h3 (by omega) (by omega) (by omega) (by omega) (by omega) hb (by
        by_cases hz : (l.getD 0 0).toNat = 0
        · left; rw [hz]; rfl
        · right; exact ⟨by simpa using hz, by omega⟩)
    · have hz : (((l.getD 0 0).toNat : Int) == 0) = false := by
        have : ¬ (l.getD 0 0).toNat = 0 := fun h => hf (.inl h)
        simpa using this
      by_cases hc : l.length < 4 + size3 l
      · rw [gotten_no (gE_cut n0 hf hc) (by decide)]
        exact refGet_cut b off len cap w (by omega) (by omega) _ _ _ _ (size3 l) hlt h0 h1 h2 h3 (by omega) (by omega) (by omega) (by omega) (by omega) hb hz (by rw [h.1] at hc; omega)
      · rw [gotten_yes (gE_ok n0 hf hc)]
        have hl : 4 + size3 l ≤ len := by rw [h.1] at hc; omega
        by_cases h44 : cap = 4
        · have hlen : len = 4 := by omega
          have hs0 : size3 l = 0 := by omega
          have e1 : (l.getD 1 0).toNat = 0 := by unfold size3 at hs0; omega
          have e2 : (l.getD 2 0).toNat = 0 := by unfold size3 at hs0; omega
          have e3 : (l.getD 3 0).toNat = 0 := by unfold size3 at hs0; omega
          rw [e1] at h1
          rw [e2] at h2
          rw [e3] at h3
          rw [hs0]
          subst h44 hlen
          exact refGet_four b off w _ hlt h0 h1 h2 h3 (by omega) hz
        · exact refGet_field b off len cap w (by omega) _ _ _ _ (size3 l) hlt hlc hcap h0 h1 h2 h3 (by omega) (by omega) (by omega) (by omega) (by omega) hb hz (by omega) h44 _ (hd _ hl).1 (hd _ hl).2
end Go.Proofs.YtdnhnjimhbbabaaDoor

/- Rows that the call owns, and bytes that can be read: what appends do to them. -/
namespace Go.Proofs.YtdnhnjimhbbabaaDoor
open Go.RowKit Nums
set_option maxRecDepth 100000
theorem own_lower {w : World} {B B' e size n : Nat} {v : Value} {xs : List Value} (h : w.ownsRow B e size v n xs) (hB : B' ≤ B) : w.ownsRow B' e size v n xs := by
  refine ⟨h.1, ?_⟩
  rcases h.2 with h2 | ⟨g, cap, cur, e1, hb, r⟩
  · exact .inl h2
  · exact .inr ⟨g, cap, cur, e1, Nat.le_trans hB hb, r⟩
theorem reads_none (w : World) : Reads w none 0 0 [] := ⟨rfl, Nat.le_refl _, by decide, .inl ⟨rfl, rfl⟩⟩
/-- What is owned can be read. -/
theorem reads_own {w : World} {B : Nat} {v : Value} {l : List UInt8} (h : w.ownsRow B 5 1 v l.length (cellsOf l)) : ∃ a cap, v = .slice a l.length cap ∧ Reads w a l.length cap l := by
  rcases h.2 with ⟨rfl, h0⟩ | ⟨g, cap, cur, rfl, hb, hg, hn, hm, hs, ht⟩
  · refine ⟨none, 0, by rw [h0], rfl, by omega, by decide, .inl ⟨rfl, rfl⟩⟩
  · have hlt := (h.lt g rfl).2
    refine ⟨_, _, rfl, rfl, hn, by unfold maxLen at hm; omega, .inr (.inr ⟨g, 0, rfl, hlt, fun i hi => ?_⟩)⟩
    have := cells_at h rfl i hi
    rwa [add_plain] at this
end Go.Proofs.YtdnhnjimhbbabaaDoor

/- What the keeper's Lent and Kept do: bytes in memory of their own with seven marked places behind them; are they as they were? -/
namespace Go.Proofs.YtdnhnjimhbbabaaDoor
open Go.RowKit Nums
set_option maxRecDepth 100000
theorem wpList_append_run {P : Program} {w : World} {ops : Array Oper} {rest : List Oper} {o : Oper} {a : Act} {Q : Exit → Act → World → Prop} (hgd : o.guard = none) (s x : Operand) (t u : TypeId)
    (ho : o.op = .call { callee := .builtin .append, args := #[s, x], argTypes := #[t, u] }) (vs vx v' : Value) (w' : World) (hs : a.eval s = vs) (hx : a.eval x = vx)
    (hrun : (Builtin.append_ #[t, u] o.type #[vs, vx]).run P w = .ok v' w') (h : wpList P ops Q rest (a.put o.dst v') w') : wpList P ops Q (o :: rest) a w := by
  refine wpList_plain hgd fun K hK => ?_
  unfold Oper.wp execOp
  simp only [ho, resolve, invoke, builtin, Sem.run_bind, Sem.run_pure, Result.andThen_ok, List.map_toArray, List.map_cons, List.map_nil, hs, hx, hrun]
  exact hK _ _ h
/-- Bytes that can be read, appended to a row that is owned, whether there is room or not. -/
theorem run_append_grows {w : World} {a : Option Addr} {len cap : Nat} {l : List UInt8} (h : Reads w a len cap l) (B n ty : Nat) (v : Value) (xs : List UInt8)
    (hown : w.ownsRow B 5 1 v n (cellsOf xs)) (hB : B ≤ w.heap.size) (hb : n + len ≤ 140737488355328) :
    ∃ v' w', (Builtin.append_ #[35, 35] ty #[v, .slice a len cap]).run Tryd.prog w = .ok v' w' ∧
      w'.ownsRow B 5 1 v' (n + len) (cellsOf (xs ++ l)) ∧ w.grownBy w' v.ownBlock := by
  obtain ⟨i0, hi, hz0, hz1, hz2⟩ := info_parts info5
  obtain ⟨h1, h2, h3, ⟨rfl, h0⟩ | ⟨ad, rfl, h0⟩ | ⟨b, off, rfl, hlt, hc⟩⟩ := h
  · have hl0 : len = 0 := by omega
    subst h0 hl0
    have hl : l = [] := List.eq_nil_of_length_eq_zero h1
    subst hl
    refine ⟨v, w, run_append_owned_none (P := Tryd.prog) w B 35 ty 5 i0 1 Tryd.underlying35 hi _ n _ hown, ?_, World.grownBy.refl _ _⟩
    simpa using hown
  · subst h0
    have hl : l = [] := List.eq_nil_of_length_eq_zero h1
    subst hl
    obtain ⟨v', w', hr, ho, hg, _⟩ := run_append_own (P := Tryd.prog) w B 35 ty 5 i0 (.int .u8 0) 1 1 Tryd.underlying35 hi hz0 hz1 hz2 rfl (by decide) v n _ hown ad 0 cap [] rfl (by simp) (by simp) (by unfold maxLen; omega) (by omega) hB
    refine ⟨v', w', hr, ?_, hg⟩
    simpa using ho
  · obtain ⟨v', w', hr, ho, hg, _⟩ := run_append_own (P := Tryd.prog) w B 35 ty 5 i0 (.int .u8 0) 1 1 Tryd.underlying35 hi hz0 hz1 hz2 rfl (by decide) v n _ hown ⟨b, off, none⟩ len cap (cellsOf l) (by rw [cellsOf_length, h1]; omega) (fun j u hj => by
      rw [add_plain]
      have hjl : j < l.length := by
        rcases Nat.lt_or_ge j l.length with h | h
        · exact h
        · rw [List.getElem?_eq_none (by rw [cellsOf_length]; exact h)] at hj; cases hj
      rw [hc j hjl]
      simpa [cellsOf, List.getElem?_eq_getElem hjl] using hj) (cellsOf_one l) (by unfold maxLen; omega) (by omega) hB
    refine ⟨v', w', hr, ?_, hg⟩
    rw [cellsOf_append]
    exact ho
/-- The marks behind lent bytes. -/
def marks (k : Nat) : List UInt8 := List.replicate k 195
set_option maxHeartbeats 1000000 in
theorem lent_any (a : Option Addr) (len cap : Nat) (l : List UInt8) (w : World) (hr : Reads w a len cap l) (hl : len ≤ 1048576) :
    Calls Tryd.prog 17 #[.slice a len cap] w fun e w' => ∃ g c, e = .returned (.slice (some ⟨g, 0, none⟩) len c) ∧ w.heap.size ≤ g ∧ len + 7 ≤ c ∧ c ≤ maxLen ∧
      w'.ownsRow w.heap.size 5 1 (.slice (some ⟨g, 0, none⟩) (len + 7) c) (len + 7) (cellsOf (l ++ marks 7)) ∧ Below w.heap.size w w' := by
  obtain ⟨i0, hi, hz0, hz1, hz2⟩ := info_parts info5
  obtain ⟨v1, w1, hrun, hown1, hgrow1⟩ := run_append_grows hr w.heap.size 0 35 (.slice none 0 0) [] (World.ownsRow_nil w _ 5 1) (Nat.le_refl _) (by omega)
  simp only [Nat.zero_add, List.nil_append] at hown1
  have hb1 : Below w.heap.size w w1 := (Below.refl _ _).grown hgrow1 (Nat.le_refl _) (by intro k hk; cases hk)
  have HRUN : Hid _ := hrun
  have HLL : Hid (l.length = len) := hr.1
  clear hrun hgrow1 hr
  go_enter Tryd.func17, Tryd.ntmps17
  go_wp2_with (first
    | (at_builtin; refine wpList_append_run (by rfl) (.tmp 5) (.tmp 6) 35 35 (by rfl) _ _ _ _ (by rfl) (by rfl) HRUN.out ?_)
    | fail)
  go_loopw [3, 4] (fun v i wr => ∃ k : Nat, k ≤ 7 ∧ i = .int .i64 k ∧ wr.ownsRow w.heap.size 5 1 v (len + k) (cellsOf (l ++ marks k)) ∧ Below w.heap.size w wr) (fun _ i _ => 7 - (intOf i).toNat)
  case atStart => exact ⟨0, by decide, rfl, by simpa [marks] using hown1, hb1⟩
  case round =>
    obtain ⟨k, hk, rfl, hown, hb⟩ := hrel
    clear hown1 hb1
    by_cases hlt : k < 7
    · go_wp2_with (first
        | (at_builtin; refine wpList_append_own _ rfl (.tmp 12) (.tmp 13) 35 rfl w.heap.size 5 i0 (.int .u8 0) 1 1 Tryd.underlying35 hi hz0 hz1 hz2 rfl (by decide) _ _ _ rfl (hown.alloc _) ⟨wr.heap.size, 0, none⟩ 1 1 [.int .u8 195] rfl rfl ?c1 ?c2 ?c3 ?c4 ?c5 ?_)
        | fail)
      case c1 =>
        intro j u hj
        match j, hj with
        | 0, hj => simp at hj; subst hj; simp [Addr.add]
      case c2 => intro u hu; simp at hu; subst hu; rfl
      case c3 => unfold maxLen; omega
      case c4 => omega
      case c5 => have := hb.size; simp; omega
      intro v2 w2 hown2 hgrow2 _
      have hb2 : Below w.heap.size w w2 := (hb.alloc hb.size _).grown hgrow2 (by have := hb.size; simp; omega) (row_low hown)
      have hown3 : w2.ownsRow w.heap.size 5 1 v2 (len + (k + 1)) (cellsOf (l ++ marks (k + 1))) := by
        have e : cellsOf (l ++ marks (k + 1)) = cellsOf (l ++ marks k) ++ [.int .u8 195] := by
          simp [cellsOf, marks, List.replicate_succ']
        rw [e]; exact hown2
      clear hown2 hgrow2 hown hb
      go_wp2
      go_roundw
      case rel => exact ⟨k + 1, by omega, by go_num, hown3, hb2⟩
      case measure => simp [intOf]; omega
    · have hk7 : k = 7 := by omega
      subst hk7
      rcases hown.2 with ⟨_, h0⟩ | ⟨g, c, cur, rfl, hg, _, hc, hm, _⟩
      · omega
      · have hcm : c ≤ 9223372036854775807 := by unfold maxLen at hm; omega
        have HO : Hid _ := hown
        clear hown
        go_wp2
        go_ret
        exact ⟨g, c, rfl, hg, hc, hm, HO.out, hb⟩
end Go.Proofs.YtdnhnjimhbbabaaDoor

/- What the document's Digest and Row answer. -/
namespace Go.Proofs.YtdnhnjimhbbabaaDoor
open Go.RowKit Sums Nums
set_option linter.unusedVariables false
set_option linter.unusedSimpArgs false
set_option maxRecDepth 100000
theorem filled32_put (B : List UInt8) (k : Nat) (hB : B.length = 32) (hk : k < 32) : (filled (B.take k) 32).set k B[k] = filled (B.take (k + 1)) 32 := by
  unfold filled
  have h1 : (B.take k).length = k := by rw [List.length_take]; omega
  have h2 : (B.take (k + 1)).length = k + 1 := by rw [List.length_take]; omega
  rw [h1, h2, List.set_append_right _ _ (by omega), h1, Nat.sub_self, List.take_add_one, List.getElem?_eq_getElem (by omega), show 32 - k = (32 - (k + 1)) + 1 by omega, List.replicate_succ, List.set_cons_zero]
  simp only [Option.toList_some, List.append_assoc, List.singleton_append]
/-- What Digest answers. -/
def digO (s : ByteArray) : List UInt8 := if s.size = 32 then s.data.toList else List.replicate 32 0
theorem digO_length (s : ByteArray) : (digO s).length = 32 := by
  unfold digO; split
  · rename_i h; exact h
  · simp
set_option maxHeartbeats 4000000 in
theorem refDig_any (s : ByteArray) (w : World) (hs : s.size ≤ maxLen) (D : Array Value) (HD : Hid (D = (cellsOf (digO s)).toArray)) :
    Calls Tryd.prog 48 #[.string s] w fun e w' => e = .returned (.tuple #[.agg D, .bool (decide (s.size = 32))]) ∧ Below w.heap.size w w' := by
  obtain ⟨Z, HZ, HA, HS, H1, H32⟩ := noughts27
  have hml : s.size ≤ 9223372036854775807 := by unfold maxLen at hs; omega
  have HSD : Hid ((Tryd.prog.info? 24).map (·.size) = some D.size) := by show _ = _; rw [size23, HD.out]; simp [cellsOf_length, digO_length]
  have H1D : Hid (D.all (·.oneCell') = true) := by show _ = _; rw [HD.out]; exact cellsOf_all _
  have HZD : Hid (Z.size = D.size) := by show _ = _; rw [H32.out, HD.out]; simp [cellsOf_length, digO_length]
  by_cases h32 : s.size = 32
  · have d32 : decide (s.size = 32) = true := by rw [decide_eq_true_eq]; exact h32
    rw [d32]
    have hl : s.data.toList.length = 32 := h32
    have HDS : Hid (D = (cellsOf (filled (s.data.toList.take 32) 32)).toArray) := by
      show _ = _
      rw [HD.out]
      unfold digO filled
      rw [if_pos h32, List.take_of_length_le (by omega), hl]
      simp
    have HZ0 : Hid (Z = (cellsOf (filled (s.data.toList.take 0) 32)).toArray) := by
      show _ = _
      rw [HZ.out]
      simp [filled]
    have hsz : ∀ k, k ≤ 32 → (cellsOf (filled (s.data.toList.take k) 32)).toArray.size = 32 := fun k hk => by
      rw [List.size_toArray, cellsOf_length, filled_length _ _ (by rw [List.length_take]; omega)]
    have HSZ := hidk hsz
    clear HZ d32 hsz HD
    go_enter Tryd.func48, Tryd.ntmps48
    go_wp2_with (first
      | (show wpList _ _ _ ({ dst := some 2, op := _, type := _, pos := _, after := _, guard := _ } :: _) _ _; refine wpList_new_var rfl 24 rfl Z HA.out ?_; intro g2 w1 HM2; try simp only [Act.put, List.setIfInBounds_toArray, List.set_cons_zero, List.set_cons_succ])
      | (show wpList _ _ _ ({ dst := some 4, op := _, type := _, pos := _, after := _, guard := _ } :: _) _ _; refine wpList_new_var rfl 24 rfl Z HA.out ?_; intro g4 w2 HM4; try simp only [Act.put, List.setIfInBounds_toArray, List.set_cons_zero, List.set_cons_succ])
      | fail)
    have h2 : w.heap.size ≤ g2 := Nat.le_of_eq HM2.out.new.symm
    have h4 : g2 < g4 := by rw [HM4.out.new]; exact heap_lt HM2.out.row
    have HL0 : Hid (w2.heap[g2]? = some (.cells Z 24 (0, 0)) ∧ w2.heap[g4]? = some (.cells (cellsOf (filled (s.data.toList.take 0) 32)).toArray 24 (0, 0)) ∧ Below w.heap.size w w2) :=
      ⟨(HM4.out.below.block _ (heap_lt HM2.out.row)).trans HM2.out.row, by rw [← HZ0.out]; exact HM4.out.row, HM2.out.below.trans (HM4.out.below.mono HM2.out.below.size)⟩
    clear HM2 HM4
    go_loopw [5] (fun i wr => ∃ k : Nat, k ≤ 32 ∧ i = .int .i64 k ∧ Hid (wr.heap[g2]? = some (.cells Z 24 (0, 0)) ∧ wr.heap[g4]? = some (.cells (cellsOf (filled (s.data.toList.take k) 32)).toArray 24 (0, 0)) ∧ Below w.heap.size w wr)) (fun i _ => 32 - (intOf i).toNat)
    case atStart => exact ⟨0, by omega, rfl, HL0⟩
    case round =>
      clear HL0
      obtain ⟨k, hk, rfl, HL⟩ := hrel
      by_cases hlt : k < 32
      · have dk : decide ((k : Int) < 32) = true := by rw [decide_eq_true_eq]; omega
        have dk' : decide (k < 32) = true := by rw [decide_eq_true_eq]; omega
        have hks : k < s.size := by omega
        obtain ⟨y, Hy⟩ : ∃ y : UInt8, Hid (y = s[k]) := ⟨s[k], hidk rfl⟩
        have hyk : (s[k]).toNat = y.toNat := by rw [Hy.out]
        have s1 := hidk (HSZ.out k hk)
        go_wp2_with (first
          | (refine wpList_put8 rfl 5 (.tmp 18) (.tmp 17) rfl sizeOf5 g4 k (y.toNat : Int) rfl rfl (cellsOf (filled (s.data.toList.take k) 32)).toArray 24 HL.out.2.1 (by rw [s1.out]; exact hlt) ?_; intro wa H1w; try simp only [Act.put, List.setIfInBounds_toArray, List.set_cons_zero, List.set_cons_succ])
          | fail)
        have HL' : Hid (wa.heap[g2]? = some (.cells Z 24 (0, 0)) ∧ wa.heap[g4]? = some (.cells (cellsOf (filled (s.data.toList.take (k + 1)) 32)).toArray 24 (0, 0)) ∧ Below w.heap.size w wa) := by
          refine ⟨(H1w.out.other g2 (by omega)).trans HL.out.1, ?_, H1w.out.below _ _ HL.out.2.2 (by omega)⟩
          rw [H1w.out.row, cells_put, ← filled32_put s.data.toList k hl hlt]
          have e : s.data.toList[k] = y := by rw [Hy.out]; rfl
          rw [e]
        clear H1w HL hyk
        go_roundw
        case rel => exact ⟨k + 1, by omega, by go_num, HL'⟩
        case measure => simp [intOf]; omega
      · obtain rfl : k = 32 := by omega
        have HR4 : Hid (wr.heap[g4]? = some (.cells D 24 (0, 0))) := by show _ = _; rw [HDS.out]; exact HL.out.2.1
        have HR2 := hidk HL.out.1
        have HB := hidk HL.out.2.2
        clear HL
        go_wp2_with (first
          | (show wpList _ _ _ ({ dst := some 19, op := _, type := _, pos := _, after := _, guard := _ } :: _) _ _; refine wpList_load_row rfl 24 (.tmp 4) rfl g4 rfl 24 D (0, 0) _ HR4.out Tryd.underlying24 rfl HSD.out ?_; try simp only [Act.put, List.setIfInBounds_toArray, List.set_cons_zero, List.set_cons_succ])
          | (refine wpList_set_var rfl 24 (.tmp 2) (.tmp 19) rfl g2 D rfl rfl 24 Z HR2.out HSD.out HZD.out H1D.out ?_; intro wz HW2; try simp only [Act.put, List.setIfInBounds_toArray, List.set_cons_zero, List.set_cons_succ])
          | fail)
        refine bodyPost_ret (v := .tuple #[.agg D, .bool true]) ?_ rfl ⟨rfl, HW2.out.below w.heap.size w HB.out h2⟩
        exact results_row_tmp (p := 2) (q := 3) (ty := 24) rfl _ _ g2 24 D (0, 0) _ rfl HW2.out.row Tryd.underlying24 rfl HSD.out
  · have d32 : decide (s.size = 32) = false := by rw [decide_eq_false_iff_not]; exact h32
    rw [d32]
    have hne : ((s.size : Int) != 32) = true := by rw [bne_iff_ne]; omega
    obtain rfl : D = Z := by rw [HD.out, HZ.out]; unfold digO; rw [if_neg h32]
    clear HZ d32 h32 HD HZD
    go_enter Tryd.func48, Tryd.ntmps48
    go_wp2_with (first
      | (show wpList _ _ _ ({ dst := some 2, op := _, type := _, pos := _, after := _, guard := _ } :: _) _ _; refine wpList_new_var rfl 24 rfl D HA.out ?_; intro g2 w1 HM2; try simp only [Act.put, List.setIfInBounds_toArray, List.set_cons_zero, List.set_cons_succ])
      | (show wpList _ _ _ ({ dst := some 4, op := _, type := _, pos := _, after := _, guard := _ } :: _) _ _; refine wpList_new_var rfl 24 rfl D HA.out ?_; intro g4 w2 HM4; have HR2 := hidk ((HM4.out.below.block _ (heap_lt HM2.out.row)).trans HM2.out.row); try simp only [Act.put, List.setIfInBounds_toArray, List.set_cons_zero, List.set_cons_succ])
      | (show wpList _ _ _ ({ dst := some 9, op := _, type := _, pos := _, after := _, guard := _ } :: _) _ _; refine wpList_load_row rfl 24 (.tmp 4) rfl g4 rfl 24 D (0, 0) _ HM4.out.row Tryd.underlying24 rfl HSD.out ?_; try simp only [Act.put, List.setIfInBounds_toArray, List.set_cons_zero, List.set_cons_succ])
      | (refine wpList_set_var rfl 24 (.tmp 2) (.tmp 9) rfl g2 D rfl rfl 24 D HR2.out HSD.out rfl H1D.out ?_; intro wz HW2; try simp only [Act.put, List.setIfInBounds_toArray, List.set_cons_zero, List.set_cons_succ])
      | fail)
    refine bodyPost_ret (v := .tuple #[.agg D, .bool false]) ?_ rfl ⟨rfl, HW2.out.below w.heap.size w (HM2.out.below.trans (HM4.out.below.mono HM2.out.below.size)) (Nat.le_of_eq HM2.out.new.symm)⟩
    exact results_row_tmp (p := 2) (q := 3) (ty := 24) rfl _ _ g2 24 D (0, 0) _ rfl HW2.out.row Tryd.underlying24 rfl HSD.out
end Go.Proofs.YtdnhnjimhbbabaaDoor

/- The keeper's Kept answers true where lent bytes and the marks behind them are as they were. -/
namespace Go.Proofs.YtdnhnjimhbbabaaDoor
open Go.RowKit Nums
set_option maxRecDepth 100000
theorem conv_reads {w : World} {a : Option Addr} {len cap : Nat} {l : List UInt8} (h : Reads w a len cap l) :
    Sem.run Tryd.prog (convert 35 9 (.slice a len cap)) w = .ok (.string ⟨l.toArray⟩) w := by
  obtain ⟨h1, h2, h3, ⟨rfl, h0⟩ | ⟨ad, rfl, h0⟩ | ⟨b, off, rfl, hlt, hc⟩⟩ := h
  · have hl : l = [] := List.eq_nil_of_length_eq_zero (by omega)
    subst hl
    exact run_convert_bytes_nil (P := Tryd.prog) w 35 5 Tryd.underlying35 Tryd.underlying5 len cap 9 Tryd.underlying9
  · subst h1
    exact run_convert_bytes_back (P := Tryd.prog) w 35 9 5 ad cap l Tryd.underlying35 Tryd.underlying5 Tryd.underlying9 (fun j hj => by omega)
  · subst h1
    exact run_convert_bytes_back (P := Tryd.prog) w 35 9 5 ⟨b, off, none⟩ cap l Tryd.underlying35 Tryd.underlying5 Tryd.underlying9 (fun j hj => by rw [add_plain]; exact hc j hj)
theorem reads_front {w : World} {g len k c : Nat} {l m : List UInt8} (h : Reads w (some ⟨g, 0, none⟩) (len + k) c (l ++ m)) (hl : l.length = len) : Reads w (some ⟨g, 0, none⟩) len c l := by
  obtain ⟨h1, h2, h3, ⟨h0, _⟩ | ⟨ad, _, h0⟩ | ⟨b, off, e, hlt, hc⟩⟩ := h
  · cases h0
  · exact ⟨hl, by omega, h3, .inr (.inl ⟨_, rfl, by omega⟩)⟩
  · refine ⟨hl, by omega, h3, .inr (.inr ⟨b, off, e, hlt, fun i hi => ?_⟩)⟩
    have := hc i (by simp; omega)
    rwa [List.getElem_append_left hi] at this
theorem marks_get (k j : Nat) (h : j < (marks k).length) : (marks k)[j] = 195 := by
  unfold marks; exact List.getElem_replicate _
theorem reads_mark {w : World} {g len c : Nat} {l : List UInt8} (h : Reads w (some ⟨g, 0, none⟩) (len + 7) c (l ++ marks 7)) (hl : l.length = len) (i : Nat) (h0 : len ≤ i) (hi : i < len + 7) :
    w.cell? ⟨g, i, none⟩ = some (.int .u8 195) := by
  obtain ⟨h1, h2, h3, ⟨h0, _⟩ | ⟨ad, _, h0⟩ | ⟨b, off, e, hlt, hc⟩⟩ := h
  · cases h0
  · omega
  · cases e
    have := hc i (by omega)
    rw [Nat.zero_add] at this
    rw [this, List.getElem_append_right (by omega), marks_get]
    rfl
set_option maxHeartbeats 1000000 in
theorem kept_any (g c : Nat) (a : Option Addr) (len cap : Nat) (l : List UInt8) (w : World) (ho : Reads w (some ⟨g, 0, none⟩) (len + 7) c (l ++ marks 7)) (hr : Reads w a len cap l) (hl : len ≤ 1048576) :
    Calls Tryd.prog 21 #[.slice (some ⟨g, 0, none⟩) len c, .slice a len cap] w fun e w' => e = .returned (.bool true) ∧ w = w' := by
  have c1 := conv_reads (reads_front ho hr.1)
  have c2 := conv_reads hr
  have hc1 : len + 7 ≤ c := ho.2.1
  have hc2 : c ≤ 9223372036854775807 := ho.2.2.1
  have HM : Hid (∀ i, len ≤ i → i < len + 7 → w.cell? ⟨g, i, none⟩ = some (.int .u8 195)) := fun i => reads_mark ho hr.1 i
  clear ho hr
  go_enter Tryd.func21, Tryd.ntmps21
  go_wp2
  go_loop [6] (fun i => ∃ k : Nat, len ≤ k ∧ k ≤ len + 7 ∧ i = .int .i64 k) (fun i => len + 7 - (intOf i).toNat)
  case atStart => exact ⟨len, Nat.le_refl _, by omega, rfl⟩
  case round =>
    obtain ⟨k, hk1, hk2, rfl⟩ := hrel
    clear c1 c2
    by_cases hlt : k < len + 7
    · have hcell := HM.out k hk1 hlt
      go_wp2
      go_round
      case rel => exact ⟨k + 1, by omega, by omega, by go_num⟩
      case measure => simp [intOf]; omega
    · go_wp2
      go_ret
      exact ⟨rfl, rfl⟩
end Go.Proofs.YtdnhnjimhbbabaaDoor

/- What the document's Bytes, May, BytesSigned and Tag answer. -/
namespace Go.Proofs.YtdnhnjimhbbabaaDoor
open Go.RowKit Sums Nums
set_option linter.unusedVariables false
set_option linter.unusedSimpArgs false
set_option maxRecDepth 100000
theorem cell_keep {W W' : World} {p : Addr} {v : Value} (hb : Below W.heap.size W W') (h : W.cell? p = some v) : W'.cell? p = some v := by
  rw [hb.cell (World.block_lt_of_cell? _ _ h)]; exact h
theorem HRow.keep {W W' : World} {g o : Nat} {h : HdT} (hr : HRow W g o h) (hb : Below W.heap.size W W') : HRow W' g o h :=
  ⟨cell_keep hb hr.r, cell_keep hb hr.e, cell_keep hb hr.s, range_keep hb hr.d, cell_keep hb hr.t⟩
theorem sizeH : (Tryd.prog.info? 26).map (·.size) = some 36 := by kernel_rfl
theorem sizeS : (Tryd.prog.info? 28).map (·.size) = some 69 := by kernel_rfl
theorem head_row (h : HdT) (hd : h.d.length = 32) : ∃ C : Array Value, Hid (C = (hcells h).toArray) ∧ Hid ((Tryd.prog.info? 26).map (·.size) = some C.size) ∧ Hid (C.size = 36) := by
  refine ⟨(hcells h).toArray, hidk rfl, ?_, ?_⟩
  · show _ = _
    rw [sizeH]; simp [hcells_length h hd]
  · show _ = _
    simp [hcells_length h hd]
end Go.Proofs.YtdnhnjimhbbabaaDoor

/- What the document's May, BytesSigned, PutSigned and Tag answer. -/
namespace Go.Proofs.YtdnhnjimhbbabaaDoor
open Go.RowKit Sums Nums
set_option linter.unusedVariables false
set_option linter.unusedSimpArgs false
set_option maxRecDepth 100000
/-- What the parts of a signed head's row read as. -/
structure SRow (W : World) (g o : Nat) (s : SgT) : Prop where
  h : W.rangeAt g o (hcells s.h)
  n : W.cell? ⟨g, o + 36, none⟩ = some (.int .i64 s.n)
  g : W.rangeAt g (o + 37) (cellsOf s.g)
theorem SRow.keep {W W' : World} {g o : Nat} {s : SgT} (hr : SRow W g o s) (hb : Below W.heap.size W W') : SRow W' g o s := ⟨range_keep hb hr.h, cell_keep hb hr.n, range_keep hb hr.g⟩
theorem srow_of {W : World} {g o : Nat} {s : SgT} (hd : s.h.d.length = 32) (hr : W.rangeAt g o (scells s)) : SRow W g o s := by
  have hl := hcells_length s.h hd
  refine ⟨?_, ?_, ?_⟩
  · intro j v hj
    have hlt := (List.getElem?_eq_some_iff.1 hj).1
    exact hr j v (by
      unfold scells
      rw [List.append_assoc, List.getElem?_append_left hlt]; exact hj)
  · exact hr 36 (.int .i64 s.n) (by
      unfold scells
      rw [List.append_assoc, List.getElem?_append_right (by omega), hl]
      rfl)
  · intro j v hj
    have hlt := (List.getElem?_eq_some_iff.1 hj).1
    have := hr (37 + j) v (by
      unfold scells
      rw [List.getElem?_append_right (by rw [List.length_append, hl, List.length_singleton]; omega), List.length_append, hl, List.length_singleton, show 37 + j - (36 + 1) = j by omega]
      exact hj)
    rw [Nat.add_assoc]; exact this
theorem srow_new (w : World) (s : SgT) (hd : s.h.d.length = 32) (C : Array Value) (HC : Hid (C = (scells s).toArray)) (t : TypeId) : SRow (w.alloc (.cells C t)) w.heap.size 0 s := by
  refine srow_of hd ?_
  intro j v hj
  rw [Nat.zero_add, cell_of_row _ _ j _ t (0, 0) (heap_alloc_new w _), HC.out]
  simpa using hj
set_option maxHeartbeats 2000000 in
theorem refMay_any (s : SgT) (hd : s.h.d.length = 32) (w : World) (C : Array Value) (HC : Hid (C = (scells s).toArray)) :
    Calls Tryd.prog 32 #[.agg C] w fun e w' => e = .returned (.bool (mayS s)) ∧ Below w.heap.size w w' := by
  have HR := hidk (srow_new w s hd C HC 28)
  have HB : Hid (Below w.heap.size w (w.alloc (.cells C 28))) := (Below.refl _ _).alloc (Nat.le_refl _) _
  obtain ⟨HCs, HHC, HSH, H36⟩ := head_row s.h hd
  have HRH : Hid ((w.alloc (.cells C 28)).rangeAt w.heap.size 0 HCs.toList) := by rw [HHC.out]; exact HR.out.h
  obtain ⟨n, Hn⟩ : ∃ n, Hid (n = s.n) := ⟨s.n, hidk rfl⟩
  obtain ⟨b1, hb1⟩ : ∃ b, rightH s.h = b := ⟨_, rfl⟩
  obtain ⟨b2, hb2⟩ : ∃ b, (decide (1 ≤ n) && decide (n ≤ 3)) = b := ⟨_, rfl⟩
  have R1 : Hid (∀ W, Calls Tryd.prog 27 #[.agg HCs] W fun e w' => e = .returned (.bool b1) ∧ Below W.heap.size W w') := fun W => by rw [← hb1]; exact refRight_any s.h hd W HCs HHC
  have W2 : Hid (∀ W, Calls Tryd.prog 28 #[.int .i64 n, .int .i64 1, .int .i64 3] W fun e w' => e = .returned (.bool b2) ∧ w' = W) := fun W => by rw [← hb2]; exact within_any n 1 3 W
  have hE : mayS s = (b1 && b2) := by
    rw [← hb1, ← hb2, Hn.out]
    unfold mayS
    rw [Bool.and_assoc]
  rw [hE]
  clear hE hb1 hb2 HC
  cases b1
  · go_enter Tryd.func32, Tryd.ntmps32
    go_wp2_with (first
      | (show wpList _ _ _ ({ dst := some 4, op := _, type := _, pos := _, after := _, guard := _ } :: _) _ _; refine wpList_mid rfl 26 (.tmp 3) rfl w.heap.size 0 rfl HCs _ HRH.out Tryd.underlying26 rfl HSH.out ?_; try simp only [Act.put, List.setIfInBounds_toArray, List.set_cons_zero, List.set_cons_succ])
      | fail)
    refine (R1.out _).mono ?_
    rintro e w1 ⟨rfl, hb⟩
    have HB1 := hidk (HB.out.trans (hb.mono HB.out.size))
    clear hb
    go_wp2
    go_ret
    exact ⟨rfl, HB1.out⟩
  · go_enter Tryd.func32, Tryd.ntmps32
    go_wp2_with (first
      | (show wpList _ _ _ ({ dst := some 4, op := _, type := _, pos := _, after := _, guard := _ } :: _) _ _; refine wpList_mid rfl 26 (.tmp 3) rfl w.heap.size 0 rfl HCs _ HRH.out Tryd.underlying26 rfl HSH.out ?_; try simp only [Act.put, List.setIfInBounds_toArray, List.set_cons_zero, List.set_cons_succ])
      | fail)
    refine (R1.out _).mono ?_
    rintro e w1 ⟨rfl, hb⟩
    have HB1 := hidk (HB.out.trans (hb.mono HB.out.size))
    have hc := (HR.out.keep hb).n
    rw [← Hn.out, Nat.zero_add] at hc
    clear hb
    go_wp2_with fail
    refine (W2.out _).mono ?_
    rintro e w2 ⟨rfl, rfl⟩
    go_wp2
    go_ret
    exact ⟨rfl, HB1.out⟩
end Go.Proofs.YtdnhnjimhbbabaaDoor

/- Structs of numbers and digests: heads and signed heads, built and compared. -/
namespace Go.Proofs.YtdnhnjimhbbabaaDoor
open Go.RowKit Sums Nums
set_option linter.unusedVariables false
set_option linter.unusedSimpArgs false
set_option maxRecDepth 100000
theorem fold_set (D : List Value) : ∀ (k off : Nat) (cs : Array Value) (pre old rest : List Value), cs.toList = pre ++ old ++ rest → pre.length = off + k → old.length = D.length →
    ((D.zipIdx k).foldl (fun cs (c, j) => cs.setIfInBounds (off + j) c) cs).toList = pre ++ D ++ rest := by
  induction D with
  | nil =>
    intro k off cs pre old rest h hp ho
    have : old = [] := List.eq_nil_of_length_eq_zero ho
    subst this
    simpa using h
  | cons d D ih =>
    intro k off cs pre old rest h hp ho
    match old, ho with
    | x :: old, ho =>
      rw [List.zipIdx_cons, List.foldl_cons]
      have := ih (k + 1) off (cs.setIfInBounds (off + k) d) (pre ++ [d]) old rest (by
        rw [Array.toList_setIfInBounds, h, ← hp]
        simp) (by simp; omega) (by simpa using ho)
      rw [this]
      simp
/-- A struct that is built, where the order is drawn. -/
theorem yieldsIf_build {P : Program} {ops : Array Oper} {S : World → Prop} {o : Oper} {a : Act} (hw : Region.wanted o (yielded ops a.tmps) = true) (t : TypeId) (parts : Array (Nat × Operand)) (ho : o.op = .build t parts) (vals : Array (Nat × Value)) (hv : (parts.toList.map fun p => (p.1, a.eval p.2)) = vals.toList)
    (v : Value) (hrun : ∀ W, (Instr.build t vals).run P W = .ok v W) : YieldsIf P ops S o v a :=
  .inl ⟨hw, fun w _ => by
    have hv' : (parts.map fun (i, x) => (i, a.eval x)) = vals := by
      apply Array.ext'
      rw [Array.toList_map, ← hv]
    subst hv'
    unfold execOp
    simp only [ho, Sem.run_bind, hrun, Result.andThen_ok]
    rfl⟩
theorem fill_val (place : Nat → Option (Nat × Nat)) (i off n : Nat) (v : Value) (D cs : Array Value) (pre old post : List Value) (more : List (Nat × Value)) (hv : v.cells = D) (hp : place i = some (off, n)) (hn : D.size = n) (hcs : cs.toList = pre ++ old ++ post) (hpre : pre.length = off) (hold : old.length = n) :
    Instr.fill place cs ((i, v) :: more) = Instr.fill place (pre ++ D.toList ++ post).toArray more := by
  have hcz : cs.size = off + n + post.length := by rw [← Array.length_toList, hcs]; simp only [List.length_append, hpre, hold]
  conv => lhs; unfold Instr.fill
  simp only [hp, hv, hn]
  rw [if_neg (by simp; omega)]
  congr 1
  apply Array.ext'
  have := fold_set D.toList 0 off cs pre old post hcs (by omega) (by rw [hold, Array.length_toList, hn])
  rw [← this, ← Array.foldl_toList]
  congr 2
  simp
def zeroH : HdT := ⟨0, 0, 0, List.replicate 32 0, 0⟩
def zeroS : SgT := ⟨zeroH, 0, List.replicate 32 0⟩
theorem infoH : (Tryd.prog.info? 26).map (fun i => (i.zero, i.size)) = some (some (.agg (hcells zeroH).toArray), 36) := by kernel_rfl
theorem infoS : (Tryd.prog.info? 28).map (fun i => (i.zero, i.size)) = some (some (.agg (scells zeroS).toArray), 69) := by kernel_rfl
theorem builtH0 : Tryd.prog.built 26 [] = some (hcells zeroH).toArray := by kernel_rfl
theorem builtS0 : Tryd.prog.built 28 [] = some (scells zeroS).toArray := by kernel_rfl
theorem one_cells (h : HdT) : (hcells h).toArray.all (·.oneCell') = true := by
  rw [List.all_toArray, List.all_eq_true]
  intro v hv
  unfold hcells at hv
  simp only [List.mem_append, List.mem_cons, List.not_mem_nil, or_false] at hv
  rcases hv with ((rfl | rfl | rfl) | hv) | rfl
  · rfl
  · rfl
  · rfl
  · exact cellsOf_one _ v hv
  · rfl
theorem one_cellsS (s : SgT) : (scells s).toArray.all (·.oneCell') = true := by
  rw [List.all_toArray, List.all_eq_true]
  intro v hv
  unfold scells at hv
  simp only [List.mem_append, List.mem_cons, List.not_mem_nil, or_false] at hv
  rcases hv with (hv | rfl) | hv
  · have := one_cells s.h
    rw [List.all_toArray, List.all_eq_true] at this
    exact this v hv
  · rfl
  · exact cellsOf_one _ v hv
theorem head_row5 (h : HdT) (hd : h.d.length = 32) : ∃ C : Array Value, Hid (C = (hcells h).toArray) ∧ Hid ((Tryd.prog.info? 26).map (·.size) = some C.size) ∧ Hid (C.all (·.oneCell') = true) ∧ Hid (C.size = 36) := by
  refine ⟨(hcells h).toArray, hidk rfl, ?_, one_cells h, ?_⟩
  · show _ = _
    rw [sizeH]; simp [hcells_length h hd]
  · show _ = _
    simp [hcells_length h hd]
theorem sign_row (s : SgT) (hd : s.h.d.length = 32) (hg : s.g.length = 32) : ∃ C : Array Value, Hid (C = (scells s).toArray) ∧ Hid ((Tryd.prog.info? 28).map (·.size) = some C.size) ∧ Hid (C.all (·.oneCell') = true) ∧ Hid (C.size = 69) := by
  refine ⟨(scells s).toArray, hidk rfl, ?_, one_cellsS s, ?_⟩
  · show _ = _
    rw [sizeS]; simp [scells_length s hd hg]
  · show _ = _
    simp [scells_length s hd hg]
theorem noughtsH : ∃ Z : Array Value, Hid (Z = (hcells zeroH).toArray) ∧ Hid ((Tryd.prog.info? 26).map (fun i => (i.zero, i.size)) = some (some (.agg Z), Z.size)) ∧ Hid (Tryd.prog.built 26 [] = some Z) ∧ Hid (Z.size = 36) :=
  ⟨(hcells zeroH).toArray, hidk rfl, infoH, builtH0, hidk rfl⟩
theorem noughtsS : ∃ Z : Array Value, Hid (Z = (scells zeroS).toArray) ∧ Hid ((Tryd.prog.info? 28).map (fun i => (i.zero, i.size)) = some (some (.agg Z), Z.size)) ∧ Hid (Tryd.prog.built 28 [] = some Z) ∧ Hid (Z.size = 69) :=
  ⟨(scells zeroS).toArray, hidk rfl, infoS, builtS0, hidk rfl⟩
theorem builtS (s : SgT) (hd : s.h.d.length = 32) (hg : s.g.length = 32) (C D R : Array Value) (HC : Hid (C = (hcells s.h).toArray)) (HD : Hid (D = (cellsOf s.g).toArray)) (HR : Hid (R = (scells s).toArray)) : Tryd.prog.built 28 [(0, .agg C), (1, .int .i64 s.n), (2, .agg D)] = some R := by
  have hi := infoS
  have hzl := hcells_length zeroH rfl
  cases hq : Tryd.prog.info? 28 with
  | none => rw [hq] at hi; cases hi
  | some i =>
    rw [hq] at hi
    simp only [Option.map_some, Option.some.injEq, Prod.mk.injEq] at hi
    have hH := sizeH
    have hD := size23
    have h3 : (Tryd.prog.info? 3).map (·.size) = some 1 := by kernel_rfl
    cases hqH : Tryd.prog.info? 26 with
    | none => rw [hqH] at hH; cases hH
    | some iH =>
      cases hqD : Tryd.prog.info? 24 with
      | none => rw [hqD] at hD; cases hD
      | some iD =>
        cases hq3 : Tryd.prog.info? 3 with
        | none => rw [hq3] at h3; cases h3
        | some i3 =>
          rw [hqH] at hH
          rw [hqD] at hD
          rw [hq3] at h3
          simp only [Option.map_some, Option.some.injEq] at hH hD h3
          unfold Program.built
          simp only [hq, Tryd.underlying28, hi.1, List.mapM_cons, List.mapM_nil, hqH, hqD, hq3, hH, hD, h3, Option.map_some, Option.bind_eq_bind, Option.bind_some, Option.pure_def]
          show Instr.fill _ (scells zeroS).toArray _ = some R
          have hc36 : C.size = 36 := by rw [HC.out]; simp [hcells_length s.h hd]
          have hd32 : D.size = 32 := by rw [HD.out]; simp [cellsOf_length, hg]
          refine (fill_val _ 0 0 36 (.agg C) C _ [] (hcells zeroH) ([.int .i64 0] ++ cellsOf (List.replicate 32 0)) _ rfl rfl hc36 (by simp [scells, zeroS]) rfl hzl).trans ?_
          refine (fill_val _ 1 36 1 (.int .i64 s.n) #[.int .i64 s.n] _ C.toList [.int .i64 0] (cellsOf (List.replicate 32 0)) _ rfl rfl rfl (by simp) (by simpa using hc36) rfl).trans ?_
          refine (fill_val _ 2 37 32 (.agg D) D _ (C.toList ++ [.int .i64 s.n]) (cellsOf (List.replicate 32 0)) [] _ rfl rfl hd32 (by simp) (by simp [hc36]) (by simp [cellsOf_length])).trans ?_
          simp only [Instr.fill, List.append_nil, Option.some.injEq]
          rw [HR.out, HC.out, HD.out]
          rfl
end Go.Proofs.YtdnhnjimhbbabaaDoor

/- What the document's Tag, Sign and Verify answer. -/
namespace Go.Proofs.YtdnhnjimhbbabaaDoor
open Go.RowKit Sums Nums
set_option linter.unusedVariables false
set_option linter.unusedSimpArgs false
set_option maxRecDepth 100000
/-- What Sign answers. -/
def signsO (h : HdT) (n : Int) : Bool := rightH h && (decide (1 ≤ n) && decide (n ≤ 3))
def signO (master : List UInt8) (h : HdT) (n : Int) : SgT := if signsO h n = true then ⟨h, n, tagD master h n⟩ else zeroS
def signE (h : HdT) (n : Int) : Int := if signsO h n = true then 0 else 70
theorem signsO_owner (h : HdT) (n : Int) (hs : signsO h n = true) : owner h.r n = true := by
  unfold signsO at hs
  simp only [Bool.and_eq_true, decide_eq_true_eq] at hs
  have := (rightH_iff h).1 hs.1
  exact (owner_iff _ _).2 (by omega)
theorem built_sign (W : World) (s : SgT) (hd : s.h.d.length = 32) (hg : s.g.length = 32) (C D R : Array Value) (HC : Hid (C = (hcells s.h).toArray)) (HD : Hid (D = (cellsOf s.g).toArray)) (HR : Hid (R = (scells s).toArray)) (n : Int) (hn : n = s.n) : (Instr.build 28 #[(0, .agg C), (1, .int .i64 n), (2, .agg D)]).run Tryd.prog W = .ok (.agg R) W := by
  subst hn
  exact run_build W 28 _ R (builtS s hd hg C D R HC HD HR)
end Go.Proofs.YtdnhnjimhbbabaaDoor

/- pack.appendField at whatever tag: its lowest byte. -/
namespace Go.Proofs.YtdnhnjimhbbabaaDoor
open Go.RowKit Nums
set_option maxRecDepth 100000
/-- Whatever is no row of elements of type T lies as it lay. -/
def Spares (T : TypeId) (w w' : World) : Prop := ∀ (b : Nat) (o : Obj), w.heap[b]? = some o → (∀ c m, o ≠ Obj.cells c T m) → w'.heap[b]? = some o
theorem Spares.refl (T : TypeId) (w : World) : Spares T w w := fun _ _ h _ => h
theorem Spares.trans {T : TypeId} {a b c : World} (h : Spares T a b) (k : Spares T b c) : Spares T a c := fun i o hi ho => k i o (h i o hi ho) ho
theorem Spares.below {T : TypeId} {a b : World} (h : Below a.heap.size a b) : Spares T a b := fun i _ hi _ => (h.block i (Array.getElem?_eq_some_iff.1 hi).1).trans hi
theorem Spares.alloc (T : TypeId) (w : World) (o : Obj) : Spares T w (w.alloc o) := Spares.below ((Below.refl _ _).alloc (Nat.le_refl _) _)
theorem Spares.drew (T : TypeId) (w : World) : Spares T w w.drew := fun _ _ h _ => h
theorem Spares.grown {T : TypeId} {w w' : World} {B size n : Nat} {v : Value} {xs : List Value} (hown : w.ownsRow B T size v n xs) (hg : w.grownBy w' v.ownBlock) : Spares T w w' := by
  intro i o hi ho
  refine (hg.block i (Array.getElem?_eq_some_iff.1 hi).1 ?_).trans hi
  intro e
  rcases hown.2 with ⟨rfl, _⟩ | ⟨g, cap, cur, rfl, _, hgb, _⟩
  · simp [Value.ownBlock] at e
  · obtain rfl : i = g := by simpa [Value.ownBlock] using e
    rw [hgb] at hi
    cases hi
    exact ho _ _ rfl
theorem head_cellsI (tag : Int) (d : ByteArray) (hd : d.size ≤ 65536) :
    [Value.int .u8 (tag % 256), .int .u8 ((d.size : Int) / 65536), .int .u8 ((d.size : Int) / 256 % 256), .int .u8 ((d.size : Int) % 256)] ++ Lib.strCells d = cellsOf (fieldBytesI tag d.data.toList) := by
  have hl : d.data.toList.length = d.size := by simp
  have e1 : tag % 256 = ((UInt8.ofNat (tag % 256).toNat).toNat : Int) := by rw [UInt8.toNat_ofNat']; omega
  have e2 : (d.size : Int) / 65536 = (d.size : Int) / 65536 % 256 := by omega
  rw [cellsOf_str, fieldBytesI, hl, e2]
  simp only [cellsOf, List.map_cons, List.cons_append, List.nil_append, byte_mod, ← e1]
  rfl
set_option maxHeartbeats 1000000 in
theorem appendField_int (v : Value) (l : List UInt8) (B : Nat) (tag : Int) (d : ByteArray) (w : World) (hd : d.size ≤ 65536) (hB : B ≤ w.heap.size) (hl : l.length ≤ 1099511627776)
    (hown : w.ownsRow B 5 1 v l.length (cellsOf l)) :
    Calls Tryd.prog 58 #[v, .agg #[.int .i64 tag, .string d]] w fun e w' => ∃ v', e = .returned v' ∧
      w'.ownsRow B 5 1 v' (l ++ fieldBytesI tag d.data.toList).length (cellsOf (l ++ fieldBytesI tag d.data.toList)) ∧ Below B w w' ∧ Spares 5 w w' := by
  obtain ⟨i0, hi, hz0, hz1, hz2⟩ := info_parts info5
  have HL : Hid (l.length ≤ 1099511627776) := hl
  clear hl
  go_enter Tryd.func58, Tryd.ntmps58
  go_wp2_with (first
    | (at_builtin; refine wpList_append_own _ rfl (.tmp 9) (.tmp 21) 35 rfl B 5 i0 (.int .u8 0) 1 1 Tryd.underlying35 hi hz0 hz1 hz2 rfl (by decide) _ _ _ rfl ((hown.alloc _).alloc _) ⟨w.heap.size + 1, 0, none⟩ 4 4 [.int .u8 (tag % 256), .int .u8 ((d.size : Int) / 65536), .int .u8 ((d.size : Int) / 256 % 256), .int .u8 ((d.size : Int) % 256)] rfl rfl ?c1 ?c2 ?c3 ?c4 ?c5 ?_)
    | fail)
  case c1 =>
    intro j u hj
    match j, hj with
    | 0, hj => simp at hj; subst hj; simp [Addr.add]
    | 1, hj => simp at hj; subst hj; simp [Addr.add]
    | 2, hj => simp at hj; subst hj; simp [Addr.add]
    | 3, hj => simp at hj; subst hj; simp [Addr.add]
  case c2 => intro u hu; simp at hu; rcases hu with rfl | rfl | rfl | rfl <;> rfl
  case c3 => have := HL.out; unfold maxLen; omega
  case c4 => have := HL.out; omega
  case c5 => simp; omega
  intro v1 w1 hown1 hgrow1 _
  have hb1 : Below B w w1 := (((Below.refl _ _).alloc hB _).alloc (by simp; omega) _).grown hgrow1 (by simp; omega) (row_low hown)
  have hs1 : Spares 5 w w1 := ((Spares.alloc 5 w _).trans (Spares.alloc 5 _ _)).trans (Spares.grown ((hown.alloc _).alloc _) hgrow1)
  have HS1 : Hid (Spares 5 w w1) := hs1
  clear hs1
  have hbox : w1.cell? ⟨w.heap.size, 1, none⟩ = some (.string d) := by
    refine hgrow1.cell ?_ ?_
    · simp
    · intro e; have := (hown.lt _ e.symm).2; simp at this
  clear hgrow1
  go_wp2_with (first
    | (at_builtin; refine Lib.wpList_append_own_string _ rfl (.tmp 23) (.tmp 25) 35 9 rfl B 5 i0 Tryd.underlying35 Tryd.underlying9 hi hz0 hz1 hz2 _ _ _ rfl hown1 d rfl ?d1 ?d2 ?d3 ?_)
    | fail)
  case d1 => have := HL.out; unfold maxLen; omega
  case d2 => have := HL.out; omega
  case d3 => exact Nat.le_trans hB hb1.size
  intro v2 w2 hown2 hgrow2 _
  have hb2 : Below B w w2 := hb1.grown hgrow2 (Nat.le_trans hB hb1.size) (row_low hown1)
  have HS2 : Hid (Spares 5 w w2) := HS1.out.trans (Spares.grown hown1 hgrow2)
  have hown3 : w2.ownsRow B 5 1 v2 (l ++ fieldBytesI tag d.data.toList).length (cellsOf (l ++ fieldBytesI tag d.data.toList)) := by
    have e1 : (l ++ fieldBytesI tag d.data.toList).length = l.length + 4 + d.size := by
      rw [List.length_append, fieldBytesI_length]; simp; omega
    rw [e1, cellsOf_append, ← head_cellsI tag d hd]
    simpa only [List.append_assoc, List.cons_append, List.nil_append] using hown2
  clear hown2 hgrow2 hown1 hbox
  go_wp2
  go_ret
  exact ⟨_, rfl, hown3, hb2, HS2.out⟩
end Go.Proofs.YtdnhnjimhbbabaaDoor

/- The iterator of pack.judged: each field of a row with what is wrong with it where it stands. -/
namespace Go.Proofs.YtdnhnjimhbbabaaDoor
open Go.RowKit Go.Shelf Nums
set_option maxRecDepth 100000

attribute [local go_sem] Oper.semAt_some
def encJ (x : Jd) : Array Value := #[.agg #[.int .i64 x.tag, .string x.d], .int .i64 x.e]
/-- What a round keeps: all below n₀, and all fields' blocks. -/
def KpJ (n₀ : Nat) (W W' : World) : Prop := Below n₀ W W' ∧ ∀ (b : Nat) (c : Array Value) (m : Nat × Nat), W.heap[b]? = some (Obj.cells c 59 m) → W'.heap[b]? = some (Obj.cells c 59 m)
theorem kpJ_t {n₀ : Nat} {A B C : World} (h : KpJ n₀ A B) (k : KpJ n₀ B C) : KpJ n₀ A C := ⟨h.1.trans k.1, fun b c m hb => k.2 b c m (h.2 b c m hb)⟩
theorem kpJ_b {n₀ : Nat} {w : World} (hn : n₀ ≤ w.heap.size) (W : World) (l : Nat) (o o' : Obj) (hl : w.heap.size ≤ l) (h : W.heap[l]? = some o) (hc : o.isCells = false) (hw : o.isWalk = false) : KpJ n₀ W (W.putObj l o') := by
  refine ⟨belowK_b hn W l o o' hl h hc hw, fun b c m hb => ?_⟩
  have hne : some b ≠ some l := by
    intro e
    cases e
    rw [h] at hb
    cases hb
    cases hc
  rw [(grownBy_putObj' W l o').block b (Array.getElem?_eq_some_iff.1 hb).1 hne]
  exact hb
theorem grown_of_below {w w' : World} (h : Below w.heap.size w w') : w.grownBy w' none := ⟨h.os, h.tape, h.output, h.size, fun k hk _ => h.block k hk⟩
/-- A slice of fields that can be read: its fields are fs. -/
def FReads (n₀ : Nat) (w : World) (a : Option Addr) (len cap : Nat) (fs : List (Int × ByteArray)) : Prop :=
  fs.length = len ∧ len ≤ cap ∧ cap ≤ 9223372036854775807 ∧ (∀ f ∈ fs, f.2.size ≤ maxLen) ∧
  ((a = none ∧ cap = 0) ∨ (∃ ad, a = some ad ∧ len = 0) ∨ ∃ b off, a = some ⟨b, off, none⟩ ∧ b < n₀ ∧ ∀ (i : Nat) (h : i < fs.length), w.cell? ⟨b, off + i * 2, none⟩ = some (.int .i64 fs[i].1) ∧ w.cell? ⟨b, off + i * 2 + 1, none⟩ = some (.string fs[i].2))
set_option maxRecDepth 100000 in
set_option maxHeartbeats 2000000 in
theorem judged1_in (n : Nat) (hn : 1 ≤ n) (l Bs n₀ b off len cap : Nat) (fs : List (Int × ByteArray)) (hlen : fs.length = len) (hm : len ≤ 9223372036854775807) (hb : b < n₀) (hfs : ∀ f ∈ fs, f.2.size ≤ maxLen) (J Jx : List Jd → World → Prop)
    (W : World) (hJ : AbidesFrom W.heap.size J) (hn₀ : n₀ ≤ W.heap.size)
    (hY : ∀ pre x W, J pre W → pre.length < len → YieldAt Fence.wide (n - 1) Tryd.prog l (encJ x) W fun e W' =>
      (e = .returned (.bool true) ∧ J (pre ++ [x]) W' ∧ KpJ n₀ W W') ∨ (e = .returned (.bool false) ∧ Jx (pre ++ [x]) W'))
    (hBs : W.cell? ⟨Bs, 0, none⟩ = some (.slice (some ⟨b, off, none⟩) len cap))
    (hc : ∀ (i : Nat) (h : i < fs.length), W.cell? ⟨b, off + i * 2, none⟩ = some (.int .i64 fs[i].1) ∧ W.cell? ⟨b, off + i * 2 + 1, none⟩ = some (.string fs[i].2)) (h0 : J [] W) :
    CallsIn Fence.wide n Tryd.prog 73 #[.func (.yield l) #[] #[], .pointer (some ⟨Bs, 0, none⟩)] W fun e W' => (∃ v, e = .returned v) ∧
      ((∃ ys, ys = judge 0 fs ∧ J ys W') ∨ (∃ pre, pre <+: judge 0 fs ∧ Jx pre W')) := by
  refine callsIn_of_wp Tryd.func73 rfl trivial ?_ rfl
  simp only [Tryd.ntmps73, List.size_toArray, List.length_cons, List.length_nil, Nat.reduceAdd, Nat.reduceSub, Array.replicate_succ, Array.replicate_zero, List.push_toArray, List.append_toArray, List.nil_append, List.cons_append]
  gi_wp2
  gi_loopw [3, 8] (fun t i wr => ∃ (k : Nat) (last : Int) (pre : List Jd), k ≤ len ∧ i = .int .i64 k ∧ t = .int .i64 last ∧ Hid (pre.length = k) ∧ Hid (judge 0 fs = pre ++ judge last (fs.drop k)) ∧ J pre wr ∧ Below n₀ W wr ∧ W.heap.size ≤ wr.heap.size)
    (fun _ i _ => len - (intOf i).toNat)
  case atStart => exact ⟨0, 0, [], Nat.zero_le _, rfl, rfl, rfl, by simp [Hid], h0, Below.refl _ _, Nat.le_refl _⟩
  case round =>
    obtain ⟨k, last, pre, hk, rfl, rfl, HP, HJD, hJs, hnx, hsz⟩ := hrel
    by_cases hlt : k < len
    · obtain ⟨hc0, hc1⟩ := hc k (by omega)
      have hd0 : wr.cell? ⟨b, off + k * 2, none⟩ = some (.int .i64 (fs[k]'(by omega)).1) := (hnx.cell (p := ⟨b, off + k * 2, none⟩) hb).trans hc0
      have hd1 : wr.cell? ⟨b, off + k * 2 + 1, none⟩ = some (.string (fs[k]'(by omega)).2) := (hnx.cell (p := ⟨b, off + k * 2 + 1, none⟩) hb).trans hc1
      obtain ⟨f, hf⟩ : ∃ f, f = fs[k]'(by omega) := ⟨_, rfl⟩
      rw [← hf] at hd0 hd1
      have HF : Hid (fs.drop k = f :: fs.drop (k + 1)) := by show _ = _; rw [hf]; exact List.drop_eq_getElem_cons (by omega)
      have HM : Hid (f.2.size ≤ maxLen) := hfs f (by rw [hf]; exact List.getElem_mem _)
      have hlen' : (k : Int) < (len : Int) := by omega
      clear hc0 hc1 hc hf hBs
      have HX : Hid (∀ W1, Below (wr.heap.size + 1) (wr.alloc (.cells #[.int .i64 f.1, .string f.2] 59)).drew W1 → W1.cell? ⟨wr.heap.size, 0, none⟩ = some (.int .i64 f.1) ∧ W1.cell? ⟨wr.heap.size, 1, none⟩ = some (.string f.2) ∧
          W1.heap[wr.heap.size]? = some (.cells #[.int .i64 f.1, .string f.2] 59 (0, 0)) ∧ Below n₀ W W1 ∧ W.heap.size ≤ W1.heap.size ∧
          ∃ fn tmps assign body, (Instr.yield l #[.agg #[.int .i64 f.1, .string f.2], .int .i64 (faultOf last f.1 f.2.size)]).run Tryd.prog W1 = .ok (.round l fn tmps assign body) W1 ∧
            RoundIn Fence.wide (n - 1) Tryd.prog l fn tmps assign body W1 fun e W' => ∃ bb, e = .returned (.bool bb) ∧ ((bb = true ∧ J (pre ++ [⟨f.1, f.2, faultOf last f.1 f.2.size, fault_ok last f.1 f.2⟩]) W' ∧ KpJ n₀ W1 W') ∨ (bb = false ∧ Jx (pre ++ [⟨f.1, f.2, faultOf last f.1 f.2.size, fault_ok last f.1 f.2⟩]) W'))) := by
        intro W1 hb1
        have hbw : Below wr.heap.size wr W1 := (((Below.refl _ wr).alloc (Nat.le_refl _) _).drew).trans (hb1.mono (by omega))
        have hblk : W1.heap[wr.heap.size]? = some (.cells #[.int .i64 f.1, .string f.2] 59 (0, 0)) := (hb1.block wr.heap.size (by omega)).trans (World.alloc_heap_new wr _)
        obtain ⟨fn, tmps, assign, body, hy, hR⟩ := hY pre ⟨f.1, f.2, faultOf last f.1 f.2.size, fault_ok last f.1 f.2⟩ W1 (hJ pre wr W1 none hJs (grown_of_below hbw) (fun r e => by cases e)) (by rw [HP.out]; exact hlt)
        refine ⟨by simp [World.cell?, hblk], by simp [World.cell?, hblk], hblk, hnx.trans (hbw.mono (Nat.le_trans hn₀ hsz)), Nat.le_trans hsz hbw.size, fn, tmps, assign, body, hy, hR.mono ?_⟩
        rintro e W' (⟨he, h2, h3⟩ | ⟨he, h2⟩)
        · exact ⟨true, he, .inl ⟨rfl, h2, h3⟩⟩
        · exact ⟨false, he, .inr ⟨rfl, h2⟩⟩
      clear hY
      have hmo : Tryd.prog.follows Departure.mixedOrders = true := by kernel_rfl
      gi_wp2
      gi_region_with_o (first
        | (refine ⟨trivial, ?_⟩; gi_at_call 74; refine (callsIn_wide.2 (fault_any last f.1 f.2 _ HM.out)).mono ?_; rintro e W1 ⟨rfl, hb1⟩; obtain ⟨q0, q1, hblk, hn1, hs1, fn, tmps, assign, body, hy, hR⟩ := HX.out W1 (by simpa using hb1))
        | (refine hR.mono ?_; rintro e W3 ⟨bb, rfl, hbb⟩))
      all_goals
        rcases hbb with ⟨rfl, hJ3, hk3⟩ | ⟨rfl, hJx3⟩
        · have hq3 : W3.cell? ⟨wr.heap.size, 0, none⟩ = some (.int .i64 f.1) := by simp [World.cell?, hk3.2 _ _ _ hblk]
          have HN : Hid (judge 0 fs = (pre ++ [⟨f.1, f.2, faultOf last f.1 f.2.size, fault_ok last f.1 f.2⟩]) ++ judge f.1 (fs.drop (k + 1))) := by
            show _ = _
            rw [HJD.out, HF.out, judge]; simp
          have HL : Hid ((pre ++ [(⟨f.1, f.2, faultOf last f.1 f.2.size, fault_ok last f.1 f.2⟩ : Jd)]).length = k + 1) := by
            show _ = _
            rw [List.length_append, HP.out]; rfl
          have HB3 : Hid (Below n₀ W W3 ∧ W.heap.size ≤ W3.heap.size) := ⟨hn1.trans hk3.1, Nat.le_trans hs1 hk3.1.size⟩
          clear hy hR hn1 hs1 hk3 hblk q0 q1 hb1 hd0 hd1
          gi_wp2
          go_roundw
          case rel => exact ⟨k + 1, f.1, _, by omega, by go_num, rfl, HL, HN, hJ3, HB3.out.1, HB3.out.2⟩
          case measure => simp [intOf]; omega
        · have HPX : Hid ((pre ++ [(⟨f.1, f.2, faultOf last f.1 f.2.size, fault_ok last f.1 f.2⟩ : Jd)]) <+: judge 0 fs) := by
            show _ <+: _
            rw [HJD.out, HF.out, judge]; exact ⟨judge f.1 (fs.drop (k + 1)), by simp⟩
          clear hy hR hblk q0 q1 hb1 hd0 hd1
          gi_wp2
          refine bodyPost_ret (results_none rfl _ _ _) rfl ?_
          exact ⟨⟨_, rfl⟩, .inr ⟨_, HPX.out, hJx3⟩⟩
    · have HE : Hid (pre = judge 0 fs) := by
        show _ = _
        rw [HJD.out, List.drop_of_length_le (by omega), judge, List.append_nil]
      clear hY
      gi_wp2
      go_end0
      exact ⟨⟨_, rfl⟩, .inl ⟨pre, HE.out, hJs⟩⟩
set_option maxRecDepth 100000 in
set_option maxHeartbeats 1000000 in
theorem judged1_none (n : Nat) (l Bs cap : Nat) (a : Option Addr) (J : List Jd → World → Prop) (W : World) (hBs : W.cell? ⟨Bs, 0, none⟩ = some (.slice a 0 cap)) (h0 : J [] W) :
    CallsIn Fence.wide n Tryd.prog 73 #[.func (.yield l) #[] #[], .pointer (some ⟨Bs, 0, none⟩)] W fun e W' => (∃ v, e = .returned v) ∧ J [] W' := by
  refine callsIn_of_wp Tryd.func73 rfl trivial ?_ rfl
  simp only [Tryd.ntmps73, List.size_toArray, List.length_cons, List.length_nil, Nat.reduceAdd, Nat.reduceSub, Array.replicate_succ, Array.replicate_zero, List.push_toArray, List.append_toArray, List.nil_append, List.cons_append]
  gi_wp2
  gi_loopw [3, 8] (fun t i wr => t = .int .i64 0 ∧ i = .int .i64 0 ∧ J [] wr) (fun _ _ _ => 0)
  case atStart => exact ⟨rfl, rfl, h0⟩
  case round =>
    obtain ⟨rfl, rfl, hJs⟩ := hrel
    gi_wp2
    go_end0
    exact ⟨⟨_, rfl⟩, hJs⟩
set_option maxHeartbeats 1000000 in
theorem judged_in (n : Nat) (a : Option Addr) (len cap : Nat) (w : World) :
    CallsIn Fence.wide n Tryd.prog 57 #[.slice a len cap] w fun e w' => e = .returned (.func (.func 73) #[] #[.pointer (some ⟨w.heap.size, 0, none⟩)]) ∧ w' = w.alloc (.cells #[.slice a len cap] 62) := by
  refine callsIn_of_wp Tryd.func57 rfl trivial ?_ rfl
  simp only [Tryd.ntmps57, List.size_toArray, List.length_cons, List.length_nil, Nat.reduceAdd, Nat.reduceSub, Array.replicate_succ, Array.replicate_zero, List.push_toArray, List.append_toArray, List.nil_append, List.cons_append]
  gi_wp2
  go_ret
  exact ⟨rfl, rfl⟩
theorem FReads.below {n₀ : Nat} {A B : World} (h : Below n₀ A B) {a : Option Addr} {len cap : Nat} {fs : List (Int × ByteArray)} (hr : FReads n₀ A a len cap fs) : FReads n₀ B a len cap fs := by
  obtain ⟨h1, h2, h3, h4, h5⟩ := hr
  refine ⟨h1, h2, h3, h4, ?_⟩
  rcases h5 with h5 | h5 | ⟨b, off, e, hb, hc⟩
  · exact .inl h5
  · exact .inr (.inl h5)
  · exact .inr (.inr ⟨b, off, e, hb, fun i hi => ⟨(h.cell (p := ⟨b, off + i * 2, none⟩) hb).trans (hc i hi).1, (h.cell (p := ⟨b, off + i * 2 + 1, none⟩) hb).trans (hc i hi).2⟩⟩)
/-- judged hands back a value that goes through all, or through a part. -/
theorem judged_stops (n : Nat) (hn : 1 ≤ n) (Bs n₀ : Nat) (a : Option Addr) (len cap : Nat) (fs : List (Int × ByteArray)) (w : World) (hBs : Bs < w.heap.size) (hn₀ : n₀ ≤ w.heap.size)
    (hc : w.cell? ⟨Bs, 0, none⟩ = some (.slice a len cap)) (hI : FReads n₀ w a len cap fs) :
    SeqStopsK Fence.wide n Tryd.prog 73 #[.pointer (some ⟨Bs, 0, none⟩)] encJ (KpJ n₀) (fun ys => ys = judge 0 fs) (fun pre => pre <+: judge 0 fs) len w := fun l J Jx W hW hJ _ hY h0 => by
  have hc' := (hW.cell (p := ⟨Bs, 0, none⟩) hBs).trans hc
  obtain ⟨h1, h2, h3, h4, h5⟩ := hI.below (hW.mono hn₀)
  have hz : len = 0 → CallsIn Fence.wide n Tryd.prog 73 (#[.func (.yield l) #[] #[]] ++ #[.pointer (some ⟨Bs, 0, none⟩)]) W fun e W' => (∃ v, e = .returned v) ∧ ((∃ xs, xs = judge 0 fs ∧ J xs W') ∨ (∃ pre, pre <+: judge 0 fs ∧ Jx pre W')) := by
    intro hl
    subst hl
    have hf : fs = [] := List.eq_nil_of_length_eq_zero h1
    exact (judged1_none n l Bs cap a J W hc' h0).mono fun e W' ⟨he, hj⟩ => ⟨he, .inl ⟨_, by rw [hf]; rfl, hj⟩⟩
  rcases h5 with ⟨_, h⟩ | ⟨_, _, h⟩ | ⟨b, off, rfl, hb, hcs⟩
  · exact hz (by omega)
  · exact hz h
  · exact judged1_in n hn l Bs n₀ b off len cap fs h1 (by omega) hb h4 J Jx W hJ (Nat.le_trans hn₀ hW.size) hY hc' hcs h0
end Go.Proofs.YtdnhnjimhbbabaaDoor

/- The iterator of pack.parsed: the fields that bytes are made of, each with what is wrong with it. -/
namespace Go.Proofs.YtdnhnjimhbbabaaDoor
open Go.RowKit Go.Shelf Nums
set_option maxRecDepth 100000

attribute [local go_sem] Oper.semAt_some
def encP (x : Pd) : Array Value := #[.agg #[.int .i64 x.tag, .string ⟨x.d.toArray⟩], .int .i64 x.e]
/-- What a round keeps: all below n₀, and every field's block. -/
def KpP (n₀ : Nat) (W W' : World) : Prop := Below n₀ W W' ∧ ∀ (b : Nat) (x y : Value) (m : Nat × Nat), W.heap[b]? = some (Obj.cells #[x, y] 59 m) → W'.heap[b]? = some (Obj.cells #[x, y] 59 m)
theorem kpP_t {n₀ : Nat} {A B C : World} (h : KpP n₀ A B) (k : KpP n₀ B C) : KpP n₀ A C := ⟨h.1.trans k.1, fun b x y m hb => k.2 b x y m (h.2 b x y m hb)⟩
theorem kpP_b {n₀ : Nat} {w : World} (hn : n₀ ≤ w.heap.size) (W : World) (l : Nat) (o o' : Obj) (hl : w.heap.size ≤ l) (h : W.heap[l]? = some o) (hc : o.isCells = false) (hw : o.isWalk = false) : KpP n₀ W (W.putObj l o') := by
  refine ⟨belowK_b hn W l o o' hl h hc hw, fun b x y m hb => ?_⟩
  have hne : some b ≠ some l := by
    intro e
    cases e
    rw [h] at hb
    cases hb
    cases hc
  rw [(grownBy_putObj' W l o').block b (Array.getElem?_eq_some_iff.1 hb).1 hne]
  exact hb
/-- Bytes that can be read, in a block below n₀. -/
def LReads (n₀ : Nat) (w : World) (a : Option Addr) (len cap : Nat) (l : List UInt8) : Prop :=
  l.length = len ∧ len ≤ cap ∧ cap ≤ 9223372036854775807 ∧
  ((a = none ∧ cap = 0) ∨ (∃ ad, a = some ad ∧ len = 0) ∨ ∃ b off, a = some ⟨b, off, none⟩ ∧ b < n₀ ∧ ∀ (i : Nat) (h : i < l.length), w.cell? ⟨b, off + i, none⟩ = some (.int .u8 l[i].toNat))
theorem LReads.below {n₀ : Nat} {A B : World} (h : Below n₀ A B) {a : Option Addr} {len cap : Nat} {l : List UInt8} (hr : LReads n₀ A a len cap l) : LReads n₀ B a len cap l := by
  obtain ⟨h1, h2, h3, h5⟩ := hr
  refine ⟨h1, h2, h3, ?_⟩
  rcases h5 with h5 | h5 | ⟨b, off, e, hb, hc⟩
  · exact .inl h5
  · exact .inr (.inl h5)
  · exact .inr (.inr ⟨b, off, e, hb, fun i hi => (h.cell (p := ⟨b, off + i, none⟩) hb).trans (hc i hi)⟩)
theorem LReads.reads {n₀ : Nat} {A : World} {a : Option Addr} {len cap : Nat} {l : List UInt8} (hr : LReads n₀ A a len cap l) (hn : n₀ ≤ A.heap.size) : Reads A a len cap l := by
  obtain ⟨h1, h2, h3, h5⟩ := hr
  refine ⟨h1, h2, h3, ?_⟩
  rcases h5 with h5 | h5 | ⟨b, off, e, hb, hc⟩
  · exact .inl h5
  · exact .inr (.inl h5)
  · exact .inr (.inr ⟨b, off, e, Nat.lt_of_lt_of_le hb hn, hc⟩)
theorem Reads.lreads {A : World} {a : Option Addr} {len cap : Nat} {l : List UInt8} (hr : Reads A a len cap l) : LReads A.heap.size A a len cap l := hr
/-- The rest behind the first n bytes. -/
theorem LReads.drop {n₀ : Nat} {A : World} {b off len cap n : Nat} {l : List UInt8} (hr : LReads n₀ A (some ⟨b, off, none⟩) len cap l) (hn : n ≤ len) (h0 : 0 < len) :
    LReads n₀ A (if cap = n then some ⟨b, off, none⟩ else some ⟨b, off + n, none⟩) (len - n) (cap - n) (l.drop n) := by
  obtain ⟨h1, h2, h3, h5⟩ := hr
  refine ⟨by rw [List.length_drop]; omega, by omega, by omega, ?_⟩
  rcases h5 with ⟨h, _⟩ | ⟨_, _, h⟩ | ⟨b', off', e, hb, hc⟩
  · cases h
  · omega
  · cases e
    by_cases hcn : cap = n
    · rw [if_pos hcn]; exact .inr (.inl ⟨_, rfl, by omega⟩)
    · rw [if_neg hcn]
      refine .inr (.inr ⟨b, off + n, rfl, hb, fun i hi => ?_⟩)
      have := hc (n + i) (by rw [List.length_drop] at hi; omega)
      rw [← Nat.add_assoc] at this
      rw [this, List.getElem_drop]
end Go.Proofs.YtdnhnjimhbbabaaDoor

/- pack.parsed goes through the fields that bytes are made of: all, or a part where a round says no more. -/
namespace Go.Proofs.YtdnhnjimhbbabaaDoor
open Go.RowKit Go.Shelf Nums
set_option maxRecDepth 100000

attribute [local go_sem] Oper.semAt_some
theorem pE_bad {last : Nat} {l : List UInt8} (h : gE l ≠ 0) : pE last l = gE l := by rw [pE, if_neg h]
theorem pE_fault {last : Nat} {l : List UInt8} (h : gE l = 0) (hf : faultOf last (gT l) (gD l).length ≠ 0) : pE last l = 11 := by rw [pE, if_pos h, if_neg hf]
set_option maxRecDepth 100000 in
set_option maxHeartbeats 4000000 in
theorem parsed1_in (n : Nat) (hn : 1 ≤ n) (l Bs n₀ : Nat) (a : Option Addr) (len cap : Nat) (bs : List UInt8) (J Jx : List Pd → World → Prop)
    (W : World) (hJ : AbidesFrom W.heap.size J) (hn₀ : n₀ ≤ W.heap.size)
    (hY : ∀ pre x W, J pre W → pre.length < len + 1 → YieldAt Fence.wide (n - 1) Tryd.prog l (encP x) W fun e W' =>
      (e = .returned (.bool true) ∧ J (pre ++ [x]) W' ∧ KpP n₀ W W') ∨ (e = .returned (.bool false) ∧ Jx (pre ++ [x]) W'))
    (hBs : W.cell? ⟨Bs, 0, none⟩ = some (.slice a len cap)) (hR : LReads n₀ W a len cap bs) (h0 : J [] W) :
    CallsIn Fence.wide n Tryd.prog 86 #[.func (.yield l) #[] #[], .pointer (some ⟨Bs, 0, none⟩)] W fun e W' => (∃ v, e = .returned v) ∧
      ((∃ ys, ys = parse (len + 1) 0 bs ∧ J ys W') ∨ (∃ pre, pre <+: parse (len + 1) 0 bs ∧ Jx pre W')) := by
  refine callsIn_of_wp Tryd.func86 rfl trivial ?_ rfl
  simp only [Tryd.ntmps86, List.size_toArray, List.length_cons, List.length_nil, Nat.reduceAdd, Nat.reduceSub, Array.replicate_succ, Array.replicate_zero, List.push_toArray, List.append_toArray, List.nil_append, List.cons_append]
  gi_wp2
  gi_loopw [3, 4] (fun t s wr => ∃ (last : Nat) (pre : List Pd) (ra : Option Addr) (rlen rcap : Nat) (rl : List UInt8), s = .slice ra rlen rcap ∧ t = .int .i64 last ∧ Hid (LReads n₀ W ra rlen rcap rl) ∧ rlen + pre.length ≤ len ∧ Hid (parse (len + 1) 0 bs = pre ++ parse (rlen + 1) last rl) ∧ J pre wr ∧ Below n₀ W wr ∧ W.heap.size ≤ wr.heap.size)
    (fun _ s _ => match s with | .slice _ k _ => k | _ => 0)
  case atStart => exact ⟨0, [], a, len, cap, bs, rfl, rfl, hR, by simp, by simp [Hid], h0, Below.refl _ _, Nat.le_refl _⟩
  case round =>
    obtain ⟨last, pre, ra, rlen, rcap, rl, rfl, rfl, HR, hle, HP, hJs, hnx, hsz⟩ := hrel
    clear hBs
    have hrc : rlen ≤ rcap := HR.out.2.1
    have hrm : rcap ≤ 9223372036854775807 := HR.out.2.2.1
    by_cases hz : rlen = 0
    · subst hz
      clear hY
      gi_wp2
      go_end0
      have hl : rl = [] := List.eq_nil_of_length_eq_zero HR.out.1
      refine ⟨⟨_, rfl⟩, .inl ⟨pre, ?_, hJs⟩⟩
      rw [HP.out, hl]; simp [parse]
    · have hpos : (0 : Int) < (rlen : Int) := by omega
      have HNE : Hid (rl ≠ []) := by intro e; have := HR.out.1; rw [e] at this; simp at this; omega
      have HRD : Hid (Reads wr ra rlen rcap rl) := (HR.out.below hnx).reads (Nat.le_trans hn₀ hsz)
      have HX : Hid (∀ W2, Below wr.heap.size wr W2 → ∃ fn tmps assign body, (Instr.yield l #[.agg #[.int .i64 (gT rl), .string ⟨(gD rl).toArray⟩], .int .i64 (pE last rl)]).run Tryd.prog W2 = .ok (.round l fn tmps assign body) W2 ∧
            RoundIn Fence.wide (n - 1) Tryd.prog l fn tmps assign body W2 fun e W' => ∃ bb, e = .returned (.bool bb) ∧ ((bb = true ∧ J (pre ++ [pX last rl]) W' ∧ KpP n₀ W2 W') ∨ (bb = false ∧ Jx (pre ++ [pX last rl]) W'))) := by
        intro W2 hb2
        obtain ⟨fn, tmps, assign, body, hy, hR⟩ := hY pre (pX last rl) W2 (hJ pre wr W2 none hJs (grown_of_below hb2) (fun r e => by cases e)) (by omega)
        refine ⟨fn, tmps, assign, body, hy, hR.mono ?_⟩
        rintro e W' (⟨he, h2, h3⟩ | ⟨he, h2⟩)
        · exact ⟨true, he, .inl ⟨rfl, h2, h3⟩⟩
        · exact ⟨false, he, .inr ⟨rfl, h2⟩⟩
      have HPR : Hid ((pre ++ [pX last rl]) <+: parse (len + 1) 0 bs) := by
        show _ <+: _
        rw [HP.out, parse_cons HNE.out]
        exact ⟨if pE last rl = 0 then parse rlen (gT rl) (rl.drop (gN rl)) else [], by simp⟩
      clear hY
      by_cases hE : gE rl = 0
      · have hE1 : ((gE rl : Int) == 0) = true := by simpa using hE
        have hgn := gN_le hE
        obtain ⟨b, off, hra⟩ : ∃ b off, ra = some ⟨b, off, none⟩ := by
          rcases HR.out.2.2.2 with ⟨_, h⟩ | ⟨_, _, h⟩ | ⟨b, off, h, _⟩
          · omega
          · omega
          · exact ⟨b, off, h⟩
        subst hra
        have hds : (⟨(gD rl).toArray⟩ : ByteArray).size = (gD rl).length := by show (gD rl).toArray.size = _; simp
        have HFC : Hid (∀ w, Calls Tryd.prog 74 #[.int .i64 last, .agg #[.int .i64 (gT rl), .string ⟨(gD rl).toArray⟩]] w fun e w' => e = .returned (.int .i64 (faultOf last (gT rl) (gD rl).length)) ∧ Below w.heap.size w w') := fun w => by
          have := fault_any last (gT rl) ⟨(gD rl).toArray⟩ w (by rw [hds]; unfold maxLen; omega)
          rwa [hds] at this
        clear hds
        by_cases hF : faultOf last (gT rl) (gD rl).length = 0
        · have HPE : Hid (pE last rl = 0) := pE_ok hE hF
          have HPG : Hid (pE last rl = gE rl) := HPE.out.trans hE.symm
          have HFD : Hid (∀ w, Calls Tryd.prog 74 #[.int .i64 last, .agg #[.int .i64 (gT rl), .string ⟨(gD rl).toArray⟩]] w fun e w' => e = .returned (.int .i64 0) ∧ Below w.heap.size w w') := fun w => by
            have := HFC.out w
            rwa [hF] at this
          have hE3 : ((gE rl : Int) != 0) = false := by simpa using hE
          have HNX : Hid (parse (len + 1) 0 bs = (pre ++ [pX last rl]) ++ parse (rlen - gN rl + 1) (gT rl) (rl.drop (gN rl))) := by
            show _ = _
            rw [HP.out, parse_cons HNE.out, if_pos HPE.out, parse_fuel (rlen - gN rl + 1) rlen (gT rl) (rl.drop (gN rl)) (by rw [List.length_drop, HR.out.1]; omega) (by omega)]
            simp
          have HDR := HR.out.drop (n := gN rl) (by rw [← HR.out.1]; exact hgn.2.1) (by omega)
          have hgl : gN rl ≤ rlen := by rw [← HR.out.1]; exact hgn.2.1
          have hg4 : 4 ≤ gN rl := hgn.1
          have HZ : Hid (gE rl = 0) := hE
          have hmo : Tryd.prog.follows Departure.mixedOrders = true := by kernel_rfl
          clear hE hF HFC hgn
          have HDD : Hid (LReads n₀ W (if rcap = gN rl then some ⟨b, off, none⟩ else some ⟨b, off + gN rl, none⟩) (rlen - gN rl) (rcap - gN rl) (rl.drop (gN rl))) := HDR
          clear HDR
          gi_wp2_with (first
            | (refine ⟨trivial, ?_⟩; gi_at_call 87; refine (callsIn_wide.2 (get_any _ _ _ rl _ HRD.out)).mono ?_; rintro e W1 ⟨rfl, hb1⟩; unfold gotten)
            | (refine ⟨trivial, ?_⟩; gi_at_call 74; refine (callsIn_wide.2 (HFD.out _)).mono ?_; rintro e W2 ⟨rfl, hb2⟩; have hb3 : Below wr.heap.size wr W2 := (hb1.alloc hb1.size _).trans (hb2.mono (by have := hb1.size; simp; omega)); have hblk : W2.heap[W1.heap.size]? = some (.cells #[.int .i64 (gT rl), .string ⟨(gD rl).toArray⟩] 59 (0, 0)) := (hb2.block W1.heap.size (by simp)).trans (World.alloc_heap_new W1 _); have q0 : W2.cell? ⟨W1.heap.size, 0, none⟩ = some (.int .i64 (gT rl)) := (by simp [World.cell?, hblk]); have q1 : W2.cell? ⟨W1.heap.size, 1, none⟩ = some (.string ⟨(gD rl).toArray⟩) := (by simp [World.cell?, hblk]); obtain ⟨fn, tmps, assign, body, hy, hR⟩ := HX.out W2 hb3; rw [HPG.out] at hy))
          refine hR.mono ?_
          rintro e W3 ⟨bb, rfl, ⟨rfl, hJ3, hk3⟩ | ⟨rfl, hJx3⟩⟩
          · have hq3 : W3.cell? ⟨W1.heap.size, 0, none⟩ = some (.int .i64 (gT rl)) := by simp [World.cell?, hk3.2 _ _ _ _ hblk]
            have HB3 : Hid (Below n₀ W W3 ∧ W.heap.size ≤ W3.heap.size) := ⟨hnx.trans ((hb3.mono (Nat.le_trans hn₀ hsz)).trans hk3.1), Nat.le_trans hsz (Nat.le_trans hb3.size hk3.1.size)⟩
            clear hy hR hk3 hblk q0 q1 hb1 hb2 hb3 hnx hJs
            gi_wp2
            gi_region_with_o (fail)
            gi_wp2
            all_goals
              refine ⟨⟨gT rl, pre ++ [pX last rl], _, _, _, ⟨rfl, rfl, rfl⟩, rfl, rl.drop (gN rl), ?_, ?_, HNX, hJ _ W3 W3.drew none hJ3 (grown_of_below (Below.refl _ _).drew) (fun r e => by cases e), HB3.out.1.drew, HB3.out.2⟩, by omega⟩
              · have hdd := HDD.out
                first
                  | (have hp : rcap = gN rl := by assumption
                     rw [if_pos hp, show rcap - gN rl = 0 by omega] at hdd
                     exact hdd)
                  | (have hp : ¬ rcap = gN rl := by assumption
                     rw [if_neg hp] at hdd
                     exact hdd)
              · rw [List.length_append]; simp; omega
          · clear hy hR hblk q0 q1 hb1 hb2 hb3
            gi_wp2
            refine bodyPost_ret (results_none rfl _ _ _) rfl ?_
            exact ⟨⟨_, rfl⟩, .inr ⟨_, HPR.out, hJx3⟩⟩
        · have HPE : Hid (pE last rl = 11) := pE_fault hE hF
          have hF2 : (faultOf last (gT rl) (gD rl).length != 0) = true := by simpa using hF
          have HALL : Hid (pre ++ [pX last rl] = parse (len + 1) 0 bs) := by
            show _ = _
            rw [HP.out, parse_cons HNE.out, if_neg (by rw [HPE.out]; decide)]
          have HZ : Hid (gE rl = 0) := hE
          clear hE hF hgn
          gi_wp2_with (first
            | (refine ⟨trivial, ?_⟩; gi_at_call 87; refine (callsIn_wide.2 (get_any _ _ _ rl _ HRD.out)).mono ?_; rintro e W1 ⟨rfl, hb1⟩; unfold gotten)
            | (refine ⟨trivial, ?_⟩; gi_at_call 74; refine (callsIn_wide.2 (HFC.out _)).mono ?_; rintro e W2 ⟨rfl, hb2⟩; have hb3 : Below wr.heap.size wr W2 := (hb1.alloc hb1.size _).trans (hb2.mono (by have := hb1.size; simp; omega)); have hblk : W2.heap[W1.heap.size]? = some (.cells #[.int .i64 (gT rl), .string ⟨(gD rl).toArray⟩] 59 (0, 0)) := (hb2.block W1.heap.size (by simp)).trans (World.alloc_heap_new W1 _); have q0 : W2.cell? ⟨W1.heap.size, 0, none⟩ = some (.int .i64 (gT rl)) := (by simp [World.cell?, hblk]); have q1 : W2.cell? ⟨W1.heap.size, 1, none⟩ = some (.string ⟨(gD rl).toArray⟩) := (by simp [World.cell?, hblk]); obtain ⟨fn, tmps, assign, body, hy, hR⟩ := HX.out W2 hb3; rw [HPE.out] at hy; simp only [Int.cast_ofNat_Int] at hy))
          refine hR.mono ?_
          rintro e W3 ⟨bb, rfl, ⟨rfl, hJ3, _⟩ | ⟨rfl, hJx3⟩⟩
          · clear hy hR hblk q0 q1 hb1 hb2 hb3
            gi_wp2
            refine bodyPost_ret (results_none rfl _ _ _) rfl ?_
            exact ⟨⟨_, rfl⟩, .inl ⟨_, HALL.out, hJ3⟩⟩
          · clear hy hR hblk q0 q1 hb1 hb2 hb3
            gi_wp2
            refine bodyPost_ret (results_none rfl _ _ _) rfl ?_
            exact ⟨⟨_, rfl⟩, .inr ⟨_, HPR.out, hJx3⟩⟩
      · have hE1 : ((gE rl : Int) == 0) = false := by simpa using hE
        have hE2 : ((gE rl : Int) != 0) = true := by simpa using hE
        have HPE : Hid (pE last rl = gE rl) := pE_bad hE
        have HALL : Hid (pre ++ [pX last rl] = parse (len + 1) 0 bs) := by
          show _ = _
          rw [HP.out, parse_cons HNE.out, if_neg (by rw [HPE.out]; exact hE)]
        have HGE : Hid (¬ gE rl = 0) := hE
        clear hE
        gi_wp2_with (refine ⟨trivial, ?_⟩; gi_at_call 87; refine (callsIn_wide.2 (get_any _ _ _ rl _ HRD.out)).mono ?_; rintro e W1 ⟨rfl, hb1⟩; unfold gotten)
        refine ⟨trivial, ?_⟩
        obtain ⟨fn, tmps, assign, body, hy, hR⟩ := HX.out (W1.alloc (.cells #[.int .i64 (gT rl), .string ⟨(gD rl).toArray⟩] 59)) (hb1.alloc hb1.size _)
        rw [HPE.out] at hy
        gi_wp2
        refine hR.mono ?_
        rintro e W3 ⟨bb, rfl, ⟨rfl, hJ3, _⟩ | ⟨rfl, hJx3⟩⟩
        · clear hy hR
          gi_wp2
          refine bodyPost_ret (results_none rfl _ _ _) rfl ?_
          exact ⟨⟨_, rfl⟩, .inl ⟨_, HALL.out, hJ3⟩⟩
        · clear hy hR
          gi_wp2
          refine bodyPost_ret (results_none rfl _ _ _) rfl ?_
          exact ⟨⟨_, rfl⟩, .inr ⟨_, HPR.out, hJx3⟩⟩
set_option maxHeartbeats 1000000 in
theorem parsed_in (n : Nat) (a : Option Addr) (len cap : Nat) (w : World) :
    CallsIn Fence.wide n Tryd.prog 78 #[.slice a len cap] w fun e w' => e = .returned (.func (.func 86) #[] #[.pointer (some ⟨w.heap.size, 0, none⟩)]) ∧ w' = w.alloc (.cells #[.slice a len cap] 35) := by
  refine callsIn_of_wp Tryd.func78 rfl trivial ?_ rfl
  simp only [Tryd.ntmps78, List.size_toArray, List.length_cons, List.length_nil, Nat.reduceAdd, Nat.reduceSub, Array.replicate_succ, Array.replicate_zero, List.push_toArray, List.append_toArray, List.nil_append, List.cons_append]
  gi_wp2
  go_ret
  exact ⟨rfl, rfl⟩
theorem parsed_stops (n : Nat) (hn : 1 ≤ n) (Bs n₀ : Nat) (a : Option Addr) (len cap : Nat) (bs : List UInt8) (w : World) (hBs : Bs < w.heap.size) (hn₀ : n₀ ≤ w.heap.size)
    (hc : w.cell? ⟨Bs, 0, none⟩ = some (.slice a len cap)) (hI : LReads n₀ w a len cap bs) :
    SeqStopsK Fence.wide n Tryd.prog 86 #[.pointer (some ⟨Bs, 0, none⟩)] encP (KpP n₀) (fun ys => ys = parse (len + 1) 0 bs) (fun pre => pre <+: parse (len + 1) 0 bs) (len + 1) w := fun l J Jx W hW hJ _ hY h0 =>
  parsed1_in n hn l Bs n₀ a len cap bs J Jx W hJ (Nat.le_trans hn₀ hW.size) hY ((hW.cell (p := ⟨Bs, 0, none⟩) hBs).trans hc) (hI.below (hW.mono hn₀)) h0
end Go.Proofs.YtdnhnjimhbbabaaDoor

/- What pack.Lay answers: the bytes of a row's fields, or the first field's fault. -/
namespace Go.Proofs.YtdnhnjimhbbabaaDoor
open Go.RowKit Go.Shelf Nums
set_option maxRecDepth 100000

attribute [local go_sem] Oper.semAt_some
def outB (pre : List Jd) : List UInt8 := (pre.map fun x => fieldBytesI x.tag x.d.data.toList).flatten
theorem outB_snoc (pre : List Jd) (x : Jd) : outB (pre ++ [x]) = outB pre ++ fieldBytesI x.tag x.d.data.toList := by simp [outB]
theorem outB_length : ∀ (pre : List Jd), (∀ x ∈ pre, x.e = 0) → (outB pre).length ≤ pre.length * 65540
  | [], _ => by simp [outB]
  | x :: r, h => by
    have h1 := outB_length r (fun y hy => h y (List.mem_cons_of_mem _ hy))
    have h2 := x.ok (h x List.mem_cons_self)
    have e : outB (x :: r) = fieldBytesI x.tag x.d.data.toList ++ outB r := by simp [outB]
    rw [e, List.length_append, fieldBytesI_length]
    simp only [Array.length_toList, List.length_cons]
    have : x.d.data.size ≤ 65536 := h2
    omega
/-- A block of cells stays under the turn of a block that is none. -/
theorem cells_stay {W W' : World} {row : Option Nat} {b : Nat} {c : Array Value} {t : TypeId} {m : Nat × Nat} (h : W.heap[b]? = some (.cells c t m)) (hg : W.grownBy W' row) (hr : ∀ r, row = some r → ∃ o : Obj, W.heap[r]? = some o ∧ o.isCells = false) :
    W'.heap[b]? = some (.cells c t m) := by
  refine (hg.block b (Array.getElem?_eq_some_iff.1 h).1 ?_).trans h
  intro e
  obtain ⟨o, ho, hc⟩ := hr b e.symm
  rw [h] at ho; cases ho; cases hc
theorem spares_box {w w' : World} (h : Spares 5 w w') {b : Nat} {c : Array Value} {t : TypeId} {m : Nat × Nat} (ht : t ≠ 5) (hb : w.heap[b]? = some (.cells c t m)) : w'.heap[b]? = some (.cells c t m) :=
  h b _ hb (fun c' m' e => by cases e; exact ht rfl)
theorem spares_others {w w' : World} (h : Spares 5 w w') (hs : w.heap.size ≤ w'.heap.size) : KeepsOthers w w' := ⟨hs, fun k o hk ho => h k o hk (fun c m e => by subst e; cases ho)⟩
theorem set_other {W : World} {B B' : Nat} {c : Array Value} {t : TypeId} {m : Nat × Nat} (h : W.heap[B]? = some (.cells c t m)) (hne : B ≠ B') (v : Value) : (W.setCell ⟨B', 0, none⟩ v).heap[B]? = some (.cells c t m) :=
  (Below.heap_setCell W ⟨B', 0, none⟩ v B hne).trans h
set_option maxRecDepth 100000 in
set_option maxHeartbeats 4000000 in
theorem lay_in (n : Nat) (hn : 3 ≤ n) (a : Option Addr) (len cap : Nat) (fs : List (Int × ByteArray)) (w : World) (hR : FReads w.heap.size w a len cap fs) (hl : len ≤ 400) :
    CallsIn Fence.wide n Tryd.prog 33 #[.slice a len cap] w fun e W' =>
      ((∀ x ∈ judge 0 fs, x.e = 0) ∧ ∃ v, e = .returned (.tuple #[v, .int .i64 0]) ∧ W'.ownsRow w.heap.size 5 1 v (outB (judge 0 fs)).length (cellsOf (outB (judge 0 fs))) ∧ Below w.heap.size w W') ∨
      (∃ pre x, (pre ++ [x]) <+: judge 0 fs ∧ (∀ y ∈ pre, y.e = 0) ∧ x.e ≠ 0 ∧ e = .returned (.tuple #[.slice none 0 0, .int .i64 x.e]) ∧ Below w.heap.size w W') := by
  have h1 : 1 ≤ n := by omega
  refine callsIn_of_wp_marks Tryd.func33 rfl trivial ?_ rfl
  simp only [Tryd.ntmps33, List.size_toArray, List.length_cons, List.length_nil, Nat.reduceAdd, Nat.reduceSub, Array.replicate_succ, Array.replicate_zero, List.push_toArray, List.append_toArray, List.nil_append, List.cons_append]
  gi_wp2_with (refine ⟨trivial, ?_⟩; gi_at_call 57; refine (judged_in (n - 1) _ _ _ _).mono ?_; rintro e w' ⟨rfl, rfl⟩)
  have bR1 := (((Boxed.new w 35 (.slice none 0 0)).alloc (.cells #[.int .i64 0] 29)).alloc (.cells #[.slice none 0 0] 35)).alloc (.cells #[.slice a len cap] 62)
  have bR2 := ((Boxed.new (w.alloc (.cells #[.slice none 0 0] 35)) 29 (.int .i64 0)).alloc (.cells #[.slice none 0 0] 35)).alloc (.cells #[.slice a len cap] 62)
  have bO := (Boxed.new ((w.alloc (.cells #[.slice none 0 0] 35)).alloc (.cells #[.int .i64 0] 29)) 35 (.slice none 0 0)).alloc (.cells #[.slice a len cap] 62)
  have bA := Boxed.new (((w.alloc (.cells #[.slice none 0 0] 35)).alloc (.cells #[.int .i64 0] 29)).alloc (.cells #[.slice none 0 0] 35)) 62 (.slice a len cap)
  simp only [World.size_alloc] at bR2 bO bA
  have hB0 : Below w.heap.size w ((((w.alloc (.cells #[.slice none 0 0] 35)).alloc (.cells #[.int .i64 0] 29)).alloc (.cells #[.slice none 0 0] 35)).alloc (.cells #[.slice a len cap] 62)) :=
    ((((Below.refl _ w).alloc (Nat.le_refl _) _).alloc (by simp) _).alloc (by simp; omega) _).alloc (by simp; omega) _
  have hsz : ((((w.alloc (.cells #[.slice none 0 0] 35)).alloc (.cells #[.int .i64 0] 29)).alloc (.cells #[.slice none 0 0] 35)).alloc (.cells #[.slice a len cap] 62)).heap.size = w.heap.size + 4 := by simp
  obtain ⟨W0, hW0⟩ : ∃ W0, (((w.alloc (.cells #[.slice none 0 0] 35)).alloc (.cells #[.int .i64 0] 29)).alloc (.cells #[.slice none 0 0] 35)).alloc (.cells #[.slice a len cap] 62) = W0 := ⟨_, rfl⟩
  rw [hW0] at bR1 bR2 bO bA hB0 hsz ⊢
  clear hW0
  have hge : w.heap.size + 4 ≤ W0.heap.size := Nat.le_of_eq hsz.symm
  clear hsz
  refine wpIn_rangeFunc_ownH rfl h1 (gf := 73) (lb := #[.pointer (some ⟨w.heap.size + 1 + 1 + 1, 0, none⟩)]) rfl trivial (enters_of Tryd.func73 (by kernel_rfl) rfl)
    (judged_stops (n - 1) (by omega) (w.heap.size + 1 + 1 + 1) w.heap.size a len cap fs W0 (by omega) (by omega) bA.cell (hR.below hB0)) kpJ_t (kpJ_b (by omega)) (Below.refl _ _) (fun _ => rfl)
    (fun pre W => ((∃ v, Boxed W (w.heap.size + 1 + 1) 35 v ∧ W.ownsRow W0.heap.size 5 1 v (outB pre).length (cellsOf (outB pre)) ∧ True) ∧ (Boxed W w.heap.size 35 (.slice none 0 0) ∧ Boxed W (w.heap.size + 1) 29 (.int .i64 0))) ∧ ((∀ x ∈ pre, x.e = 0) ∧ Below w.heap.size w W))
    (fun c pre W => (c = .ret ∧ ∃ pre' x, pre = pre' ++ [x] ∧ (∀ y ∈ pre', y.e = 0) ∧ x.e ≠ 0 ∧ Boxed W w.heap.size 35 (.slice none 0 0) ∧ Boxed W (w.heap.size + 1) 29 (.int .i64 x.e)) ∧ Below w.heap.size w W)
    (OwnFrom.and (OwnFrom.and (Own.from (holdsRow_own W0.heap.size (w.heap.size + 1 + 1) 35 5 1 (fun pre => (outB pre).length) (fun pre => cellsOf (outB pre)) (fun _ _ => True)) _) (OwnFrom.and (Own.from (boxed_own _ _ _) _) (Own.from (boxed_own _ _ _) _))) (OwnFrom.and (ownFrom_pure _ _) (ownFrom_below (Nat.le_refl _) (by omega))))
    (fun c => OwnFrom.and (fun s X Y row hs hg hr => by
      obtain ⟨hc, pre', x, e1, e2, e3, b1, b2⟩ := hs
      exact ⟨hc, pre', x, e1, e2, e3, cells_stay b1 hg (fun r e => (hr r e).2), cells_stay b2 hg (fun r e => (hr r e).2)⟩) (ownFrom_below (Nat.le_refl _) (by omega)))
    ⟨⟨⟨_, bO, World.ownsRow_nil _ _ _ _, trivial⟩, bR1, bR2⟩, by simp, hB0⟩
    (fun x a' W => ∃ Bx, w.heap.size + 1 + 1 < Bx ∧ W.heap[Bx]? = some (.cells #[.int .i64 x.tag, .string x.d] 59 (0, 0)) ∧ a' = { tmps := #[.slice a len cap, undef, .pointer (some ⟨w.heap.size, 0, none⟩), .pointer (some ⟨w.heap.size + 1, 0, none⟩), .pointer (some ⟨w.heap.size + 1 + 1, 0, none⟩), .pointer (some ⟨Bx, 0, none⟩), .int .i64 x.e, .slice a len cap, .func (.func 73) #[] #[.pointer (some ⟨w.heap.size + 1 + 1 + 1, 0, none⟩)], .agg #[.int .i64 x.tag, .string x.d], .int .i64 x.e, undef, undef, undef, undef, undef, undef, undef], defers := [] })
    (fun x a' _ X Y row hs hg hr => by obtain ⟨Bx, h1, h2, h3⟩ := hs; exact ⟨Bx, h1, cells_stay h2 hg (fun r e => (hr r e).2), h3⟩)
    ?assign ?body ?done ?stop
  case assign =>
    rintro l pre x W K ⟨⟨⟨v, bO1, hrow, ht⟩, bR11, bR21⟩, hz, hB1⟩ hK
    dsimp only [encJ]
    gi_wp2
    refine hK _ _ ((KeepsOthers.alloc _ _).from _) ⟨(Below.refl _ W).alloc hB1.size _, fun b c m hb => (Below.heap_alloc W _ b (Array.getElem?_eq_some_iff.1 hb).1).trans hb⟩ ⟨⟨⟨v, bO1.alloc _, hrow.alloc _, ht⟩, bR11.alloc _, bR21.alloc _⟩, hz, hB1.alloc hB1.size _⟩ ⟨W.heap.size, bO1.lt, World.alloc_heap_new W _, rfl⟩
  case body =>
    rintro l pre x a' W hl0 ⟨r, hr⟩ ⟨⟨⟨v, bO1, hrow, ht⟩, bR11, bR21⟩, hz, hB1⟩ ⟨Bx, hBx, bX, rfl⟩ hlt
    have hsW := hB1.size
    have hlW : W0.heap.size ≤ W.heap.size := Nat.le_trans hl0 (Nat.le_of_lt (Array.getElem?_eq_some_iff.1 hr).1)
    clear hr
    have cO := bO1.cell
    have fO := bO1.frozen
    have cX0 : W.cell? ⟨Bx, 0, none⟩ = some (.int .i64 x.tag) := by simp [World.cell?, bX]
    have cX1 : W.cell? ⟨Bx, 1, none⟩ = some (.string x.d) := by simp [World.cell?, bX]
    have c1 := bR11.cell
    have f1 := bR11.frozen
    have c2 := bR21.cell
    have f2 := bR21.frozen
    by_cases he : x.e = 0
    · have HE : Hid (x.e = 0) := he
      have he' : (x.e != 0) = false := by rw [he]; rfl
      clear he
      have hd := x.ok HE.out
      have hol := outB_length pre hz
      gi_wp2
      refine ⟨trivial, fun h => (by cases h), ?_⟩
      refine (CallsIn.inRound l (callsIn_wide.2 (appendField_int v (outB pre) W0.heap.size x.tag x.d W hd (by omega) (by omega) hrow))).mono ?_
      rintro e W1 ⟨v', rfl, hown', hb', hs'⟩
      rw [← outB_snoc] at hown'
      have hs1 : W.heap.size ≤ W1.heap.size := hb'.size
      have bO2 : Boxed W1 (w.heap.size + 1 + 1) 35 v := spares_box hs' (by decide) bO1
      have cO2 := bO2.cell
      have fO2 := bO2.frozen
      obtain ⟨a', n', c', hv'⟩ : ∃ a' n' c', v' = .slice a' n' c' := by
        rcases hown'.2 with ⟨h, _⟩ | ⟨g, cp, _, h, _⟩
        · exact ⟨_, _, _, h⟩
        · exact ⟨_, _, _, h⟩
      have hne : ∀ (b : Nat) (c : Array Value) (m : Nat × Nat), W.heap[b]? = some (Obj.cells c 59 m) → b ≠ w.heap.size + 1 + 1 := by
        intro b c m hb e
        subst e
        rw [show W.heap[w.heap.size + 1 + 1]? = _ from bO1] at hb
        cases hb
      have FIN : Hid (KeepsFrom W0.heap.size W (W1.setCell ⟨w.heap.size + 1 + 1, 0, none⟩ v') ∧ KpJ w.heap.size W (W1.setCell ⟨w.heap.size + 1 + 1, 0, none⟩ v') ∧
          (((∃ v, Boxed (W1.setCell ⟨w.heap.size + 1 + 1, 0, none⟩ v') (w.heap.size + 1 + 1) 35 v ∧ (W1.setCell ⟨w.heap.size + 1 + 1, 0, none⟩ v').ownsRow W0.heap.size 5 1 v (outB (pre ++ [x])).length (cellsOf (outB (pre ++ [x]))) ∧ True) ∧
            (Boxed (W1.setCell ⟨w.heap.size + 1 + 1, 0, none⟩ v') w.heap.size 35 (.slice none 0 0) ∧ Boxed (W1.setCell ⟨w.heap.size + 1 + 1, 0, none⟩ v') (w.heap.size + 1) 29 (.int .i64 0))) ∧
          ((∀ y ∈ pre ++ [x], y.e = 0) ∧ Below w.heap.size w (W1.setCell ⟨w.heap.size + 1 + 1, 0, none⟩ v')))) := by
        refine ⟨((spares_others hs' hs1).trans (KeepsOthers.setCell _ _ _)).from _, ⟨(hb'.mono (by omega)).setCell (p := ⟨w.heap.size + 1 + 1, 0, none⟩) (by show w.heap.size ≤ w.heap.size + 1 + 1; omega) _, fun b c m hb => set_other (spares_box hs' (by decide) hb) (hne b c m hb) _⟩,
          ⟨⟨⟨v', bO2.set _, ?_, trivial⟩, set_other (spares_box hs' (by decide) bR11) (by omega) _, set_other (spares_box hs' (by decide) bR21) (by omega) _⟩, ?_, (hB1.trans (hb'.mono (by omega))).setCell (p := ⟨w.heap.size + 1 + 1, 0, none⟩) (by show w.heap.size ≤ w.heap.size + 1 + 1; omega) _⟩⟩
        · refine hown'.kept (grownBy_setCell' W1 _ v') ?_
          rcases hown'.2 with ⟨h, _⟩ | ⟨g, cp, _, h, hg, _⟩
          · left; rw [h]; rfl
          · right; rw [h]; intro e; simp [Value.ownBlock] at e; omega
        · intro y hy
          rcases List.mem_append.1 hy with h | h
          · exact hz y h
          · simp at h; subst h; exact HE.out
      subst hv'
      clear hown' hrow hs' hb'
      gi_wp2
      exact FIN.out
    · have HE : Hid (x.e ≠ 0) := he
      have he' : (x.e != 0) = true := by simpa using he
      clear he
      have FIN : Hid (KeepsFrom W0.heap.size W ((W.setCell ⟨w.heap.size, 0, none⟩ (.slice none 0 0)).setCell ⟨w.heap.size + 1, 0, none⟩ (.int .i64 x.e)) ∧
          ((∃ pre' x', pre ++ [x] = pre' ++ [x'] ∧ (∀ y ∈ pre', y.e = 0) ∧ x'.e ≠ 0 ∧ Boxed ((W.setCell ⟨w.heap.size, 0, none⟩ (.slice none 0 0)).setCell ⟨w.heap.size + 1, 0, none⟩ (.int .i64 x.e)) w.heap.size 35 (.slice none 0 0) ∧
            Boxed ((W.setCell ⟨w.heap.size, 0, none⟩ (.slice none 0 0)).setCell ⟨w.heap.size + 1, 0, none⟩ (.int .i64 x.e)) (w.heap.size + 1) 29 (.int .i64 x'.e)) ∧ Below w.heap.size w ((W.setCell ⟨w.heap.size, 0, none⟩ (.slice none 0 0)).setCell ⟨w.heap.size + 1, 0, none⟩ (.int .i64 x.e)))) :=
        ⟨((KeepsOthers.setCell _ _ _).trans (KeepsOthers.setCell _ _ _)).from _, ⟨pre, x, rfl, hz, HE.out, set_other (bR11.set _) (by omega) _, Boxed.set _ (show Boxed _ _ _ _ from set_other bR21 (by omega) _)⟩,
          (hB1.setCell (p := ⟨w.heap.size, 0, none⟩) (Nat.le_refl _) _).setCell (p := ⟨w.heap.size + 1, 0, none⟩) (by show w.heap.size ≤ w.heap.size + 1; omega) _⟩
      gi_wp2
      exact ⟨FIN.out.1, ⟨rfl, FIN.out.2.1⟩, FIN.out.2.2⟩
  case done =>
    rintro D ys W hD rfl ⟨⟨⟨v, bO1, hrow, ht⟩, bR11, bR21⟩, hz, hB1⟩ hK
    obtain ⟨a', n', c', hv'⟩ : ∃ a' n' c', v = .slice a' n' c' := by
      rcases hrow.2 with ⟨h, _⟩ | ⟨g, cp, _, h, _⟩
      · exact ⟨_, _, _, h⟩
      · exact ⟨_, _, _, h⟩
    subst hv'
    have cO := bO1.cell
    have c1 := bR11.cell
    have f1 := bR11.frozen
    have c2 := bR21.cell
    have f2 := bR21.frozen
    have HRW : Hid (W.ownsRow W0.heap.size 5 1 (.slice a' n' c') (outB (judge 0 fs)).length (cellsOf (outB (judge 0 fs)))) := hrow
    clear hrow
    gi_wp2
    have hK' := ((KeepsOthers.setCell W ⟨w.heap.size, 0, none⟩ (.slice a' n' c')).trans (KeepsOthers.setCell _ ⟨w.heap.size + 1, 0, none⟩ (.int .i64 0))).same D _ hK rfl
    refine ⟨by simp, .inl ⟨_, _, rfl, run_takeDeferred hK', ?_⟩⟩
    have b1 : Boxed ((W.setCell ⟨w.heap.size, 0, none⟩ (.slice a' n' c')).setCell ⟨w.heap.size + 1, 0, none⟩ (.int .i64 0)) w.heap.size 35 (.slice a' n' c') := set_other (bR11.set _) (by omega) _
    have b2 : Boxed ((W.setCell ⟨w.heap.size, 0, none⟩ (.slice a' n' c')).setCell ⟨w.heap.size + 1, 0, none⟩ (.int .i64 0)) (w.heap.size + 1) 29 (.int .i64 0) := Boxed.set _ (show Boxed _ _ _ _ from set_other bR21 (by omega) _)
    have q1 := cell_kept b1.cell (grownBy_putObj' _ D (.deferred none)) (fun r e => by cases e; exact ⟨_, hK', rfl⟩)
    have q2 := cell_kept b2.cell (grownBy_putObj' _ D (.deferred none)) (fun r e => by cases e; exact ⟨_, hK', rfl⟩)
    have hoff : ∀ B', B' < W0.heap.size → Value.ownBlock (.slice a' n' c') ≠ some B' := by
      intro B' hlt e
      have := (HRW.out.lt B' e).1
      omega
    have hrow2 := (HRW.out.kept (grownBy_setCell' W w.heap.size (.slice a' n' c')) (.inr (hoff _ (by omega)))).kept (grownBy_setCell' _ (w.heap.size + 1) (.int .i64 0)) (.inr (hoff _ (by omega)))
    refine ⟨.tuple #[.slice a' n' c', .int .i64 0], ?_, .inl ⟨hz, _, rfl, own_lower (ownsRow_putObj hrow2 _ hK' rfl) (by omega), ((hB1.setCell (p := ⟨w.heap.size, 0, none⟩) (Nat.le_refl _) _).setCell (p := ⟨w.heap.size + 1, 0, none⟩) (by show w.heap.size ≤ w.heap.size + 1; omega) _).trans (belowK_b (w := w) (Nat.le_refl _) _ D _ _ (by omega) hK' rfl rfl)⟩⟩
    simp [results, Tryd.f33, go_sem, q1, q2]
  case stop =>
    rintro D c pre W hD hpre ⟨⟨rfl, pre', x, rfl, hz, hx, bR11, bR21⟩, hB1⟩ hK
    gi_wp2
    refine ⟨by simp, .inl ⟨_, _, rfl, run_takeDeferred hK, ?_⟩⟩
    have q1 := cell_kept bR11.cell (grownBy_putObj' _ D (.deferred none)) (fun r e => by cases e; exact ⟨_, hK, rfl⟩)
    have q2 := cell_kept bR21.cell (grownBy_putObj' _ D (.deferred none)) (fun r e => by cases e; exact ⟨_, hK, rfl⟩)
    refine ⟨.tuple #[.slice none 0 0, .int .i64 x.e], ?_, .inr ⟨pre', x, hpre, hz, hx, rfl, hB1.trans (belowK_b (w := w) (Nat.le_refl _) W D _ _ (by omega) hK rfl rfl)⟩⟩
    simp [results, Tryd.f33, go_sem, q1, q2]
end Go.Proofs.YtdnhnjimhbbabaaDoor

/- What pack.Read answers: the row of fields that bytes are made of, or what is wrong first. -/
namespace Go.Proofs.YtdnhnjimhbbabaaDoor
open Go.RowKit Go.Shelf Nums
set_option maxRecDepth 100000

attribute [local go_sem] Oper.semAt_some
theorem info37 : (Tryd.prog.info? 59).map (fun i => (i.zero, i.size, i.bytes)) = some (some (.agg #[.int .i64 0, .string ⟨#[]⟩]), 2, 24) := by kernel_rfl
/-- Every field's block lies as it lay. -/
def Keep2 (W W' : World) : Prop := ∀ (b : Nat) (x y : Value) (m : Nat × Nat), W.heap[b]? = some (Obj.cells #[x, y] 59 m) → W'.heap[b]? = some (Obj.cells #[x, y] 59 m)
theorem Keep2.trans {A B C : World} (h : Keep2 A B) (k : Keep2 B C) : Keep2 A C := fun b x y m hb => k b x y m (h b x y m hb)
theorem Keep2.below {A B : World} (h : Below A.heap.size A B) : Keep2 A B := fun b _ _ _ hb => (h.block b (Array.getElem?_eq_some_iff.1 hb).1).trans hb
theorem Keep2.none {A B : World} (h : A.grownBy B none) : Keep2 A B := fun b _ _ _ hb => (h.block b (Array.getElem?_eq_some_iff.1 hb).1 (by simp)).trans hb
theorem run_append_field (W : World) (B : Nat) (v : Value) (fs : List (Int × ByteArray)) (f : Int × ByteArray) (hown : W.ownsRow B 59 2 v fs.length (fcells fs)) (hnil : v = .slice none 0 0 ↔ fs = []) (hB : B ≤ W.heap.size) (hl : fs.length ≤ 1048576) :
    ∃ v' w1, (Builtin.append_ #[62, 62] 62 #[v, .slice (some ⟨W.heap.size, 0, none⟩) 1 1]).run Tryd.prog (W.alloc (.cells #[.int .i64 f.1, .string f.2] 59)) = .ok v' w1 ∧
      w1.ownsRow B 59 2 v' (fs.length + 1) (fcells (fs ++ [f])) ∧ Below B W w1 ∧ Spares 59 W w1 ∧ Keep2 W w1 := by
  obtain ⟨i0, hi, hz0, hz1, hz2⟩ := info_parts info37
  have hb0 : Below W.heap.size W (W.alloc (.cells #[.int .i64 f.1, .string f.2] 59)) := (Below.refl _ _).alloc (Nat.le_refl _) _
  have hn : ∀ (j : Nat) (u : Value), (fcells [f])[j]? = some u → (W.alloc (.cells #[.int .i64 f.1, .string f.2] 59)).cell? ((⟨W.heap.size, 0, none⟩ : Addr).add j) = some u := by
    intro j u hj
    rw [add_plain]
    match j, hj with
    | 0, hj => simp [fcells] at hj; subst hj; simp
    | 1, hj => simp [fcells] at hj; subst hj; simp
    | j + 2, hj => simp [fcells] at hj
  have h1 : ∀ u ∈ fcells [f], u.oneCell' = true := by
    intro u hu
    simp [fcells] at hu
    rcases hu with rfl | rfl <;> rfl
  have hown1 := hown.alloc (.cells #[.int .i64 f.1, .string f.2] 59)
  have hsz : (W.alloc (.cells #[.int .i64 f.1, .string f.2] 59)).heap.size = W.heap.size + 1 := by simp
  rcases hown.2 with ⟨hv, h0⟩ | ⟨g, cap, cur, hv, hbg, hgb, hnc, hcm, hcs, htk⟩
  · obtain ⟨v', w1, hr, ho, hg, _⟩ := run_append_own (P := Tryd.prog) _ B 62 62 59 i0 (.agg #[.int .i64 0, .string ⟨#[]⟩]) 2 24 Tryd.underlying62 hi hz0 hz1 hz2 rfl (by decide) v fs.length _ hown1 ⟨W.heap.size, 0, none⟩ 1 1 (fcells [f]) (by simp [fcells]) hn h1 (by unfold maxLen; omega) (by omega) (by rw [hsz]; omega)
    rw [hv] at hg
    refine ⟨v', w1, hr, by rw [fcells_append]; exact ho, (hb0.mono hB).grown hg (by rw [hsz]; omega) (by intro k hk; cases hk), (Spares.alloc 59 W (.cells #[.int .i64 f.1, .string f.2] 59)).trans ?_, (Keep2.below hb0).trans (Keep2.none hg)⟩
    exact Spares.grown (v := .slice none 0 0) (by rw [← hv]; exact hown1) hg
  · have hfs : fs.length ≠ 0 := by
      intro e
      have : fs = [] := List.eq_nil_of_length_eq_zero e
      have := hnil.2 this
      rw [hv] at this; cases this
    by_cases hroom : fs.length + 1 ≤ cap
    · rw [hv] at hown1 ⊢
      obtain ⟨w1, hr, ho, hg⟩ := run_append_fits (P := Tryd.prog) _ B 62 62 59 i0 2 Tryd.underlying62 hi hz1 g fs.length cap _ hown1 ⟨W.heap.size, 0, none⟩ 1 1 (fcells [f]) (by simp [fcells]) hn h1 hroom
      refine ⟨_, w1, hr, by rw [fcells_append]; exact ho, (hb0.mono hB).grown hg (by rw [hsz]; omega) (by intro k hk; cases hk; exact hbg), (Spares.alloc 59 W (.cells #[.int .i64 f.1, .string f.2] 59)).trans (Spares.grown hown1 hg), (Keep2.below hb0).trans ?_⟩
      intro b x y m hb
      refine (hg.block b (Array.getElem?_eq_some_iff.1 hb).1 ?_).trans hb
      intro e
      cases e
      have hgb' : (W.alloc (.cells #[.int .i64 f.1, .string f.2] 59)).heap[g]? = some (.cells cur 59 (0, 0)) := (hb0.block g (Array.getElem?_eq_some_iff.1 hgb).1).trans hgb
      rw [hgb'] at hb
      cases hb
      simp at hcs
      omega
    · rw [hv]
      have hcells : ∀ (j : Nat) (u : Value), (fcells fs)[j]? = some u → (W.alloc (.cells #[.int .i64 f.1, .string f.2] 59)).cell? ((⟨g, 0, none⟩ : Addr).add j) = some u := hown1.cells (g := g) (by rw [hv]; rfl)
      obtain ⟨v', w1, hr, ho, hg⟩ := run_append_arg_grows (P := Tryd.prog) _ 62 62 59 i0 (.agg #[.int .i64 0, .string ⟨#[]⟩]) 2 24 Tryd.underlying62 hi hz0 hz1 hz2 rfl (by decide) ⟨g, 0, none⟩ fs.length cap (fcells fs) (fcells_length fs) hcells ⟨W.heap.size, 0, none⟩ 1 1 (fcells [f]) (by simp [fcells]) hn (by omega) (by unfold maxLen; omega) (by omega)
      refine ⟨v', w1, hr, by rw [fcells_append]; exact own_lower ho (by rw [hsz]; omega), (hb0.mono hB).grown hg (by rw [hsz]; omega) (by intro k hk; cases hk), (Spares.alloc 59 W (.cells #[.int .i64 f.1, .string f.2] 59)).trans ?_, (Keep2.below hb0).trans (Keep2.none hg)⟩
      intro i o hi2 _
      exact (hg.block i (Array.getElem?_eq_some_iff.1 hi2).1 (by simp)).trans hi2
theorem wpListIn_append_run {F : Fence} {n : Nat} {P : Program} {w : World} {ops : Array Oper} {rest : List Oper} {o : Oper} {a : Act} {Q : Exit → Act → World → Prop}
    (hg : o.guard = none) (s x : Operand) (t u : TypeId) (hop : o.op = Op.call { callee := Callee.builtin Builtin.append, args := #[s, x], argTypes := #[t, u] })
    (vs vx v' : Value) (w' : World) (hs : a.eval s = vs) (hx : a.eval x = vx) (hrun : (Builtin.append_ #[t, u] o.type #[vs, vx]).run P w = .ok v' w')
    (hK : wpListIn F n P ops Q rest (a.put o.dst v') w') : wpListIn F n P ops Q (o :: rest) a w := by
  refine wpListIn_plain hg fun K hK' => ?_
  unfold Oper.wpIn
  refine ⟨?_, ?_⟩
  · simp [Oper.about, hop, resolve, Target.leads, Sem.run_pure]
  · rw [Oper.semAt_plain F _ _ (by rw [hop]; intro c hc'; cases hc')]
    simp [execOp, hop, resolve, invoke, builtin, hs, hx, hrun, Result.andThen]
    exact hK' _ _ hK
theorem spares_boxT {T : TypeId} {w w' : World} (h : Spares T w w') {b : Nat} {c : Array Value} {t : TypeId} {m : Nat × Nat} (ht : t ≠ T) (hb : w.heap[b]? = some (.cells c t m)) : w'.heap[b]? = some (.cells c t m) :=
  h b _ hb (fun c' m' e => by cases e; exact ht rfl)
theorem spares_othersT {T : TypeId} {w w' : World} (h : Spares T w w') (hs : w.heap.size ≤ w'.heap.size) : KeepsOthers w w' := ⟨hs, fun k o hk ho => h k o hk (fun c m e => by subst e; cases ho)⟩
set_option maxRecDepth 100000 in
set_option maxHeartbeats 4000000 in
theorem read_in (n : Nat) (hn : 3 ≤ n) (a : Option Addr) (len cap : Nat) (bs : List UInt8) (w : World) (hR : Reads w a len cap bs) (hl : len ≤ 1000000) :
    CallsIn Fence.wide n Tryd.prog 63 #[.slice a len cap] w fun e W' =>
      ((∀ x ∈ parse (len + 1) 0 bs, x.e = 0) ∧ ∃ v, e = .returned (.tuple #[v, .int .i64 0]) ∧ W'.ownsRow w.heap.size 59 2 v (toF (parse (len + 1) 0 bs)).length (fcells (toF (parse (len + 1) 0 bs))) ∧ Below w.heap.size w W') ∨
      (∃ pre x, (pre ++ [x]) <+: parse (len + 1) 0 bs ∧ (∀ y ∈ pre, y.e = 0) ∧ x.e ≠ 0 ∧ e = .returned (.tuple #[.slice none 0 0, .int .i64 x.e]) ∧ Below w.heap.size w W') := by
  have h1 : 1 ≤ n := by omega
  refine callsIn_of_wp_marks Tryd.func63 rfl trivial ?_ rfl
  simp only [Tryd.ntmps63, List.size_toArray, List.length_cons, List.length_nil, Nat.reduceAdd, Nat.reduceSub, Array.replicate_succ, Array.replicate_zero, List.push_toArray, List.append_toArray, List.nil_append, List.cons_append]
  gi_wp2_with (refine ⟨trivial, ?_⟩; gi_at_call 78; refine (parsed_in (n - 1) _ _ _ _).mono ?_; rintro e w' ⟨rfl, rfl⟩)
  have bR1 := (((Boxed.new w 62 (.slice none 0 0)).alloc (.cells #[.int .i64 0] 29)).alloc (.cells #[.slice none 0 0] 62)).alloc (.cells #[.slice a len cap] 35)
  have bR2 := ((Boxed.new (w.alloc (.cells #[.slice none 0 0] 62)) 29 (.int .i64 0)).alloc (.cells #[.slice none 0 0] 62)).alloc (.cells #[.slice a len cap] 35)
  have bO := (Boxed.new ((w.alloc (.cells #[.slice none 0 0] 62)).alloc (.cells #[.int .i64 0] 29)) 62 (.slice none 0 0)).alloc (.cells #[.slice a len cap] 35)
  have bA := Boxed.new (((w.alloc (.cells #[.slice none 0 0] 62)).alloc (.cells #[.int .i64 0] 29)).alloc (.cells #[.slice none 0 0] 62)) 35 (.slice a len cap)
  simp only [World.size_alloc] at bR2 bO bA
  have hB0 : Below w.heap.size w ((((w.alloc (.cells #[.slice none 0 0] 62)).alloc (.cells #[.int .i64 0] 29)).alloc (.cells #[.slice none 0 0] 62)).alloc (.cells #[.slice a len cap] 35)) :=
    ((((Below.refl _ w).alloc (Nat.le_refl _) _).alloc (by simp) _).alloc (by simp; omega) _).alloc (by simp; omega) _
  have hsz : ((((w.alloc (.cells #[.slice none 0 0] 62)).alloc (.cells #[.int .i64 0] 29)).alloc (.cells #[.slice none 0 0] 62)).alloc (.cells #[.slice a len cap] 35)).heap.size = w.heap.size + 4 := by simp
  obtain ⟨W0, hW0⟩ : ∃ W0, (((w.alloc (.cells #[.slice none 0 0] 62)).alloc (.cells #[.int .i64 0] 29)).alloc (.cells #[.slice none 0 0] 62)).alloc (.cells #[.slice a len cap] 35) = W0 := ⟨_, rfl⟩
  rw [hW0] at bR1 bR2 bO bA hB0 hsz ⊢
  clear hW0
  have hge : w.heap.size + 4 ≤ W0.heap.size := Nat.le_of_eq hsz.symm
  clear hsz
  refine wpIn_rangeFunc_ownH rfl h1 (gf := 86) (lb := #[.pointer (some ⟨w.heap.size + 1 + 1 + 1, 0, none⟩)]) rfl trivial (enters_of Tryd.func86 (by kernel_rfl) rfl)
    (parsed_stops (n - 1) (by omega) (w.heap.size + 1 + 1 + 1) w.heap.size a len cap bs W0 (by omega) (by omega) bA.cell (LReads.below hB0 hR.lreads)) kpP_t (kpP_b (by omega)) (Below.refl _ _) (fun _ => rfl)
    (fun pre W => ((∃ v, Boxed W (w.heap.size + 1 + 1) 62 v ∧ W.ownsRow W0.heap.size 59 2 v (toF pre).length (fcells (toF pre)) ∧ (v = .slice none 0 0 ↔ toF pre = [])) ∧ (Boxed W w.heap.size 62 (.slice none 0 0) ∧ Boxed W (w.heap.size + 1) 29 (.int .i64 0))) ∧ ((∀ x ∈ pre, x.e = 0) ∧ Below w.heap.size w W))
    (fun c pre W => (c = .ret ∧ ∃ pre' x, pre = pre' ++ [x] ∧ (∀ y ∈ pre', y.e = 0) ∧ x.e ≠ 0 ∧ Boxed W w.heap.size 62 (.slice none 0 0) ∧ Boxed W (w.heap.size + 1) 29 (.int .i64 x.e)) ∧ Below w.heap.size w W)
    (OwnFrom.and (OwnFrom.and (Own.from (holdsRow_own W0.heap.size (w.heap.size + 1 + 1) 62 59 2 (fun pre => (toF pre).length) (fun pre => fcells (toF pre)) (fun pre v => v = .slice none 0 0 ↔ toF pre = [])) _) (OwnFrom.and (Own.from (boxed_own _ _ _) _) (Own.from (boxed_own _ _ _) _))) (OwnFrom.and (ownFrom_pure _ _) (ownFrom_below (Nat.le_refl _) (by omega))))
    (fun c => OwnFrom.and (fun s X Y row hs hg hr => by
      obtain ⟨hc, pre', x, e1, e2, e3, b1, b2⟩ := hs
      exact ⟨hc, pre', x, e1, e2, e3, cells_stay b1 hg (fun r e => (hr r e).2), cells_stay b2 hg (fun r e => (hr r e).2)⟩) (ownFrom_below (Nat.le_refl _) (by omega)))
    ⟨⟨⟨_, bO, World.ownsRow_nil _ _ _ _, by simp [toF]⟩, bR1, bR2⟩, by simp, hB0⟩
    (fun x a' W => ∃ Bx, w.heap.size + 1 + 1 < Bx ∧ W.heap[Bx]? = some (.cells #[.int .i64 x.tag, .string ⟨x.d.toArray⟩] 59 (0, 0)) ∧ a' = { tmps := #[.slice a len cap, undef, .pointer (some ⟨w.heap.size, 0, none⟩), .pointer (some ⟨w.heap.size + 1, 0, none⟩), .pointer (some ⟨w.heap.size + 1 + 1, 0, none⟩), .pointer (some ⟨Bx, 0, none⟩), .int .i64 x.e, .slice a len cap, .func (.func 86) #[] #[.pointer (some ⟨w.heap.size + 1 + 1 + 1, 0, none⟩)], .agg #[.int .i64 x.tag, .string ⟨x.d.toArray⟩], .int .i64 x.e, undef, undef, undef, undef, undef, undef, undef, undef], defers := [] })
    (fun x a' _ X Y row hs hg hr => by obtain ⟨Bx, h1, h2, h3⟩ := hs; exact ⟨Bx, h1, cells_stay h2 hg (fun r e => (hr r e).2), h3⟩)
    ?assign ?body ?done ?stop
  case assign =>
    rintro l pre x W K ⟨⟨⟨v, bO1, hrow, ht⟩, bR11, bR21⟩, hz, hB1⟩ hK
    dsimp only [encP]
    gi_wp2
    refine hK _ _ ((KeepsOthers.alloc _ _).from _) ⟨(Below.refl _ W).alloc hB1.size _, fun b c _ m hb => (Below.heap_alloc W _ b (Array.getElem?_eq_some_iff.1 hb).1).trans hb⟩ ⟨⟨⟨v, bO1.alloc _, hrow.alloc _, ht⟩, bR11.alloc _, bR21.alloc _⟩, hz, hB1.alloc hB1.size _⟩ ⟨W.heap.size, bO1.lt, World.alloc_heap_new W _, rfl⟩
  case body =>
    rintro l pre x a' W hl0 ⟨r, hr⟩ ⟨⟨⟨v, bO1, hrow, ht⟩, bR11, bR21⟩, hz, hB1⟩ ⟨Bx, hBx, bX, rfl⟩ hlt
    have hsW := hB1.size
    have hlW : W0.heap.size ≤ W.heap.size := Nat.le_trans hl0 (Nat.le_of_lt (Array.getElem?_eq_some_iff.1 hr).1)
    clear hr
    have cO := bO1.cell
    have fO := bO1.frozen
    have cX0 : W.cell? ⟨Bx, 0, none⟩ = some (.int .i64 x.tag) := by simp [World.cell?, bX]
    have cX1 : W.cell? ⟨Bx, 1, none⟩ = some (.string ⟨x.d.toArray⟩) := by simp [World.cell?, bX]
    have c1 := bR11.cell
    have f1 := bR11.frozen
    have c2 := bR21.cell
    have f2 := bR21.frozen
    by_cases he : x.e = 0
    · have HE : Hid (x.e = 0) := he
      have he' : ((x.e : Int) != 0) = false := by rw [he]; rfl
      clear he
      obtain ⟨v', W1, hrun, hown', hb', hs', hk'⟩ := run_append_field W W0.heap.size v (toF pre) ((x.tag : Int), ⟨x.d.toArray⟩) hrow ht hlW (by rw [toF_length]; omega)
      have HRUN : Hid _ := hrun
      clear hrun
      rw [← toF_snoc] at hown'
      have hl1 : (toF pre).length + 1 = (toF (pre ++ [x])).length := by rw [toF_length, toF_length, List.length_append]; rfl
      rw [hl1] at hown'
      have hs1 : W.heap.size ≤ W1.heap.size := hb'.size
      have bO2 : Boxed W1 (w.heap.size + 1 + 1) 62 v := spares_boxT hs' (by decide) bO1
      have cO2 := bO2.cell
      have fO2 := bO2.frozen
      have hpos : (toF (pre ++ [x])).length ≠ 0 := by rw [toF_length, List.length_append]; simp
      obtain ⟨a', n', c', hv'⟩ : ∃ a' n' c', v' = .slice (some a') n' c' := by
        rcases hown'.2 with ⟨_, h⟩ | ⟨g, cp, _, h, _⟩
        · exact absurd h hpos
        · exact ⟨_, _, _, h⟩
      have hne : ∀ (b : Nat) (c d : Value) (m : Nat × Nat), W.heap[b]? = some (Obj.cells #[c, d] 59 m) → b ≠ w.heap.size + 1 + 1 := by
        intro b c d m hb e
        subst e
        rw [show W.heap[w.heap.size + 1 + 1]? = _ from bO1] at hb
        cases hb
      have FIN : Hid (KeepsFrom W0.heap.size W (W1.setCell ⟨w.heap.size + 1 + 1, 0, none⟩ v') ∧ KpP w.heap.size W (W1.setCell ⟨w.heap.size + 1 + 1, 0, none⟩ v') ∧
          (((∃ v, Boxed (W1.setCell ⟨w.heap.size + 1 + 1, 0, none⟩ v') (w.heap.size + 1 + 1) 62 v ∧ (W1.setCell ⟨w.heap.size + 1 + 1, 0, none⟩ v').ownsRow W0.heap.size 59 2 v (toF (pre ++ [x])).length (fcells (toF (pre ++ [x]))) ∧ (v = .slice none 0 0 ↔ toF (pre ++ [x]) = [])) ∧
            (Boxed (W1.setCell ⟨w.heap.size + 1 + 1, 0, none⟩ v') w.heap.size 62 (.slice none 0 0) ∧ Boxed (W1.setCell ⟨w.heap.size + 1 + 1, 0, none⟩ v') (w.heap.size + 1) 29 (.int .i64 0))) ∧
          ((∀ y ∈ pre ++ [x], y.e = 0) ∧ Below w.heap.size w (W1.setCell ⟨w.heap.size + 1 + 1, 0, none⟩ v')))) := by
        refine ⟨((spares_othersT hs' hs1).trans (KeepsOthers.setCell _ _ _)).from _, ⟨(hb'.mono (by omega)).setCell (p := ⟨w.heap.size + 1 + 1, 0, none⟩) (by show w.heap.size ≤ w.heap.size + 1 + 1; omega) _, fun b c d m hb => set_other (hk' b c d m hb) (hne b c d m hb) _⟩,
          ⟨⟨⟨v', bO2.set _, ?_, ?_⟩, set_other (spares_boxT hs' (by decide) bR11) (by omega) _, set_other (spares_boxT hs' (by decide) bR21) (by omega) _⟩, ?_, (hB1.trans (hb'.mono (by omega))).setCell (p := ⟨w.heap.size + 1 + 1, 0, none⟩) (by show w.heap.size ≤ w.heap.size + 1 + 1; omega) _⟩⟩
        · refine hown'.kept (grownBy_setCell' W1 _ v') ?_
          rcases hown'.2 with ⟨h, _⟩ | ⟨g, cp, _, h, hg, _⟩
          · left; rw [h]; rfl
          · right; rw [h]; intro e; simp [Value.ownBlock] at e; omega
        · rw [hv']
          constructor
          · intro h; cases h
          · intro h; rw [h] at hpos; exact absurd rfl hpos
        · intro y hy
          rcases List.mem_append.1 hy with h | h
          · exact hz y h
          · simp at h; subst h; exact HE.out
      subst hv'
      clear hown' hrow hs' hb' hk' ht hl1 hpos
      gi_wp2_with (first
        | (gi_at_builtin; refine wpListIn_append_run (by rfl) (.tmp 14) (.tmp 16) 62 62 (by rfl) _ _ _ _ (by rfl) (by rfl) HRUN.out ?_)
        | fail)
      exact FIN.out
    · have HE : Hid (x.e ≠ 0) := he
      have he' : ((x.e : Int) != 0) = true := by simpa using he
      clear he
      have FIN : Hid (KeepsFrom W0.heap.size W ((W.setCell ⟨w.heap.size, 0, none⟩ (.slice none 0 0)).setCell ⟨w.heap.size + 1, 0, none⟩ (.int .i64 x.e)) ∧
          ((∃ pre' x', pre ++ [x] = pre' ++ [x'] ∧ (∀ y ∈ pre', y.e = 0) ∧ x'.e ≠ 0 ∧ Boxed ((W.setCell ⟨w.heap.size, 0, none⟩ (.slice none 0 0)).setCell ⟨w.heap.size + 1, 0, none⟩ (.int .i64 x.e)) w.heap.size 62 (.slice none 0 0) ∧
            Boxed ((W.setCell ⟨w.heap.size, 0, none⟩ (.slice none 0 0)).setCell ⟨w.heap.size + 1, 0, none⟩ (.int .i64 x.e)) (w.heap.size + 1) 29 (.int .i64 x'.e)) ∧ Below w.heap.size w ((W.setCell ⟨w.heap.size, 0, none⟩ (.slice none 0 0)).setCell ⟨w.heap.size + 1, 0, none⟩ (.int .i64 x.e)))) :=
        ⟨((KeepsOthers.setCell _ _ _).trans (KeepsOthers.setCell _ _ _)).from _, ⟨pre, x, rfl, hz, HE.out, set_other (bR11.set _) (by omega) _, Boxed.set _ (show Boxed _ _ _ _ from set_other bR21 (by omega) _)⟩,
          (hB1.setCell (p := ⟨w.heap.size, 0, none⟩) (Nat.le_refl _) _).setCell (p := ⟨w.heap.size + 1, 0, none⟩) (by show w.heap.size ≤ w.heap.size + 1; omega) _⟩
      gi_wp2
      exact ⟨FIN.out.1, ⟨rfl, FIN.out.2.1⟩, FIN.out.2.2⟩
  case done =>
    rintro D ys W hD rfl ⟨⟨⟨v, bO1, hrow, ht⟩, bR11, bR21⟩, hz, hB1⟩ hK
    obtain ⟨a', n', c', hv'⟩ : ∃ a' n' c', v = .slice a' n' c' := by
      rcases hrow.2 with ⟨h, _⟩ | ⟨g, cp, _, h, _⟩
      · exact ⟨_, _, _, h⟩
      · exact ⟨_, _, _, h⟩
    subst hv'
    have cO := bO1.cell
    have c1 := bR11.cell
    have f1 := bR11.frozen
    have c2 := bR21.cell
    have f2 := bR21.frozen
    have HRW : Hid (W.ownsRow W0.heap.size 59 2 (.slice a' n' c') (toF (parse (len + 1) 0 bs)).length (fcells (toF (parse (len + 1) 0 bs)))) := hrow
    clear hrow
    gi_wp2
    have hK' := ((KeepsOthers.setCell W ⟨w.heap.size, 0, none⟩ (.slice a' n' c')).trans (KeepsOthers.setCell _ ⟨w.heap.size + 1, 0, none⟩ (.int .i64 0))).same D _ hK rfl
    refine ⟨by simp, .inl ⟨_, _, rfl, run_takeDeferred hK', ?_⟩⟩
    have b1 : Boxed ((W.setCell ⟨w.heap.size, 0, none⟩ (.slice a' n' c')).setCell ⟨w.heap.size + 1, 0, none⟩ (.int .i64 0)) w.heap.size 62 (.slice a' n' c') := set_other (bR11.set _) (by omega) _
    have b2 : Boxed ((W.setCell ⟨w.heap.size, 0, none⟩ (.slice a' n' c')).setCell ⟨w.heap.size + 1, 0, none⟩ (.int .i64 0)) (w.heap.size + 1) 29 (.int .i64 0) := Boxed.set _ (show Boxed _ _ _ _ from set_other bR21 (by omega) _)
    have q1 := cell_kept b1.cell (grownBy_putObj' _ D (.deferred none)) (fun r e => by cases e; exact ⟨_, hK', rfl⟩)
    have q2 := cell_kept b2.cell (grownBy_putObj' _ D (.deferred none)) (fun r e => by cases e; exact ⟨_, hK', rfl⟩)
    have hoff : ∀ B', B' < W0.heap.size → Value.ownBlock (.slice a' n' c') ≠ some B' := by
      intro B' hlt e
      have := (HRW.out.lt B' e).1
      omega
    have hrow2 := (HRW.out.kept (grownBy_setCell' W w.heap.size (.slice a' n' c')) (.inr (hoff _ (by omega)))).kept (grownBy_setCell' _ (w.heap.size + 1) (.int .i64 0)) (.inr (hoff _ (by omega)))
    refine ⟨.tuple #[.slice a' n' c', .int .i64 0], ?_, .inl ⟨hz, _, rfl, own_lower (ownsRow_putObj hrow2 _ hK' rfl) (by omega), ((hB1.setCell (p := ⟨w.heap.size, 0, none⟩) (Nat.le_refl _) _).setCell (p := ⟨w.heap.size + 1, 0, none⟩) (by show w.heap.size ≤ w.heap.size + 1; omega) _).trans (belowK_b (w := w) (Nat.le_refl _) _ D _ _ (by omega) hK' rfl rfl)⟩⟩
    simp [results, Tryd.f63, go_sem, q1, q2]
  case stop =>
    rintro D c pre W hD hpre ⟨⟨rfl, pre', x, rfl, hz, hx, bR11, bR21⟩, hB1⟩ hK
    gi_wp2
    refine ⟨by simp, .inl ⟨_, _, rfl, run_takeDeferred hK, ?_⟩⟩
    have q1 := cell_kept bR11.cell (grownBy_putObj' _ D (.deferred none)) (fun r e => by cases e; exact ⟨_, hK, rfl⟩)
    have q2 := cell_kept bR21.cell (grownBy_putObj' _ D (.deferred none)) (fun r e => by cases e; exact ⟨_, hK, rfl⟩)
    refine ⟨.tuple #[.slice none 0 0, .int .i64 x.e], ?_, .inr ⟨pre', x, hpre, hz, hx, rfl, hB1.trans (belowK_b (w := w) (Nat.le_refl _) W D _ _ (by omega) hK rfl rfl)⟩⟩
    simp [results, Tryd.f63, go_sem, q1, q2]
end Go.Proofs.YtdnhnjimhbbabaaDoor

/- What Lay and Read answer, as plain functions; pack.Lay and pack.Read answer so. -/
namespace Go.Proofs.YtdnhnjimhbbabaaDoor
open Go.RowKit Go.Shelf Nums
set_option maxRecDepth 100000
theorem outB_judge : ∀ (last : Int) (fs : List (Int × ByteArray)), outB (judge last fs) = rowB fs
  | _, [] => rfl
  | last, f :: r => by
    have := outB_judge f.1 r
    simp only [judge, rowB]
    rw [← this]
    simp [outB]
theorem lay_any (a : Option Addr) (len cap : Nat) (fs : List (Int × ByteArray)) (w : World) (hR : FReads w.heap.size w a len cap fs) (hl : len ≤ 400) :
    Calls Tryd.prog 33 #[.slice a len cap] w fun e W' => ∃ v, e = .returned (.tuple #[v, .int .i64 (layE 0 fs)]) ∧ W'.ownsRow w.heap.size 5 1 v (rowOf fs).length (cellsOf (rowOf fs)) ∧ Below w.heap.size w W' := by
  refine ((callsIn_wide (n := 3)).1 (lay_in 3 (by decide) a len cap fs w hR hl)).mono ?_
  rintro e W' (⟨hz, v, rfl, hown, hb⟩ | ⟨pre, x, hp, hz, hx, rfl, hb⟩)
  · have h0 := layE_all 0 fs hz
    refine ⟨v, by rw [h0], ?_, hb⟩
    rw [rowOf, if_pos h0, ← outB_judge 0 fs]
    exact hown
  · have h0 := layE_first pre 0 fs x hp hz hx
    refine ⟨_, by rw [h0], ?_, hb⟩
    rw [rowOf, if_neg (by rw [h0]; exact hx)]
    exact World.ownsRow_nil _ _ _ _
theorem read_any (a : Option Addr) (len cap : Nat) (bs : List UInt8) (w : World) (hR : Reads w a len cap bs) (hl : len ≤ 1000000) :
    Calls Tryd.prog 63 #[.slice a len cap] w fun e W' => ∃ v, e = .returned (.tuple #[v, .int .i64 (readE bs)]) ∧ W'.ownsRow w.heap.size 59 2 v (readF bs).length (fcells (readF bs)) ∧ Below w.heap.size w W' := by
  refine ((callsIn_wide (n := 3)).1 (read_in 3 (by decide) a len cap bs w hR hl)).mono ?_
  have hlen : bs.length = len := hR.1
  rintro e W' (⟨hz, v, rfl, hown, hb⟩ | ⟨pre, x, hp, hz, hx, rfl, hb⟩)
  · have h0 : readE bs = 0 := by rw [readE, hlen]; exact firstE_all _ hz
    refine ⟨v, by rw [h0]; rfl, ?_, hb⟩
    rw [readF, if_pos h0, hlen]
    exact hown
  · have h0 : readE bs = x.e := by rw [readE, hlen]; exact firstE_first pre _ x hp hz hx
    refine ⟨_, by rw [h0], ?_, hb⟩
    rw [readF, if_neg (by rw [h0]; exact hx)]
    exact World.ownsRow_nil _ _ _ _
/-- A row of fields that is owned can be read. -/
theorem freads_own {w : World} {B : Nat} {v : Value} {fs : List (Int × ByteArray)} (h : w.ownsRow B 59 2 v fs.length (fcells fs)) (hm : ∀ f ∈ fs, f.2.size ≤ maxLen) : ∃ a cap, v = .slice a fs.length cap ∧ FReads w.heap.size w a fs.length cap fs := by
  have hcell : ∀ (fs : List (Int × ByteArray)) (i : Nat) (hi : i < fs.length), (fcells fs)[i * 2]? = some (.int .i64 fs[i].1) ∧ (fcells fs)[i * 2 + 1]? = some (.string fs[i].2) := by
    intro fs
    induction fs with
    | nil => intro i hi; simp at hi
    | cons f r ih =>
      intro i hi
      cases i with
      | zero => simp [fcells]
      | succ i =>
        have := ih i (by simpa using hi)
        have e1 : (i + 1) * 2 = i * 2 + 1 + 1 := by omega
        rw [e1]
        simpa [fcells] using this
  rcases h.2 with ⟨rfl, h0⟩ | ⟨g, cap, cur, rfl, hb, hg, hn, hcm, hs, ht⟩
  · exact ⟨none, 0, by rw [h0], rfl, by omega, by decide, hm, .inl ⟨rfl, rfl⟩⟩
  · have hlt := (h.lt g rfl).2
    refine ⟨_, _, rfl, rfl, hn, by unfold maxLen at hcm; omega, hm, .inr (.inr ⟨g, 0, rfl, hlt, fun i hi => ?_⟩)⟩
    have h1 := h.cellAt (i * 2) (by omega)
    have h2 := h.cellAt (i * 2 + 1) (by omega)
    have := hcell fs i hi
    rw [Nat.zero_add]
    exact ⟨h1.trans this.1, h2.trans this.2⟩
end Go.Proofs.YtdnhnjimhbbabaaDoor

/- What the document's own Read answers: the same as readE, readF tell. -/
namespace Go.Proofs.YtdnhnjimhbbabaaDoor
open Go.RowKit Nums
set_option maxRecDepth 100000
set_option maxHeartbeats 4000000 in
theorem refRead_any (a : Option Addr) (len cap : Nat) (bs : List UInt8) (w : World) (hR : Reads w a len cap bs) (hl : len ≤ 1000000) :
    Calls Tryd.prog 66 #[.slice a len cap] w fun e W' => ∃ v, e = .returned (.tuple #[v, .int .i64 (readE bs)]) ∧ W'.ownsRow w.heap.size 59 2 v (readF bs).length (fcells (readF bs)) ∧ Below w.heap.size w W' := by
  have HLEN : Hid (bs.length = len) := hR.1
  have HRR : Hid (LReads w.heap.size w a len cap bs) := hR.lreads
  clear hR
  go_enter Tryd.func66, Tryd.ntmps66
  go_wp2
  go_loopw [0, 4, 5] (fun s o t wr => ∃ (last : Nat) (pre : List Pd) (ra : Option Addr) (rlen rcap : Nat) (rl : List UInt8), s = .slice ra rlen rcap ∧ t = .int .i64 last ∧ Hid (LReads w.heap.size w ra rlen rcap rl) ∧ rlen + pre.length ≤ len ∧ Hid (parse (len + 1) 0 bs = pre ++ parse (rlen + 1) last rl) ∧ Hid (∀ x ∈ pre, x.e = 0) ∧
      wr.ownsRow w.heap.size 59 2 o (toF pre).length (fcells (toF pre)) ∧ Hid (o = .slice none 0 0 ↔ toF pre = []) ∧ Below w.heap.size w wr)
    (fun s _ _ _ => match s with | .slice _ k _ => k | _ => 0)
  case atStart => exact ⟨0, [], a, len, cap, bs, rfl, rfl, HRR, by simp, by simp [Hid], by simp [Hid], World.ownsRow_nil _ _ _ _, by simp [Hid, toF], Below.refl _ _⟩
  case round =>
    obtain ⟨last, pre, ra, rlen, rcap, rl, rfl, rfl, HR, hle, HP, HZ, hown, HN, hB⟩ := hrel
    have hrc : rlen ≤ rcap := HR.out.2.1
    have hrm : rcap ≤ 9223372036854775807 := HR.out.2.2.1
    have HRE : Hid (readE bs = firstE (parse (rlen + 1) last rl)) := by
      show _ = _
      rw [readE, HLEN.out, HP.out, firstE_append _ _ HZ.out]
    by_cases hz : rlen = 0
    · subst hz
      have hrl : rl = [] := List.eq_nil_of_length_eq_zero HR.out.1
      have HE : Hid (readE bs = 0 ∧ readF bs = toF pre) := by
        have h0 : readE bs = 0 := by rw [HRE.out, hrl]; simp [parse, firstE]
        refine ⟨h0, ?_⟩
        rw [readF, if_pos h0, HLEN.out, HP.out, hrl]
        simp [parse]
      clear hrl
      go_wp2
      go_ret2
      refine ⟨u4, ?_, ?_, hB⟩
      · rw [HE.out.1]; rfl
      · rw [HE.out.2]; exact hown
    · have hpos : (0 : Int) < (rlen : Int) := by omega
      have HNE : Hid (rl ≠ []) := by intro e; have := HR.out.1; rw [e] at this; simp at this; omega
      have HRD : Hid (Reads wr ra rlen rcap rl) := (HR.out.below hB).reads hB.size
      have HEND : Hid (∀ k, pE last rl = k → k ≠ 0 → readE bs = k ∧ readF bs = []) := by
        intro k hk h0
        have h1 : readE bs = k := by
          rw [HRE.out, parse_cons HNE.out, firstE]
          show (if pE last rl = 0 then _ else pE last rl) = k
          rw [hk, if_neg h0]
        exact ⟨h1, by rw [readF, if_neg (by rw [h1]; exact h0)]⟩
      by_cases hE : gE rl = 0
      · have hE1 : ((gE rl : Int) != 0) = false := by simpa using hE
        have hgn := gN_le hE
        obtain ⟨b, off, hra⟩ : ∃ b off, ra = some ⟨b, off, none⟩ := by
          rcases HR.out.2.2.2 with ⟨_, h⟩ | ⟨_, _, h⟩ | ⟨b, off, h, _⟩
          · omega
          · omega
          · exact ⟨b, off, h⟩
        subst hra
        by_cases hF : (gT rl : Int) ≤ (last : Int)
        · have HEE : Hid (readE bs = 11 ∧ readF bs = []) := HEND.out 11 (pE_fault hE (fun h => (fault_rise hE).1 h hF)) (by decide)
          clear hE hgn HEND
          go_wp2_with (first | (go_at_call 79; refine (refGet_any _ _ _ rl _ HRD.out).mono ?_; rintro e W1 ⟨rfl, hb1⟩; unfold gotten) | fail)
          go_ret2
          refine ⟨.slice none 0 0, ?_, ?_, (hB.trans (hb1.mono hB.size)).alloc (Nat.le_trans hB.size hb1.size) _⟩
          · rw [HEE.out.1]; rfl
          · rw [HEE.out.2]; exact World.ownsRow_nil _ _ _ _
        · have HPE : Hid (pE last rl = 0) := pE_ok hE ((fault_rise hE).2 hF)
          have HNX : Hid (parse (len + 1) 0 bs = (pre ++ [pX last rl]) ++ parse (rlen - gN rl + 1) (gT rl) (rl.drop (gN rl))) := by
            show _ = _
            rw [HP.out, parse_cons HNE.out, if_pos HPE.out, parse_fuel (rlen - gN rl + 1) rlen (gT rl) (rl.drop (gN rl)) (by rw [List.length_drop, HR.out.1]; omega) (by omega)]
            simp
          have HDD : Hid (LReads w.heap.size w (if rcap = gN rl then some ⟨b, off, none⟩ else some ⟨b, off + gN rl, none⟩) (rlen - gN rl) (rcap - gN rl) (rl.drop (gN rl))) := HR.out.drop (n := gN rl) (by rw [← HR.out.1]; exact hgn.2.1) (by omega)
          have hgl : gN rl ≤ rlen := by rw [← HR.out.1]; exact hgn.2.1
          have hg4 : 4 ≤ gN rl := hgn.1
          have HZ2 : Hid (∀ x ∈ pre ++ [pX last rl], x.e = 0) := by
            intro y hy
            rcases List.mem_append.1 hy with h | h
            · exact HZ.out y h
            · simp at h; subst h; exact HPE.out
          have HAP : Hid (∀ W1, Below wr.heap.size wr W1 → ∃ v' w2, (Builtin.append_ #[62, 62] 62 #[u4, .slice (some ⟨W1.heap.size + 1, 0, none⟩) 1 1]).run Tryd.prog ((W1.alloc (.cells #[.int .i64 (gT rl), .string ⟨(gD rl).toArray⟩] 59)).alloc (.cells #[.int .i64 (gT rl), .string ⟨(gD rl).toArray⟩] 59)) = .ok v' w2 ∧
              w2.ownsRow w.heap.size 59 2 v' (toF (pre ++ [pX last rl])).length (fcells (toF (pre ++ [pX last rl]))) ∧ (v' = .slice none 0 0 ↔ toF (pre ++ [pX last rl]) = []) ∧ Below w.heap.size w w2 ∧ w2.cell? ⟨W1.heap.size, 0, none⟩ = some (.int .i64 (gT rl)) ∧ ∃ a' n' c', v' = .slice (some a') n' c') := by
            intro W1 hb1
            have ho1 := (hown.kept (grown_of_below hb1) (by cases u4.ownBlock with | none => exact .inl rfl | some g => exact .inr (by simp))).alloc (.cells #[.int .i64 (gT rl), .string ⟨(gD rl).toArray⟩] 59)
            obtain ⟨v', w2, hr, ho, hbw, hs, hk⟩ := run_append_field (W1.alloc (.cells #[.int .i64 (gT rl), .string ⟨(gD rl).toArray⟩] 59)) w.heap.size u4 (toF pre) ((gT rl : Int), ⟨(gD rl).toArray⟩) ho1 HN.out (by have := hB.size; have := hb1.size; simp; omega) (by rw [toF_length]; omega)
            rw [World.size_alloc] at hr
            have e1 : toF (pre ++ [pX last rl]) = toF pre ++ [((gT rl : Int), ⟨(gD rl).toArray⟩)] := toF_snoc _ _
            have hlen : (toF (pre ++ [pX last rl])).length = (toF pre).length + 1 := by rw [e1]; simp
            have hblk : w2.heap[W1.heap.size]? = some (.cells #[.int .i64 (gT rl), .string ⟨(gD rl).toArray⟩] 59 (0, 0)) := hk _ _ _ _ (World.alloc_heap_new W1 _)
            rw [← e1, ← hlen] at ho
            obtain ⟨a', n', c', hv'⟩ : ∃ a' n' c', v' = .slice (some a') n' c' := by
              rcases ho.2 with ⟨_, h⟩ | ⟨g, cp, _, h, _⟩
              · rw [hlen] at h; omega
              · exact ⟨_, _, _, h⟩
            refine ⟨v', w2, hr, ho, ?_, ((hB.trans (hb1.mono hB.size)).alloc (Nat.le_trans hB.size hb1.size) _).trans hbw, by simp [World.cell?, hblk], a', n', c', hv'⟩
            rw [hv', e1]
            simp
          clear hE hgn HEND
          go_wp2_with (first | (go_at_call 79; refine (refGet_any _ _ _ rl _ HRD.out).mono ?_; rintro e W1 ⟨rfl, hb1⟩; unfold gotten; obtain ⟨v', w2, hrun, ho2, hn2, hB2, hc2, a', n', c', hv'⟩ := HAP.out W1 hb1; have HRUN : Hid _ := hrun; clear hrun; subst hv') | (at_builtin; refine wpList_append_run (by rfl) (.tmp 25) (.tmp 27) 62 62 (by rfl) _ _ _ _ (by rfl) (by rfl) HRUN.out ?_) | fail)
          go_roundw
          case rel => exact ⟨gT rl, pre ++ [pX last rl], _, _, _, rl.drop (gN rl), rfl, rfl, HDD, by rw [List.length_append]; simp; omega, HNX, HZ2, ho2, hn2, hB2⟩
          case measure => simp; omega
      · have HEE : Hid (readE bs = gE rl ∧ readF bs = []) := HEND.out (gE rl) (pE_bad hE) hE
        have hE2 : ((gE rl : Int) != 0) = true := by simpa using hE
        clear hE HEND
        go_wp2_with (first | (go_at_call 79; refine (refGet_any _ _ _ rl _ HRD.out).mono ?_; rintro e W1 ⟨rfl, hb1⟩; unfold gotten) | fail)
        go_ret2
        refine ⟨.slice none 0 0, ?_, ?_, (hB.trans (hb1.mono hB.size)).alloc (Nat.le_trans hB.size hb1.size) _⟩
        · rw [HEE.out.1]; rfl
        · rw [HEE.out.2]; exact World.ownsRow_nil _ _ _ _
end Go.Proofs.YtdnhnjimhbbabaaDoor

/- The examples of the document for rows hold, whatever the world. -/
namespace Go.Proofs.YtdnhnjimhbbabaaDoor
open Go.RowKit Nums
set_option maxRecDepth 100000
theorem parse_small : ∀ (k last : Nat) (l : List UInt8), ∀ x ∈ parse k last l, x.d.length ≤ 65536
  | 0, _, _, x, h => by simp [parse] at h
  | k + 1, last, l, x, h => by
    rw [parse] at h
    by_cases hl : l = []
    · rw [if_pos hl] at h; simp at h
    · rw [if_neg hl] at h
      rcases List.mem_cons.1 h with rfl | h
      · exact gD_le l
      · by_cases he : pE last l = 0
        · rw [if_pos he] at h; exact parse_small k _ _ x h
        · rw [if_neg he] at h; simp at h
theorem readF_small (bs : List UInt8) : ∀ f ∈ readF bs, f.2.size ≤ maxLen := by
  intro f hf
  unfold readF at hf
  by_cases h : readE bs = 0
  · rw [if_pos h] at hf
    unfold toF at hf
    obtain ⟨x, hx, rfl⟩ := List.mem_map.1 hf
    have := parse_small _ _ _ x hx
    show x.d.toArray.size ≤ maxLen
    unfold maxLen
    simp
    omega
  · rw [if_neg h] at hf; simp at hf
theorem lay_reads (a : Option Addr) (len cap : Nat) (fs : List (Int × ByteArray)) (w : World) (hR : FReads w.heap.size w a len cap fs) (hl : len ≤ 400) {k : Int} {l : List UInt8} (hk : layE 0 fs = k) (hr : rowOf fs = l) :
    Calls Tryd.prog 33 #[.slice a len cap] w fun e W' => ∃ a' c', e = .returned (.tuple #[.slice a' l.length c', .int .i64 k]) ∧ Reads W' a' l.length c' l ∧ Below w.heap.size w W' := by
  refine (lay_any a len cap fs w hR hl).mono ?_
  rintro e W' ⟨v, rfl, hown, hb⟩
  rw [hr] at hown
  obtain ⟨a', c', rfl, hrd⟩ := reads_own hown
  exact ⟨a', c', by rw [hk], hrd, hb⟩
/-- A literal slice of fields can be read. -/
theorem freads_lit (w : World) (cs : Array Value) (m : Nat × Nat) (fs : List (Int × ByteArray)) (h : cs.toList = fcells fs) (hl : fs.length ≤ 1048576) (hm : ∀ f ∈ fs, f.2.size ≤ maxLen) :
    FReads (w.heap.size + 1) (w.alloc (.cells cs 59 m)) (some ⟨w.heap.size, 0, none⟩) fs.length fs.length fs := by
  have hcell : ∀ (fs : List (Int × ByteArray)) (i : Nat) (hi : i < fs.length), (fcells fs)[i * 2]? = some (.int .i64 fs[i].1) ∧ (fcells fs)[i * 2 + 1]? = some (.string fs[i].2) := by
    intro fs
    induction fs with
    | nil => intro i hi; simp at hi
    | cons f r ih =>
      intro i hi
      cases i with
      | zero => simp [fcells]
      | succ i =>
        have := ih i (by simpa using hi)
        have e1 : (i + 1) * 2 = i * 2 + 1 + 1 := by omega
        rw [e1]
        simpa [fcells] using this
  refine ⟨rfl, Nat.le_refl _, by omega, hm, .inr (.inr ⟨w.heap.size, 0, rfl, by omega, fun i hi => ?_⟩)⟩
  have e : ∀ j, (w.alloc (.cells cs 59 m)).cell? ⟨w.heap.size, j, none⟩ = (fcells fs)[j]? := fun j => by
    rw [World.cell?_alloc_mark w cs 59 m j, ← Array.getElem?_toList, h]
  rw [Nat.zero_add, e, e]
  exact hcell fs i hi
end Go.Proofs.YtdnhnjimhbbabaaDoor

/- What the document's Parts answers. -/
namespace Go.Proofs.YtdnhnjimhbbabaaDoor
open Go.RowKit Sums Nums
set_option linter.unusedVariables false
set_option linter.unusedSimpArgs false
set_option maxRecDepth 100000
theorem info9 : (Tryd.prog.info? 9).map (fun i => (i.zero, i.size, i.bytes)) = some (some (.string ⟨#[]⟩), 1, 16) := by kernel_rfl
def tcells (l : List ByteArray) : List Value := l.map Value.string
/-- Texts of the call's own can be read. -/
theorem texts_own {w : World} {B n : Nat} {v : Value} {l : List ByteArray} (h : w.ownsRow B 9 1 v n (tcells l)) : ∃ a c, v = .slice a n c ∧ Texts w a n l := by
  have hl : l.length = n := by have := h.1; simpa [tcells] using this
  rcases h.2 with ⟨rfl, rfl⟩ | ⟨g, cap, cur, rfl, hb, hg, hc, hm, hs, ht⟩
  · exact ⟨none, 0, rfl, hl, .inl rfl⟩
  · refine ⟨some ⟨g, 0, none⟩, cap, rfl, hl, .inr ⟨g, 0, rfl, heap_lt hg, fun i hi => ?_⟩⟩
    rw [Nat.zero_add, cell_of_row w g i cur 9 (0, 0) hg]
    have e : (tcells l)[i]? = cur.toList[i]? := by rw [← ht, List.getElem?_take, if_pos (by omega)]
    unfold tcells at e
    rw [List.getElem?_map, List.getElem?_eq_getElem hi] at e
    simpa using e.symm
theorem tags_take (fs : List (Int × ByteArray)) (n k : Nat) (h : fs.map (·.1) = tagsN n) (hk : k < fs.length) : fs[k].1 = (k : Int) + 1 := by
  have hn : fs.length = n := by rw [← List.length_map (f := (·.1)), h, tagsN_length]
  have e : (fs.map (·.1))[k]? = (tagsN n)[k]? := by rw [h]
  rw [List.getElem?_map, List.getElem?_eq_getElem hk] at e
  unfold tagsN at e
  rw [List.getElem?_map, List.getElem?_range (by omega)] at e
  simpa using e
theorem tags_all (fs : List (Int × ByteArray)) (h : ∀ k (hk : k < fs.length), fs[k].1 = (k : Int) + 1) : fs.map (·.1) = tagsN fs.length := by
  apply List.ext_getElem?
  intro k
  rw [List.getElem?_map]
  by_cases hk : k < fs.length
  · rw [List.getElem?_eq_getElem hk]
    unfold tagsN
    rw [List.getElem?_map, List.getElem?_range hk]
    simpa using h k hk
  · rw [List.getElem?_eq_none (by omega), List.getElem?_eq_none (by rw [tagsN_length]; omega)]
    rfl
/-- What Parts hands back. -/
def PartsR (bs : List UInt8) (n : Nat) (e : Ending) (w' : World) : Prop := match partsO bs n with
  | some l => ∃ x c, e = .returned (.tuple #[.slice x n c, .bool true]) ∧ Texts w' x n l
  | none => e = .returned (.tuple #[.slice none 0 0, .bool false])
theorem partsR_none {bs : List UInt8} {n : Nat} {w' : World} (h : partsO bs n = none) : PartsR bs n (.returned (.tuple #[.slice none 0 0, .bool false])) w' := by unfold PartsR; rw [h]
theorem partsR_some {bs : List UInt8} {n : Nat} {w' : World} {l : List ByteArray} (h : partsO bs n = some l) (x : Option Addr) (c : Nat) (hx : Texts w' x n l) : PartsR bs n (.returned (.tuple #[.slice x n c, .bool true])) w' := by unfold PartsR; rw [h]; exact ⟨x, c, rfl, hx⟩
set_option maxHeartbeats 8000000 in
theorem refParts_any (a : Option Addr) (len cap : Nat) (bs : List UInt8) (n : Nat) (w : World) (hR : Reads w a len cap bs) (hl : len ≤ 1000000) (hn : n ≤ 100) :
    Calls Tryd.prog 47 #[.slice a len cap, .int .i64 n] w fun e w' => PartsR bs n e w' ∧ Below w.heap.size w w' := by
  obtain ⟨fs, Hfs⟩ : ∃ fs, Hid (fs = readF bs) := ⟨readF bs, hidk rfl⟩
  have RD : Hid (Calls Tryd.prog 66 #[.slice a len cap] w fun e W' => ∃ x c, e = .returned (.tuple #[.slice x fs.length c, .int .i64 (readE bs)]) ∧ FReads W'.heap.size W' x fs.length c fs ∧ Below w.heap.size w W') := by
    refine (refRead_any a len cap bs w hR hl).mono ?_
    rintro e W' ⟨v, rfl, ho, hb⟩
    rw [← Hfs.out] at ho
    obtain ⟨x, c, rfl, hx⟩ := freads_own ho (by rw [Hfs.out]; exact readF_small bs)
    exact ⟨x, c, rfl, hx, hb⟩
  have hfl : fs.length ≤ 9223372036854775807 := by
    by_cases h0 : readE bs = 0
    · have := (lay_read h0).2.2
      rw [Hfs.out]; omega
    · rw [Hfs.out]; unfold readF; rw [if_neg h0]; simp
  clear hR
  by_cases hE : readE bs = 0
  · rw [hE] at RD
    by_cases hL : fs.length = n
    · obtain ⟨m, hm⟩ : ∃ m, fs.length = m := ⟨_, rfl⟩
      obtain rfl : m = n := by omega
      have HSOME : Hid (fs.map (·.1) = tagsN m → partsO bs m = some (fs.map (·.2))) := fun h => by unfold partsO; rw [← Hfs.out, if_pos ⟨hE, h⟩]
      have HNONE : Hid (fs.map (·.1) ≠ tagsN m → partsO bs m = none) := fun h => by unfold partsO; rw [← Hfs.out, if_neg (fun x => h x.2)]
      rw [hm] at RD
      have HM := hidk hm
      clear hE hL hm Hfs
      obtain ⟨i9, hi9, hz0, hz1, hz2⟩ := info_parts info9
      have HI := hidk (And.intro hi9 (And.intro hz0 (And.intro hz1 hz2)))
      clear hi9 hz0 hz1 hz2
      go_enter Tryd.func47, Tryd.ntmps47
      go_wp2_with fail
      refine RD.out.mono ?_
      rintro e w1 ⟨x, c, rfl, hF, hb1⟩
      have HF := hidk hF
      have HB1 := hidk hb1
      have hmc : m ≤ c := hF.2.1
      have hcc := hF.2.2.1
      clear hF hb1 RD
      go_wp2
      go_loopw [8, 9] (fun v i wr => ∃ k : Nat, k ≤ m ∧ i = .int .i64 k ∧ Hid (wr.ownsRow w1.heap.size 9 1 v k (tcells ((fs.map (·.2)).take k)) ∧ Below w1.heap.size w1 wr ∧ ∀ j (hj : j < fs.length), j < k → fs[j].1 = (j : Int) + 1)) (fun _ i _ => m - (intOf i).toNat)
      case atStart => exact ⟨0, by omega, rfl, World.ownsRow_nil _ _ _ _, Below.refl _ _, fun j hj h => absurd h (by omega)⟩
      case round =>
        obtain ⟨k, hk, rfl, HO⟩ := hrel
        by_cases hlt : k < m
        · have hkf : k < fs.length := by have := HM.out; omega
          have dk : decide ((k : Int) < (m : Int)) = true := by rw [decide_eq_true_eq]; omega
          have dk' : decide (k < m) = true := by rw [decide_eq_true_eq]; omega
          obtain ⟨tg, Htg⟩ : ∃ t, Hid (t = fs[k].1) := ⟨fs[k].1, hidk rfl⟩
          obtain ⟨da, Hda⟩ : ∃ t, Hid (t = fs[k].2) := ⟨fs[k].2, hidk rfl⟩
          obtain ⟨b, off, rfl, hc1, hc2⟩ : ∃ b off, x = some ⟨b, off, none⟩ ∧ wr.cell? ⟨b, off + k * 2, none⟩ = some (.int .i64 tg) ∧ wr.cell? ⟨b, off + k * 2 + 1, none⟩ = some (.string da) := by
            obtain ⟨_, _, _, _, h5⟩ := HF.out
            rcases h5 with ⟨_, h0⟩ | ⟨_, _, h0⟩ | ⟨b, off, e, hb, hcs⟩
            · omega
            · omega
            · exact ⟨b, off, e, by rw [Htg.out]; exact cell_keep HO.out.2.1 (hcs k hkf).1, by rw [Hda.out]; exact cell_keep HO.out.2.1 (hcs k hkf).2⟩
          have wk := wrap_int ((k : Int) + 1) (by omega) (by omega)
          by_cases ht : tg = (k : Int) + 1
          · have hnt : (tg != (k : Int) + 1) = false := by rw [bne_eq_false_iff_eq]; exact ht
            have HTT := hidk ht
            clear ht
            go_wp2_with (first
              | (at_builtin; refine wpList_append_own _ rfl (.tmp 36) (.tmp 42) 76 rfl w1.heap.size 9 i9 (.string ⟨#[]⟩) 1 16 Tryd.underlying76 HI.out.1 HI.out.2.1 HI.out.2.2.1 HI.out.2.2.2 rfl (by decide) _ _ _ rfl (HO.out.1.alloc _) ⟨wr.heap.size, 0, none⟩ 1 1 [.string da] rfl rfl ?c1 ?c2 ?c3 ?c4 ?c5 ?_)
              | fail)
            case c1 =>
              intro j u hj
              match j, hj with
              | 0, hj => simp at hj; subst hj; simp [Addr.add]
            case c2 => intro u hu; simp at hu; subst hu; rfl
            case c3 => unfold maxLen; omega
            case c4 => omega
            case c5 => simp; exact Nat.le_trans HO.out.2.1.size (by omega)
            intro v3 w3 hown3 hgrow3 _
            have HO3 : Hid (w3.ownsRow w1.heap.size 9 1 v3 (k + 1) (tcells ((fs.map (·.2)).take (k + 1))) ∧ Below w1.heap.size w1 w3 ∧ ∀ j (hj : j < fs.length), j < k + 1 → fs[j].1 = (j : Int) + 1) := by
              refine ⟨?_, (HO.out.2.1.alloc HO.out.2.1.size _).grown hgrow3 (by simp; exact Nat.le_trans HO.out.2.1.size (by omega)) (fun q e => (HO.out.1.lt q e).1), ?_⟩
              · have e1 : tcells ((fs.map (·.2)).take (k + 1)) = tcells ((fs.map (·.2)).take k) ++ [.string da] := by
                  rw [List.take_add_one, List.getElem?_map, List.getElem?_eq_getElem hkf, Hda.out]
                  simp [tcells]
                rw [e1]
                exact hown3
              · intro j hj hjk
                by_cases hjk' : j < k
                · exact HO.out.2.2 j hj hjk'
                · obtain rfl : j = k := by omega
                  rw [← Htg.out]; exact HTT.out
            clear hgrow3 hown3 HO hc1 hc2 hnt
            go_wp2
            go_roundw
            case rel => exact ⟨k + 1, by omega, by go_num, HO3⟩
            case measure => simp [intOf]; omega
          · have hnt : (tg != (k : Int) + 1) = true := by rw [bne_iff_ne]; exact ht
            have HNO : Hid (partsO bs m = none) := HNONE.out (fun h => by
              have := tags_take fs m k h hkf
              rw [← Htg.out] at this
              exact ht this)
            have HBF := hidk (HB1.out.trans (HO.out.2.1.mono HB1.out.size))
            clear ht
            go_wp2
            go_ret2
            exact ⟨partsR_none HNO.out, HBF.out⟩
        · obtain rfl : k = m := by omega
          have HSM : Hid (partsO bs k = some (fs.map (·.2))) := HSOME.out (by
            have := tags_all fs (fun j hj => HO.out.2.2 j hj (by have := HM.out; omega))
            rwa [HM.out] at this)
          have ho := HO.out.1
          rw [List.take_of_length_le (by rw [List.length_map]; have := HM.out; omega)] at ho
          obtain ⟨y, cy, rfl, hy⟩ := texts_own ho
          have HY := hidk hy
          have HBF := hidk (HB1.out.trans (HO.out.2.1.mono HB1.out.size))
          clear ho hy HO
          go_wp2
          go_ret2
          exact ⟨partsR_some HSM.out y cy HY.out, HBF.out⟩
    · have HNO : Hid (partsO bs n = none) := by
        show _ = _
        unfold partsO
        rw [if_neg]
        rintro ⟨_, h⟩
        apply hL
        rw [Hfs.out, ← List.length_map (f := (·.1)), h, tagsN_length]
      have hne : ((fs.length : Int) != (n : Int)) = true := by rw [bne_iff_ne]; omega
      obtain ⟨m, hm⟩ : ∃ m, fs.length = m := ⟨_, rfl⟩
      rw [hm] at RD hne hfl
      clear hL hE Hfs hm
      go_enter Tryd.func47, Tryd.ntmps47
      go_wp2_with fail
      refine RD.out.mono ?_
      rintro e w1 ⟨x, c, rfl, hF, hb1⟩
      have HB1 := hidk hb1
      clear hF hb1 RD
      go_wp2
      go_ret2
      exact ⟨partsR_none HNO.out, HB1.out⟩
  · have HNO : Hid (partsO bs n = none) := by
      show _ = _
      unfold partsO
      rw [if_neg (fun h => hE h.1)]
    obtain ⟨k, hk⟩ : ∃ k, readE bs = k := ⟨_, rfl⟩
    rw [hk] at RD hE
    have hne : ((k : Int) != 0) = true := by rw [bne_iff_ne]; omega
    have hne2 : ¬ k = 0 := hE
    clear hk hE Hfs
    go_enter Tryd.func47, Tryd.ntmps47
    go_wp2_with fail
    refine RD.out.mono ?_
    rintro e w1 ⟨x, c, rfl, hF, hb1⟩
    have HB1 := hidk hb1
    clear hF hb1 RD
    go_wp2
    go_ret2
    exact ⟨partsR_none HNO.out, HB1.out⟩
end Go.Proofs.YtdnhnjimhbbabaaDoor

/- What the document's Get answers. -/
namespace Go.Proofs.YtdnhnjimhbbabaaDoor
open Go.RowKit Sums Nums
set_option linter.unusedVariables false
set_option linter.unusedSimpArgs false
set_option maxRecDepth 100000
theorem builtH (h : HdT) (hd : h.d.length = 32) (D R : Array Value) (HD : Hid (D = (cellsOf h.d).toArray)) (HR : Hid (R = (hcells h).toArray)) : Tryd.prog.built 26 [(0, .int .i64 h.r), (1, .int .i64 h.e), (2, .int .i64 h.s), (3, .agg D), (4, .int .i64 h.t)] = some R := by
  have hi := infoH
  cases hq : Tryd.prog.info? 26 with
  | none => rw [hq] at hi; cases hi
  | some i =>
    rw [hq] at hi
    simp only [Option.map_some, Option.some.injEq, Prod.mk.injEq] at hi
    have hD := size23
    have h3 : (Tryd.prog.info? 3).map (·.size) = some 1 := by kernel_rfl
    cases hqD : Tryd.prog.info? 24 with
    | none => rw [hqD] at hD; cases hD
    | some iD =>
      cases hq3 : Tryd.prog.info? 3 with
      | none => rw [hq3] at h3; cases h3
      | some i3 =>
        rw [hqD] at hD
        rw [hq3] at h3
        simp only [Option.map_some, Option.some.injEq] at hD h3
        unfold Program.built
        simp only [hq, Tryd.underlying26, hi.1, List.mapM_cons, List.mapM_nil, hqD, hq3, hD, h3, Option.map_some, Option.bind_eq_bind, Option.bind_some, Option.pure_def]
        show Instr.fill _ (hcells zeroH).toArray _ = some R
        have hd32 : D.size = 32 := by rw [HD.out]; simp [cellsOf_length, hd]
        refine (fill_val _ 0 0 1 (.int .i64 h.r) #[.int .i64 h.r] _ [] [.int .i64 0] ([.int .i64 0, .int .i64 0] ++ cellsOf (List.replicate 32 0) ++ [.int .i64 0]) _ rfl rfl rfl (by simp [hcells, zeroH]) rfl rfl).trans ?_
        refine (fill_val _ 1 1 1 (.int .i64 h.e) #[.int .i64 h.e] _ [.int .i64 h.r] [.int .i64 0] ([.int .i64 0] ++ cellsOf (List.replicate 32 0) ++ [.int .i64 0]) _ rfl rfl rfl (by simp) rfl rfl).trans ?_
        refine (fill_val _ 2 2 1 (.int .i64 h.s) #[.int .i64 h.s] _ [.int .i64 h.r, .int .i64 h.e] [.int .i64 0] (cellsOf (List.replicate 32 0) ++ [.int .i64 0]) _ rfl rfl rfl (by simp) rfl rfl).trans ?_
        refine (fill_val _ 3 3 32 (.agg D) D _ [.int .i64 h.r, .int .i64 h.e, .int .i64 h.s] (cellsOf (List.replicate 32 0)) [.int .i64 0] _ rfl rfl hd32 (by simp) rfl (by simp [cellsOf_length])).trans ?_
        refine (fill_val _ 4 35 1 (.int .i64 h.t) #[.int .i64 h.t] _ ([.int .i64 h.r, .int .i64 h.e, .int .i64 h.s] ++ D.toList) [.int .i64 0] [] _ rfl rfl rfl (by simp) (by simp [hd32]) rfl).trans ?_
        simp only [Instr.fill, List.append_nil, Option.some.injEq]
        rw [HR.out, HD.out]
        rfl
theorem text_cell {W : World} {b off n : Nat} {l : List ByteArray} (h : Texts W (some ⟨b, off, none⟩) n l) (i : Nat) (hi : i < l.length) : W.cell? ⟨b, off + i, none⟩ = some (.string l[i]) := by
  rcases h.2 with h0 | ⟨b', off', e, _, hc⟩
  · have := h.1; omega
  · cases e; exact hc i hi
theorem texts_wrote {W W' : World} {b off n g : Nat} {l : List ByteArray} {D : Array Value} {t : TypeId} (h : Texts W (some ⟨b, off, none⟩) n l) (hw : Wrote g D t W W') (hg : b < g) : Texts W' (some ⟨b, off, none⟩) n l := by
  refine ⟨h.1, ?_⟩
  rcases h.2 with h0 | ⟨b', off', e, hlt, hc⟩
  · exact .inl h0
  · cases e
    have hb := hw.below 0 W (Below.refl _ _) (Nat.zero_le _)
    exact .inr ⟨b, off, rfl, Nat.lt_of_lt_of_le hlt hb.size, fun i hi => (World.cell?_of_block (a := ⟨b, off + i, none⟩) (hw.other b (by omega))).trans (hc i hi)⟩
def getHO (bs : List UInt8) : HdT := (getO bs).getD zeroH
def getHE (bs : List UInt8) : Int := if (getO bs).isSome then 0 else 70
theorem getHO_digs (bs : List UInt8) : (getHO bs).d.length = 32 := by
  unfold getHO
  cases h : getO bs with
  | none => rfl
  | some x => exact (getO_some h).2.1
set_option maxHeartbeats 16000000 in
theorem refGet7_any (a : Option Addr) (len cap : Nat) (bs : List UInt8) (w : World) (hR : Reads w a len cap bs) (hl : len ≤ 1000000) (R : Array Value) (HR : Hid (R = (hcells (getHO bs)).toArray)) :
    Calls Tryd.prog 19 #[.slice a len cap] w fun e w' => e = .returned (.tuple #[.agg R, .int .i64 (getHE bs)]) ∧ Below w.heap.size w w' := by
  have hnot : ∀ (x : Bool) (w : World), (Op.unary .not (.bool x)).run Tryd.prog w = .ok (.bool (!x)) w := fun _ _ => rfl
  obtain ⟨Z, HZ, HA, HBZ, H36⟩ := noughtsH
  obtain ⟨ZD, HZD, HAD, HSZD, H1ZD, H32D⟩ := noughts27
  have hdR := getHO_digs bs
  have HSR : Hid ((Tryd.prog.info? 26).map (·.size) = some R.size) := by show _ = _; rw [sizeH, HR.out]; simp [hcells_length _ hdR]
  have H1R : Hid (R.all (·.oneCell') = true) := by show _ = _; rw [HR.out]; exact one_cells _
  have HZR : Hid (Z.size = R.size) := by show _ = _; rw [H36.out, HR.out]; simp [hcells_length _ hdR]
  have PA : Hid (∀ W, Below w.heap.size w W → Calls Tryd.prog 47 #[.slice a len cap, .int .i64 5] W fun e w' => PartsR bs 5 e w' ∧ Below W.heap.size W w') := fun W hb => refParts_any a len cap bs 5 W (hR.below hb) hl (by omega)
  clear hR
  cases hp : partsO bs 5 with
  | none =>
    have hg : getO bs = none := by unfold getO; rw [hp]
    have hE : getHE bs = 70 := by unfold getHE; rw [hg]; rfl
    obtain rfl : R = Z := by rw [HR.out, HZ.out]; unfold getHO; rw [hg]; rfl
    have PN : Hid (∀ W, Below w.heap.size w W → Calls Tryd.prog 47 #[.slice a len cap, .int .i64 5] W fun e w' => e = .returned (.tuple #[.slice none 0 0, .bool false]) ∧ Below W.heap.size W w') := fun W hb => (PA.out W hb).mono (by rintro e w' ⟨h1, h2⟩; unfold PartsR at h1; rw [hp] at h1; exact ⟨h1, h2⟩)
    rw [hE]
    clear hE hg hp PA HR HZ HZR hdR
    go_enter Tryd.func19, Tryd.ntmps19
    go_wp2_with (first
      | (show wpList _ _ _ ({ dst := some 2, op := _, type := _, pos := _, after := _, guard := _ } :: _) _ _; refine wpList_new_var rfl 26 rfl R HA.out ?_; intro g2 w1 HM2; try simp only [Act.put, List.setIfInBounds_toArray, List.set_cons_zero, List.set_cons_succ])
      | fail)
    refine (PN.out _ HM2.out.below).mono ?_
    rintro e w2 ⟨rfl, hb2⟩
    have HB2 := hidk (HM2.out.below.trans (hb2.mono HM2.out.below.size))
    have HR2 := hidk ((hb2.block _ (heap_lt HM2.out.row)).trans HM2.out.row)
    have h2 : w.heap.size ≤ g2 := Nat.le_of_eq HM2.out.new.symm
    clear hb2 HM2 PN
    go_wp2_with (first
      | (show wpList _ _ _ ({ dst := some 15, op := _, type := _, pos := _, after := _, guard := _ } :: _) _ _; refine wpList_build_none rfl 26 rfl R HBZ.out ?_; try simp only [Act.put, List.setIfInBounds_toArray, List.set_cons_zero, List.set_cons_succ])
      | (refine wpList_set_var rfl 26 (.tmp 2) (.tmp 15) rfl g2 R rfl rfl 26 R HR2.out HSR.out rfl H1R.out ?_; intro wz HW2; try simp only [Act.put, List.setIfInBounds_toArray, List.set_cons_zero, List.set_cons_succ])
      | fail)
    refine bodyPost_ret (v := .tuple #[.agg R, .int .i64 70]) ?_ rfl ⟨rfl, HW2.out.below w.heap.size w HB2.out h2⟩
    exact results_row_tmp (p := 2) (q := 3) (ty := 26) rfl _ _ g2 26 R (0, 0) _ rfl HW2.out.row Tryd.underlying26 rfl HSR.out
  | some l =>
    have hl5 : l.length = 5 := (row_parts hp).1
    obtain ⟨x1, x2, x3, x4, x5, rfl⟩ : ∃ x1 x2 x3 x4 x5, l = [x1, x2, x3, x4, x5] := by
      match l, hl5 with
      | [x1, x2, x3, x4, x5], _ => exact ⟨x1, x2, x3, x4, x5, rfl⟩
    have hsm : ∀ y ∈ [x1, x2, x3, x4, x5], y.size ≤ maxLen := fun y hy => by
      have : [x1, x2, x3, x4, x5] = (readF bs).map (·.2) := by
        unfold partsO at hp
        split at hp
        · exact (Option.some.inj hp).symm
        · cases hp
      rw [this] at hy
      obtain ⟨f, hf, rfl⟩ := List.mem_map.1 hy
      exact readF_small bs f hf
    have PN : Hid (∀ W, Below w.heap.size w W → Calls Tryd.prog 47 #[.slice a len cap, .int .i64 5] W fun e w' => (∃ x c, e = .returned (.tuple #[.slice x 5 c, .bool true]) ∧ Texts w' x 5 [x1, x2, x3, x4, x5]) ∧ Below W.heap.size W w') := fun W hb => (PA.out W hb).mono (by rintro e w' ⟨h1, h2⟩; unfold PartsR at h1; rw [hp] at h1; exact ⟨h1, h2⟩)
    obtain ⟨D, HD, HSD, H1D, H32DD⟩ := dig_row' (digO x4) (digO_length x4)
    have HZDD : Hid (ZD.size = D.size) := by show _ = _; rw [H32D.out, H32DD.out]
    obtain ⟨bd, hbd⟩ : ∃ b, decide (x4.size = 32) = b := ⟨_, rfl⟩
    have DG : Hid (∀ W, Calls Tryd.prog 48 #[.string x4] W fun e w' => e = .returned (.tuple #[.agg D, .bool bd]) ∧ Below W.heap.size W w') := fun W => by rw [← hbd]; exact refDig_any x4 W (hsm x4 (by simp)) D HD
    have VV : ∀ x, x.size ≤ maxLen → ∀ v, v = valO x.data.toList → Hid (∀ W, Calls Tryd.prog 49 #[.string x] W fun e w' => e = .returned (.int .i64 v) ∧ Below W.heap.size W w') := fun x hx v hv W => (refVal_any x W hx).mono (by rintro e w' ⟨rfl, rfl⟩; exact ⟨by rw [hv], Below.refl _ _⟩)
    obtain ⟨v1, hv1⟩ : ∃ v, v = valO x1.data.toList := ⟨_, rfl⟩
    obtain ⟨v2, hv2⟩ : ∃ v, v = valO x2.data.toList := ⟨_, rfl⟩
    obtain ⟨v3, hv3⟩ : ∃ v, v = valO x3.data.toList := ⟨_, rfl⟩
    obtain ⟨v5, hv5⟩ : ∃ v, v = valO x5.data.toList := ⟨_, rfl⟩
    have V1 := VV x1 (hsm x1 (by simp)) v1 hv1
    have V2 := VV x2 (hsm x2 (by simp)) v2 hv2
    have V3 := VV x3 (hsm x3 (by simp)) v3 hv3
    have V5 := VV x5 (hsm x5 (by simp)) v5 hv5
    obtain ⟨hh, Hhh⟩ : ∃ h : HdT, Hid (h = ⟨v1, v2, v3, digO x4, v5⟩) := ⟨_, hidk rfl⟩
    have hhd : hh.d.length = 32 := by rw [Hhh.out]; exact digO_length x4
    obtain ⟨Q, HQ, HSQ, H1Q, H36Q⟩ := head_row5 hh hhd
    have HZQ : Hid (Z.size = Q.size) := by show _ = _; rw [H36.out, H36Q.out]
    have BH : Hid (∀ W, (Instr.build 26 #[(0, .int .i64 v1), (1, .int .i64 v2), (2, .int .i64 v3), (3, .agg D), (4, .int .i64 v5)]).run Tryd.prog W = .ok (.agg Q) W) := fun W => by
      have := builtH hh hhd D Q (by rw [Hhh.out]; exact HD) HQ
      rw [Hhh.out] at this
      exact run_build W 26 _ Q this
    obtain ⟨br, hbr⟩ : ∃ b, rightH hh = b := ⟨_, rfl⟩
    have RI : Hid (∀ W, Calls Tryd.prog 27 #[.agg Q] W fun e w' => e = .returned (.bool br) ∧ Below W.heap.size W w') := fun W => by rw [← hbr]; exact refRight_any hh hhd W Q HQ
    have hO : (bd = true ∧ br = true → getO bs = some hh) ∧ (¬ (bd = true ∧ br = true) → getO bs = none) := by
      have e4 : x4.size = 32 → headOf x1 x2 x3 x4 x5 = hh := fun h4 => by
        rw [Hhh.out, hv1, hv2, hv3, hv5]
        unfold headOf digO
        rw [if_pos h4]
      have hg : getO bs = if x4.size = 32 ∧ rightH (headOf x1 x2 x3 x4 x5) = true then some (headOf x1 x2 x3 x4 x5) else none := by unfold getO; rw [hp]
      refine ⟨fun hb => ?_, fun hb => ?_⟩
      · have h4 : x4.size = 32 := by rw [hb.1] at hbd; simpa using hbd
        rw [hg, e4 h4, if_pos ⟨h4, by rw [hbr]; exact hb.2⟩]
      · rw [hg, if_neg]
        rintro ⟨h4, hr⟩
        apply hb
        rw [e4 h4] at hr
        exact ⟨by rw [← hbd]; simpa using h4, by rw [← hbr]; exact hr⟩
    have HOK : Hid (bd = true ∧ br = true → R = Q ∧ getHE bs = 0) := fun hb => by
      have := hO.1 hb
      refine ⟨?_, by unfold getHE; rw [this]; rfl⟩
      rw [HR.out, HQ.out]; unfold getHO; rw [this]; rfl
    have HNO : Hid (¬ (bd = true ∧ br = true) → R = Z ∧ getHE bs = 70) := fun hb => by
      have := hO.2 hb
      refine ⟨?_, by unfold getHE; rw [this]; rfl⟩
      rw [HR.out, HZ.out]; unfold getHO; rw [this]; rfl
    obtain ⟨E, hE⟩ : ∃ E, E = getHE bs := ⟨_, rfl⟩
    rw [← hE] at HOK HNO ⊢
    have HSZ : Hid ((Tryd.prog.info? 26).map (·.size) = some Z.size) := by show _ = _; rw [sizeH, H36.out]
    have H1Z : Hid (Z.all (·.oneCell') = true) := by show _ = _; rw [HZ.out]; exact one_cells _
    clear hE hO hbr hbd hp hl5 hsm PA VV HR HZ HD HQ Hhh hv1 hv2 hv3 hv5 hhd hdR
    go_enter Tryd.func19, Tryd.ntmps19
    go_wp2_with (first
      | (show wpList _ _ _ ({ dst := some 2, op := _, type := _, pos := _, after := _, guard := _ } :: _) _ _; refine wpList_new_var rfl 26 rfl Z HA.out ?_; intro g2 w1 HM2; try simp only [Act.put, List.setIfInBounds_toArray, List.set_cons_zero, List.set_cons_succ])
      | fail)
    refine (PN.out _ HM2.out.below).mono ?_
    rintro e w2 ⟨⟨y, c, rfl, hy⟩, hb2⟩
    obtain ⟨b, off, rfl⟩ : ∃ b off, y = some ⟨b, off, none⟩ := by
      rcases hy.2 with h0 | ⟨b, off, e, _⟩
      · cases h0
      · exact ⟨b, off, e⟩
    have HY := hidk hy
    have HB2 := hidk (HM2.out.below.trans (hb2.mono HM2.out.below.size))
    have HR2 := hidk ((hb2.block _ (heap_lt HM2.out.row)).trans HM2.out.row)
    have h2 : w.heap.size ≤ g2 := Nat.le_of_eq HM2.out.new.symm
    have hc3 := text_cell hy 3 (by simp)
    simp only [List.getElem_cons_zero, List.getElem_cons_succ] at hc3
    clear hb2 HM2 PN hy
    go_wp2_with fail
    refine (DG.out _).mono ?_
    rintro e w3 ⟨rfl, hb3⟩
    have HB3 := hidk (HB2.out.trans (hb3.mono HB2.out.size))
    have HR23 := hidk ((hb3.block _ (heap_lt HR2.out)).trans HR2.out)
    have HY3 := hidk (HY.out.keep hb3)
    clear hb3 HB2 HR2 HY DG hc3
    go_wp2_with (first
      | (show wpList _ _ _ ({ dst := some 6, op := _, type := _, pos := _, after := _, guard := _ } :: _) _ _; refine wpList_new_var rfl 24 rfl ZD HAD.out ?_; intro g6 w4 HM6; try simp only [Act.put, List.setIfInBounds_toArray, List.set_cons_zero, List.set_cons_succ])
      | (refine wpList_set_var rfl 24 (.tmp 6) (.tmp 21) rfl g6 D rfl rfl 24 ZD HM6.out.row HSD.out HZDD.out H1D.out ?_; intro w5 HW6; try simp only [Act.put, List.setIfInBounds_toArray, List.set_cons_zero, List.set_cons_succ])
      | fail)
    have h6 : g2 < g6 := by rw [HM6.out.new]; exact heap_lt HR23.out
    have HX5 := hidk (HW6.out.below w3.heap.size w3 HM6.out.below (Nat.le_of_eq HM6.out.new.symm))
    have HBc := hidk (HB3.out.trans (HX5.out.mono HB3.out.size)).drew
    have HR25 := hidk ((HX5.out.block _ (heap_lt HR23.out)).trans HR23.out)
    have HY5 := hidk (HY3.out.keep HX5.out)
    have HR65 := hidk HW6.out.row
    have HTB : Hid (b < g6) := by
      show b < g6
      rcases HY3.out.2 with h0 | ⟨b', off', e, hlt, _⟩
      · cases h0
      · cases e; rw [HM6.out.new]; exact hlt
    clear HM6 HW6 HX5 HB3 HR23 HY3
    refine wp_region_held_drew (S := (fun W => Texts W (some ⟨b, off, none⟩) 5 [x1, x2, x3, x4, x5] ∧ W.heap[g6]? = some (.cells D 24 (0, 0)) ∧ W.heap[g2]? = some (.cells Z 26 (0, 0)))) (by kernel_rfl) ⟨HY5.out.keep (Below.refl _ _).drew, HR65.out, HR25.out⟩ (fun hHeld => ?_)
    refine wpAnyH_take (i := 0) (oi := { dst := some 23, op := Op.move (Operand.tmp 4), type := 76, pos := "ref.go:92", after := #[], guard := none }) (v := .slice (some ⟨b, off, none⟩) 5 c) rfl (by kernel_rfl) (by kernel_rfl) (by kernel_rfl) (fun _ _ _ h => h) (Or.inl ⟨by rfl, by intro W hSw; go_simp⟩) hHeld ?_
    try simp only [Act.put, List.setIfInBounds_toArray, List.set_cons_zero, List.set_cons_succ]
    refine wpAnyH_take (i := 1) (oi := { dst := some 24, op := Op.indexAddr 76 (Operand.tmp 23) (Operand.const (Value.int IntKind.i64 0)), type := 0, pos := "ref.go:92", after := #[{ on := 0, ground := Ground.data }], guard := none }) (v := .pointer (some ⟨b, off, none⟩)) rfl (by kernel_rfl) (by kernel_rfl) (by kernel_rfl) (fun _ _ _ h => h) (Or.inl ⟨by rfl, by intro W hSw; go_simp⟩) hHeld ?_
    try simp only [Act.put, List.setIfInBounds_toArray, List.set_cons_zero, List.set_cons_succ]
    refine wpAnyH_take (i := 2) (oi := { dst := some 25, op := Op.load 9 (Operand.tmp 24), type := 9, pos := "ref.go:92", after := #[{ on := 1, ground := Ground.data }], guard := none }) (v := .string x1) rfl (by kernel_rfl) (by kernel_rfl) (by kernel_rfl) (fun _ _ _ h => h) (Or.inl ⟨by rfl, by intro W hSw; have h1 := text_cell hSw.1 0 (by simp); simp only [List.getElem_cons_zero, List.getElem_cons_succ, Nat.add_zero] at h1; go_simp⟩) hHeld ?_
    try simp only [Act.put, List.setIfInBounds_toArray, List.set_cons_zero, List.set_cons_succ]
    refine wpAnyH_take (i := 4) (oi := { dst := some 27, op := Op.move (Operand.tmp 4), type := 76, pos := "ref.go:92", after := #[], guard := none }) (v := .slice (some ⟨b, off, none⟩) 5 c) rfl (by kernel_rfl) (by kernel_rfl) (by kernel_rfl) (fun _ _ _ h => h) (Or.inl ⟨by rfl, by intro W hSw; go_simp⟩) hHeld ?_
    try simp only [Act.put, List.setIfInBounds_toArray, List.set_cons_zero, List.set_cons_succ]
    refine wpAnyH_take (i := 5) (oi := { dst := some 28, op := Op.indexAddr 76 (Operand.tmp 27) (Operand.const (Value.int IntKind.i64 1)), type := 0, pos := "ref.go:92", after := #[{ on := 4, ground := Ground.data }], guard := none }) (v := .pointer (some ⟨b, off + 1, none⟩)) rfl (by kernel_rfl) (by kernel_rfl) (by kernel_rfl) (fun _ _ _ h => h) (Or.inl ⟨by rfl, by intro W hSw; go_simp⟩) hHeld ?_
    try simp only [Act.put, List.setIfInBounds_toArray, List.set_cons_zero, List.set_cons_succ]
    refine wpAnyH_take (i := 6) (oi := { dst := some 29, op := Op.load 9 (Operand.tmp 28), type := 9, pos := "ref.go:92", after := #[{ on := 5, ground := Ground.data }], guard := none }) (v := .string x2) rfl (by kernel_rfl) (by kernel_rfl) (by kernel_rfl) (fun _ _ _ h => h) (Or.inl ⟨by rfl, by intro W hSw; have h1 := text_cell hSw.1 1 (by simp); simp only [List.getElem_cons_zero, List.getElem_cons_succ, Nat.add_zero] at h1; go_simp⟩) hHeld ?_
    try simp only [Act.put, List.setIfInBounds_toArray, List.set_cons_zero, List.set_cons_succ]
    refine wpAnyH_take (i := 8) (oi := { dst := some 31, op := Op.move (Operand.tmp 4), type := 76, pos := "ref.go:92", after := #[], guard := none }) (v := .slice (some ⟨b, off, none⟩) 5 c) rfl (by kernel_rfl) (by kernel_rfl) (by kernel_rfl) (fun _ _ _ h => h) (Or.inl ⟨by rfl, by intro W hSw; go_simp⟩) hHeld ?_
    try simp only [Act.put, List.setIfInBounds_toArray, List.set_cons_zero, List.set_cons_succ]
    refine wpAnyH_take (i := 9) (oi := { dst := some 32, op := Op.indexAddr 76 (Operand.tmp 31) (Operand.const (Value.int IntKind.i64 2)), type := 0, pos := "ref.go:92", after := #[{ on := 8, ground := Ground.data }], guard := none }) (v := .pointer (some ⟨b, off + 2, none⟩)) rfl (by kernel_rfl) (by kernel_rfl) (by kernel_rfl) (fun _ _ _ h => h) (Or.inl ⟨by rfl, by intro W hSw; go_simp⟩) hHeld ?_
    try simp only [Act.put, List.setIfInBounds_toArray, List.set_cons_zero, List.set_cons_succ]
    refine wpAnyH_take (i := 10) (oi := { dst := some 33, op := Op.load 9 (Operand.tmp 32), type := 9, pos := "ref.go:92", after := #[{ on := 9, ground := Ground.data }], guard := none }) (v := .string x3) rfl (by kernel_rfl) (by kernel_rfl) (by kernel_rfl) (fun _ _ _ h => h) (Or.inl ⟨by rfl, by intro W hSw; have h1 := text_cell hSw.1 2 (by simp); simp only [List.getElem_cons_zero, List.getElem_cons_succ, Nat.add_zero] at h1; go_simp⟩) hHeld ?_
    try simp only [Act.put, List.setIfInBounds_toArray, List.set_cons_zero, List.set_cons_succ]
    refine wpAnyH_take (i := 12) (oi := { dst := some 35, op := Op.load 24 (Operand.tmp 6), type := 24, pos := "ref.go:92", after := #[], guard := none }) (v := .agg D) rfl (by kernel_rfl) (by kernel_rfl) (by kernel_rfl) (fun _ _ _ h => h) (yieldsIf_row (by rfl) 24 (.tmp 6) rfl g6 rfl 24 D (0, 0) _ (fun _ h => h.2.1) Tryd.underlying24 rfl HSD.out) hHeld ?_
    try simp only [Act.put, List.setIfInBounds_toArray, List.set_cons_zero, List.set_cons_succ]
    refine wpAnyH_take (i := 13) (oi := { dst := some 36, op := Op.move (Operand.tmp 4), type := 76, pos := "ref.go:92", after := #[], guard := none }) (v := .slice (some ⟨b, off, none⟩) 5 c) rfl (by kernel_rfl) (by kernel_rfl) (by kernel_rfl) (fun _ _ _ h => h) (Or.inl ⟨by rfl, by intro W hSw; go_simp⟩) hHeld ?_
    try simp only [Act.put, List.setIfInBounds_toArray, List.set_cons_zero, List.set_cons_succ]
    refine wpAnyH_take (i := 14) (oi := { dst := some 37, op := Op.indexAddr 76 (Operand.tmp 36) (Operand.const (Value.int IntKind.i64 4)), type := 0, pos := "ref.go:92", after := #[{ on := 13, ground := Ground.data }], guard := none }) (v := .pointer (some ⟨b, off + 4, none⟩)) rfl (by kernel_rfl) (by kernel_rfl) (by kernel_rfl) (fun _ _ _ h => h) (Or.inl ⟨by rfl, by intro W hSw; go_simp⟩) hHeld ?_
    try simp only [Act.put, List.setIfInBounds_toArray, List.set_cons_zero, List.set_cons_succ]
    refine wpAnyH_take (i := 15) (oi := { dst := some 38, op := Op.load 9 (Operand.tmp 37), type := 9, pos := "ref.go:92", after := #[{ on := 14, ground := Ground.data }], guard := none }) (v := .string x5) rfl (by kernel_rfl) (by kernel_rfl) (by kernel_rfl) (fun _ _ _ h => h) (Or.inl ⟨by rfl, by intro W hSw; have h1 := text_cell hSw.1 4 (by simp); simp only [List.getElem_cons_zero, List.getElem_cons_succ, Nat.add_zero] at h1; go_simp⟩) hHeld ?_
    try simp only [Act.put, List.setIfInBounds_toArray, List.set_cons_zero, List.set_cons_succ]
    refine wpAnyH_ready (rs := [3, 18]) (by kernel_rfl) (by simp) ?_
    refine (AllReadyH.cons (o := { dst := some 26, op := Op.call { callee := Callee.value (Operand.func 49), args := #[Operand.tmp 25], argTypes := #[9] }, type := 3, pos := "ref.go:92", after := #[{ on := 2, ground := Ground.data }], guard := none }) rfl (fun K hK => ?_) (AllReadyH.cons (o := { dst := some 7, op := Op.alloc 26, type := 0, pos := "ref.go:92", after := #[], guard := none }) rfl (fun K hK => ?_) AllReadyH.nil))
    · go_simp
      refine (V1.out _).mono ?_
      rintro e w3 ⟨rfl, hb3⟩
      replace HBc := hidk (HBc.out.trans (hb3.mono HBc.out.size))
      try replace HR7 := hidk ((hb3.block _ (heap_lt HR7.out)).trans HR7.out)
      go_wp2_with fail
      refine hK.out _ _ ⟨hHeld.1.keep hb3, (hb3.block _ (heap_lt hHeld.2.1)).trans hHeld.2.1, (hb3.block _ (heap_lt hHeld.2.2)).trans hHeld.2.2⟩ (fun hHeld => ?_)
      clear hK K
      try simp only [Act.put, List.setIfInBounds_toArray, List.set_cons_zero, List.set_cons_succ]
      refine wpAnyH_ready (rs := [7, 18]) (by kernel_rfl) (by simp) ?_
      refine (AllReadyH.cons (o := { dst := some 30, op := Op.call { callee := Callee.value (Operand.func 49), args := #[Operand.tmp 29], argTypes := #[9] }, type := 3, pos := "ref.go:92", after := #[{ on := 6, ground := Ground.data }, { on := 3, ground := Ground.chain }], guard := none }) rfl (fun K hK => ?_) (AllReadyH.cons (o := { dst := some 7, op := Op.alloc 26, type := 0, pos := "ref.go:92", after := #[], guard := none }) rfl (fun K hK => ?_) AllReadyH.nil))
      · go_simp
        refine (V2.out _).mono ?_
        rintro e w7 ⟨rfl, hb7⟩
        replace HBc := hidk (HBc.out.trans (hb7.mono HBc.out.size))
        try replace HR7 := hidk ((hb7.block _ (heap_lt HR7.out)).trans HR7.out)
        go_wp2_with fail
        refine hK.out _ _ ⟨hHeld.1.keep hb7, (hb7.block _ (heap_lt hHeld.2.1)).trans hHeld.2.1, (hb7.block _ (heap_lt hHeld.2.2)).trans hHeld.2.2⟩ (fun hHeld => ?_)
        clear hK K
        try simp only [Act.put, List.setIfInBounds_toArray, List.set_cons_zero, List.set_cons_succ]
        refine wpAnyH_ready (rs := [11, 18]) (by kernel_rfl) (by simp) ?_
        refine (AllReadyH.cons (o := { dst := some 34, op := Op.call { callee := Callee.value (Operand.func 49), args := #[Operand.tmp 33], argTypes := #[9] }, type := 3, pos := "ref.go:92", after := #[{ on := 10, ground := Ground.data }, { on := 7, ground := Ground.chain }], guard := none }) rfl (fun K hK => ?_) (AllReadyH.cons (o := { dst := some 7, op := Op.alloc 26, type := 0, pos := "ref.go:92", after := #[], guard := none }) rfl (fun K hK => ?_) AllReadyH.nil))
        · go_simp
          refine (V3.out _).mono ?_
          rintro e w11 ⟨rfl, hb11⟩
          replace HBc := hidk (HBc.out.trans (hb11.mono HBc.out.size))
          try replace HR7 := hidk ((hb11.block _ (heap_lt HR7.out)).trans HR7.out)
          go_wp2_with fail
          refine hK.out _ _ ⟨hHeld.1.keep hb11, (hb11.block _ (heap_lt hHeld.2.1)).trans hHeld.2.1, (hb11.block _ (heap_lt hHeld.2.2)).trans hHeld.2.2⟩ (fun hHeld => ?_)
          clear hK K
          try simp only [Act.put, List.setIfInBounds_toArray, List.set_cons_zero, List.set_cons_succ]
          refine wpAnyH_ready (rs := [16, 18]) (by kernel_rfl) (by simp) ?_
          refine (AllReadyH.cons (o := { dst := some 39, op := Op.call { callee := Callee.value (Operand.func 49), args := #[Operand.tmp 38], argTypes := #[9] }, type := 3, pos := "ref.go:92", after := #[{ on := 15, ground := Ground.data }, { on := 11, ground := Ground.chain }], guard := none }) rfl (fun K hK => ?_) (AllReadyH.cons (o := { dst := some 7, op := Op.alloc 26, type := 0, pos := "ref.go:92", after := #[], guard := none }) rfl (fun K hK => ?_) AllReadyH.nil))
          · go_simp
            refine (V5.out _).mono ?_
            rintro e w16 ⟨rfl, hb16⟩
            replace HBc := hidk (HBc.out.trans (hb16.mono HBc.out.size))
            try replace HR7 := hidk ((hb16.block _ (heap_lt HR7.out)).trans HR7.out)
            go_wp2_with fail
            refine hK.out _ _ ⟨hHeld.1.keep hb16, (hb16.block _ (heap_lt hHeld.2.1)).trans hHeld.2.1, (hb16.block _ (heap_lt hHeld.2.2)).trans hHeld.2.2⟩ (fun hHeld => ?_)
            clear hK K
            try simp only [Act.put, List.setIfInBounds_toArray, List.set_cons_zero, List.set_cons_succ]
            refine wpAnyH_take (i := 17) (oi := { dst := some 40, op := Op.build 26 #[(0, Operand.tmp 26), (1, Operand.tmp 30), (2, Operand.tmp 34), (3, Operand.tmp 35), (4, Operand.tmp 39)], type := 26, pos := "ref.go:92", after := #[{ on := 3, ground := Ground.data }, { on := 7, ground := Ground.data }, { on := 11, ground := Ground.data }, { on := 12, ground := Ground.data }, { on := 16, ground := Ground.data }], guard := none }) (v := .agg Q) rfl (by kernel_rfl) (by kernel_rfl) (by kernel_rfl) (fun _ _ _ h => h) (yieldsIf_build (by rfl) 26 _ rfl #[(0, .int .i64 v1), (1, .int .i64 v2), (2, .int .i64 v3), (3, .agg D), (4, .int .i64 v5)] rfl (.agg Q) BH.out) hHeld ?_
            try simp only [Act.put, List.setIfInBounds_toArray, List.set_cons_zero, List.set_cons_succ]
            refine wpAnyH_ready (rs := [18]) (by kernel_rfl) (by simp) ?_
            refine (AllReadyH.cons (o := { dst := some 7, op := Op.alloc 26, type := 0, pos := "ref.go:92", after := #[], guard := none }) rfl (fun K hK => ?_) AllReadyH.nil)
            refine step_new_var (by rfl) 26 rfl Z HA.out ?_
            intro g7 wg HM7
            have HR7 := hidk HM7.out.row
            have HG7 : Hid (g6 < g7) := (by show g6 < g7; rw [HM7.out.new]; exact heap_lt hHeld.2.1)
            replace HBc := hidk (HBc.out.trans (HM7.out.below.mono HBc.out.size))
            refine hK.out _ _ ⟨hHeld.1.keep HM7.out.below, (HM7.out.below.block _ (heap_lt hHeld.2.1)).trans hHeld.2.1, (HM7.out.below.block _ (heap_lt hHeld.2.2)).trans hHeld.2.2⟩ (fun hHeld => ?_)
            clear hK K
            try simp only [Act.put, List.setIfInBounds_toArray, List.set_cons_zero, List.set_cons_succ]
            refine wpAnyH_ready (rs := [19]) (by kernel_rfl) (by simp) ?_
            refine (AllReadyH.cons (o := { dst := none, op := Op.store 26 (Operand.tmp 7) (Operand.tmp 40), type := 0, pos := "ref.go:92", after := #[{ on := 18, ground := Ground.data }, { on := 17, ground := Ground.data }, { on := 16, ground := Ground.chain }, { on := 0, ground := Ground.phase }, { on := 1, ground := Ground.phase }, { on := 2, ground := Ground.phase }, { on := 3, ground := Ground.phase }, { on := 4, ground := Ground.phase }, { on := 5, ground := Ground.phase }, { on := 6, ground := Ground.phase }, { on := 7, ground := Ground.phase }, { on := 8, ground := Ground.phase }, { on := 9, ground := Ground.phase }, { on := 10, ground := Ground.phase }, { on := 11, ground := Ground.phase }, { on := 12, ground := Ground.phase }, { on := 13, ground := Ground.phase }, { on := 14, ground := Ground.phase }, { on := 15, ground := Ground.phase }, { on := 16, ground := Ground.phase }, { on := 17, ground := Ground.phase }, { on := 18, ground := Ground.phase }], guard := none }) rfl (fun K hK => ?_) AllReadyH.nil)
            refine step_set_var (by rfl) 26 (.tmp 7) (.tmp 40) rfl g7 Q rfl rfl 26 Z HR7.out HSQ.out HZQ.out H1Q.out ?_
            intro wz HW7
            refine hK.out _ _ ⟨texts_wrote hHeld.1 HW7.out (by have := HG7.out; have := HTB.out; omega), (HW7.out.other _ (by have := HG7.out; omega)).trans hHeld.2.1, (HW7.out.other _ (by have := HG7.out; omega)).trans hHeld.2.2⟩ (fun hHeld => ?_)
            clear hK K
            try simp only [Act.put, List.setIfInBounds_toArray, List.set_cons_zero, List.set_cons_succ]
            refine wpAnyH_done (by kernel_rfl) ?_ _
            have h7 : g6 < g7 := HG7.out
            have HR7z := hidk HW7.out.row
            have HR2z := hidk hHeld.2.2
            have HBz := hidk (HW7.out.below w.heap.size w HBc.out (by omega))
            clear HW7 HBc hHeld HR7
            cases bd
            · obtain ⟨rfl, rfl⟩ := HNO.out (by simp)
              go_wp2_with (first
                | (show wpList _ _ _ ({ dst := some 48, op := _, type := _, pos := _, after := _, guard := _ } :: _) _ _; refine wpList_build_none rfl 26 rfl R HBZ.out ?_; try simp only [Act.put, List.setIfInBounds_toArray, List.set_cons_zero, List.set_cons_succ])
                | (refine wpList_set_var rfl 26 (.tmp 2) (.tmp 48) rfl g2 R rfl rfl 26 R HR2z.out HSZ.out rfl H1Z.out ?_; intro wz HW2; try simp only [Act.put, List.setIfInBounds_toArray, List.set_cons_zero, List.set_cons_succ])
                | fail)
              refine bodyPost_ret (v := .tuple #[.agg R, .int .i64 70]) ?_ rfl ⟨rfl, HW2.out.below w.heap.size w HBz.out h2⟩
              exact results_row_tmp (p := 2) (q := 3) (ty := 26) rfl _ _ g2 26 R (0, 0) _ rfl HW2.out.row Tryd.underlying26 rfl HSZ.out
            · go_wp2_with (first
                | (show wpList _ _ _ ({ dst := some 44, op := _, type := _, pos := _, after := _, guard := _ } :: _) _ _; refine wpList_load_row_w (by rfl) 26 (.tmp 7) rfl g7 rfl 26 Q (0, 0) _ HR7z.out Tryd.underlying26 rfl HSQ.out ?_; try simp only [Act.put, List.setIfInBounds_toArray, List.set_cons_zero, List.set_cons_succ])
                | fail)
              refine (RI.out _).mono ?_
              rintro e wr ⟨rfl, hbr⟩
              have HBr := hidk (HBz.out.trans (hbr.mono HBz.out.size))
              have HR7r := hidk ((hbr.block _ (heap_lt HR7z.out)).trans HR7z.out)
              have HR2r := hidk ((hbr.block _ (heap_lt HR2z.out)).trans HR2z.out)
              clear hbr HBz HR7z HR2z RI
              cases br
              · obtain ⟨rfl, rfl⟩ := HNO.out (by simp)
                go_wp2_with (first
                  | (show wpList _ _ _ ({ dst := some 48, op := _, type := _, pos := _, after := _, guard := _ } :: _) _ _; refine wpList_build_none rfl 26 rfl R HBZ.out ?_; try simp only [Act.put, List.setIfInBounds_toArray, List.set_cons_zero, List.set_cons_succ])
                  | (refine wpList_set_var rfl 26 (.tmp 2) (.tmp 48) rfl g2 R rfl rfl 26 R HR2r.out HSZ.out rfl H1Z.out ?_; intro wz HW2; try simp only [Act.put, List.setIfInBounds_toArray, List.set_cons_zero, List.set_cons_succ])
                  | fail)
                refine bodyPost_ret (v := .tuple #[.agg R, .int .i64 70]) ?_ rfl ⟨rfl, HW2.out.below w.heap.size w HBr.out h2⟩
                exact results_row_tmp (p := 2) (q := 3) (ty := 26) rfl _ _ g2 26 R (0, 0) _ rfl HW2.out.row Tryd.underlying26 rfl HSZ.out
              · obtain ⟨rfl, rfl⟩ := HOK.out (by simp)
                go_wp2_with (first
                  | (show wpList _ _ _ ({ dst := some 49, op := _, type := _, pos := _, after := _, guard := _ } :: _) _ _; refine wpList_load_row rfl 26 (.tmp 7) rfl g7 rfl 26 R (0, 0) _ HR7r.out Tryd.underlying26 rfl HSQ.out ?_; try simp only [Act.put, List.setIfInBounds_toArray, List.set_cons_zero, List.set_cons_succ])
                  | (refine wpList_set_var rfl 26 (.tmp 2) (.tmp 49) rfl g2 R rfl rfl 26 Z HR2r.out HSR.out HZR.out H1R.out ?_; intro wz HW2; try simp only [Act.put, List.setIfInBounds_toArray, List.set_cons_zero, List.set_cons_succ])
                  | fail)
                refine bodyPost_ret (v := .tuple #[.agg R, .int .i64 0]) ?_ rfl ⟨rfl, HW2.out.below w.heap.size w HBr.out h2⟩
                exact results_row_tmp (p := 2) (q := 3) (ty := 26) rfl _ _ g2 26 R (0, 0) _ rfl HW2.out.row Tryd.underlying26 rfl HSR.out
          · refine step_new_var (by rfl) 26 rfl Z HA.out ?_
            intro g7 wg HM7
            have HR7 := hidk HM7.out.row
            have HG7 : Hid (g6 < g7) := (by show g6 < g7; rw [HM7.out.new]; exact heap_lt hHeld.2.1)
            replace HBc := hidk (HBc.out.trans (HM7.out.below.mono HBc.out.size))
            refine hK.out _ _ ⟨hHeld.1.keep HM7.out.below, (HM7.out.below.block _ (heap_lt hHeld.2.1)).trans hHeld.2.1, (HM7.out.below.block _ (heap_lt hHeld.2.2)).trans hHeld.2.2⟩ (fun hHeld => ?_)
            clear hK K
            try simp only [Act.put, List.setIfInBounds_toArray, List.set_cons_zero, List.set_cons_succ]
            refine wpAnyH_ready (rs := [16]) (by kernel_rfl) (by simp) ?_
            refine (AllReadyH.cons (o := { dst := some 39, op := Op.call { callee := Callee.value (Operand.func 49), args := #[Operand.tmp 38], argTypes := #[9] }, type := 3, pos := "ref.go:92", after := #[{ on := 15, ground := Ground.data }, { on := 11, ground := Ground.chain }], guard := none }) rfl (fun K hK => ?_) AllReadyH.nil)
            go_simp
            refine (V5.out _).mono ?_
            rintro e w16 ⟨rfl, hb16⟩
            replace HBc := hidk (HBc.out.trans (hb16.mono HBc.out.size))
            try replace HR7 := hidk ((hb16.block _ (heap_lt HR7.out)).trans HR7.out)
            go_wp2_with fail
            refine hK.out _ _ ⟨hHeld.1.keep hb16, (hb16.block _ (heap_lt hHeld.2.1)).trans hHeld.2.1, (hb16.block _ (heap_lt hHeld.2.2)).trans hHeld.2.2⟩ (fun hHeld => ?_)
            clear hK K
            try simp only [Act.put, List.setIfInBounds_toArray, List.set_cons_zero, List.set_cons_succ]
            refine wpAnyH_take (i := 17) (oi := { dst := some 40, op := Op.build 26 #[(0, Operand.tmp 26), (1, Operand.tmp 30), (2, Operand.tmp 34), (3, Operand.tmp 35), (4, Operand.tmp 39)], type := 26, pos := "ref.go:92", after := #[{ on := 3, ground := Ground.data }, { on := 7, ground := Ground.data }, { on := 11, ground := Ground.data }, { on := 12, ground := Ground.data }, { on := 16, ground := Ground.data }], guard := none }) (v := .agg Q) rfl (by kernel_rfl) (by kernel_rfl) (by kernel_rfl) (fun _ _ _ h => h) (yieldsIf_build (by rfl) 26 _ rfl #[(0, .int .i64 v1), (1, .int .i64 v2), (2, .int .i64 v3), (3, .agg D), (4, .int .i64 v5)] rfl (.agg Q) BH.out) hHeld ?_
            try simp only [Act.put, List.setIfInBounds_toArray, List.set_cons_zero, List.set_cons_succ]
            refine wpAnyH_ready (rs := [19]) (by kernel_rfl) (by simp) ?_
            refine (AllReadyH.cons (o := { dst := none, op := Op.store 26 (Operand.tmp 7) (Operand.tmp 40), type := 0, pos := "ref.go:92", after := #[{ on := 18, ground := Ground.data }, { on := 17, ground := Ground.data }, { on := 16, ground := Ground.chain }, { on := 0, ground := Ground.phase }, { on := 1, ground := Ground.phase }, { on := 2, ground := Ground.phase }, { on := 3, ground := Ground.phase }, { on := 4, ground := Ground.phase }, { on := 5, ground := Ground.phase }, { on := 6, ground := Ground.phase }, { on := 7, ground := Ground.phase }, { on := 8, ground := Ground.phase }, { on := 9, ground := Ground.phase }, { on := 10, ground := Ground.phase }, { on := 11, ground := Ground.phase }, { on := 12, ground := Ground.phase }, { on := 13, ground := Ground.phase }, { on := 14, ground := Ground.phase }, { on := 15, ground := Ground.phase }, { on := 16, ground := Ground.phase }, { on := 17, ground := Ground.phase }, { on := 18, ground := Ground.phase }], guard := none }) rfl (fun K hK => ?_) AllReadyH.nil)
            refine step_set_var (by rfl) 26 (.tmp 7) (.tmp 40) rfl g7 Q rfl rfl 26 Z HR7.out HSQ.out HZQ.out H1Q.out ?_
            intro wz HW7
            refine hK.out _ _ ⟨texts_wrote hHeld.1 HW7.out (by have := HG7.out; have := HTB.out; omega), (HW7.out.other _ (by have := HG7.out; omega)).trans hHeld.2.1, (HW7.out.other _ (by have := HG7.out; omega)).trans hHeld.2.2⟩ (fun hHeld => ?_)
            clear hK K
            try simp only [Act.put, List.setIfInBounds_toArray, List.set_cons_zero, List.set_cons_succ]
            refine wpAnyH_done (by kernel_rfl) ?_ _
            have h7 : g6 < g7 := HG7.out
            have HR7z := hidk HW7.out.row
            have HR2z := hidk hHeld.2.2
            have HBz := hidk (HW7.out.below w.heap.size w HBc.out (by omega))
            clear HW7 HBc hHeld HR7
            cases bd
            · obtain ⟨rfl, rfl⟩ := HNO.out (by simp)
              go_wp2_with (first
                | (show wpList _ _ _ ({ dst := some 48, op := _, type := _, pos := _, after := _, guard := _ } :: _) _ _; refine wpList_build_none rfl 26 rfl R HBZ.out ?_; try simp only [Act.put, List.setIfInBounds_toArray, List.set_cons_zero, List.set_cons_succ])
                | (refine wpList_set_var rfl 26 (.tmp 2) (.tmp 48) rfl g2 R rfl rfl 26 R HR2z.out HSZ.out rfl H1Z.out ?_; intro wz HW2; try simp only [Act.put, List.setIfInBounds_toArray, List.set_cons_zero, List.set_cons_succ])
                | fail)
              refine bodyPost_ret (v := .tuple #[.agg R, .int .i64 70]) ?_ rfl ⟨rfl, HW2.out.below w.heap.size w HBz.out h2⟩
              exact results_row_tmp (p := 2) (q := 3) (ty := 26) rfl _ _ g2 26 R (0, 0) _ rfl HW2.out.row Tryd.underlying26 rfl HSZ.out
            · go_wp2_with (first
                | (show wpList _ _ _ ({ dst := some 44, op := _, type := _, pos := _, after := _, guard := _ } :: _) _ _; refine wpList_load_row_w (by rfl) 26 (.tmp 7) rfl g7 rfl 26 Q (0, 0) _ HR7z.out Tryd.underlying26 rfl HSQ.out ?_; try simp only [Act.put, List.setIfInBounds_toArray, List.set_cons_zero, List.set_cons_succ])
                | fail)
              refine (RI.out _).mono ?_
              rintro e wr ⟨rfl, hbr⟩
              have HBr := hidk (HBz.out.trans (hbr.mono HBz.out.size))
              have HR7r := hidk ((hbr.block _ (heap_lt HR7z.out)).trans HR7z.out)
              have HR2r := hidk ((hbr.block _ (heap_lt HR2z.out)).trans HR2z.out)
              clear hbr HBz HR7z HR2z RI
              cases br
              · obtain ⟨rfl, rfl⟩ := HNO.out (by simp)
                go_wp2_with (first
                  | (show wpList _ _ _ ({ dst := some 48, op := _, type := _, pos := _, after := _, guard := _ } :: _) _ _; refine wpList_build_none rfl 26 rfl R HBZ.out ?_; try simp only [Act.put, List.setIfInBounds_toArray, List.set_cons_zero, List.set_cons_succ])
                  | (refine wpList_set_var rfl 26 (.tmp 2) (.tmp 48) rfl g2 R rfl rfl 26 R HR2r.out HSZ.out rfl H1Z.out ?_; intro wz HW2; try simp only [Act.put, List.setIfInBounds_toArray, List.set_cons_zero, List.set_cons_succ])
                  | fail)
                refine bodyPost_ret (v := .tuple #[.agg R, .int .i64 70]) ?_ rfl ⟨rfl, HW2.out.below w.heap.size w HBr.out h2⟩
                exact results_row_tmp (p := 2) (q := 3) (ty := 26) rfl _ _ g2 26 R (0, 0) _ rfl HW2.out.row Tryd.underlying26 rfl HSZ.out
              · obtain ⟨rfl, rfl⟩ := HOK.out (by simp)
                go_wp2_with (first
                  | (show wpList _ _ _ ({ dst := some 49, op := _, type := _, pos := _, after := _, guard := _ } :: _) _ _; refine wpList_load_row rfl 26 (.tmp 7) rfl g7 rfl 26 R (0, 0) _ HR7r.out Tryd.underlying26 rfl HSQ.out ?_; try simp only [Act.put, List.setIfInBounds_toArray, List.set_cons_zero, List.set_cons_succ])
                  | (refine wpList_set_var rfl 26 (.tmp 2) (.tmp 49) rfl g2 R rfl rfl 26 Z HR2r.out HSR.out HZR.out H1R.out ?_; intro wz HW2; try simp only [Act.put, List.setIfInBounds_toArray, List.set_cons_zero, List.set_cons_succ])
                  | fail)
                refine bodyPost_ret (v := .tuple #[.agg R, .int .i64 0]) ?_ rfl ⟨rfl, HW2.out.below w.heap.size w HBr.out h2⟩
                exact results_row_tmp (p := 2) (q := 3) (ty := 26) rfl _ _ g2 26 R (0, 0) _ rfl HW2.out.row Tryd.underlying26 rfl HSR.out
        · refine step_new_var (by rfl) 26 rfl Z HA.out ?_
          intro g7 wg HM7
          have HR7 := hidk HM7.out.row
          have HG7 : Hid (g6 < g7) := (by show g6 < g7; rw [HM7.out.new]; exact heap_lt hHeld.2.1)
          replace HBc := hidk (HBc.out.trans (HM7.out.below.mono HBc.out.size))
          refine hK.out _ _ ⟨hHeld.1.keep HM7.out.below, (HM7.out.below.block _ (heap_lt hHeld.2.1)).trans hHeld.2.1, (HM7.out.below.block _ (heap_lt hHeld.2.2)).trans hHeld.2.2⟩ (fun hHeld => ?_)
          clear hK K
          try simp only [Act.put, List.setIfInBounds_toArray, List.set_cons_zero, List.set_cons_succ]
          refine wpAnyH_ready (rs := [11]) (by kernel_rfl) (by simp) ?_
          refine (AllReadyH.cons (o := { dst := some 34, op := Op.call { callee := Callee.value (Operand.func 49), args := #[Operand.tmp 33], argTypes := #[9] }, type := 3, pos := "ref.go:92", after := #[{ on := 10, ground := Ground.data }, { on := 7, ground := Ground.chain }], guard := none }) rfl (fun K hK => ?_) AllReadyH.nil)
          go_simp
          refine (V3.out _).mono ?_
          rintro e w11 ⟨rfl, hb11⟩
          replace HBc := hidk (HBc.out.trans (hb11.mono HBc.out.size))
          try replace HR7 := hidk ((hb11.block _ (heap_lt HR7.out)).trans HR7.out)
          go_wp2_with fail
          refine hK.out _ _ ⟨hHeld.1.keep hb11, (hb11.block _ (heap_lt hHeld.2.1)).trans hHeld.2.1, (hb11.block _ (heap_lt hHeld.2.2)).trans hHeld.2.2⟩ (fun hHeld => ?_)
          clear hK K
          try simp only [Act.put, List.setIfInBounds_toArray, List.set_cons_zero, List.set_cons_succ]
          refine wpAnyH_ready (rs := [16]) (by kernel_rfl) (by simp) ?_
          refine (AllReadyH.cons (o := { dst := some 39, op := Op.call { callee := Callee.value (Operand.func 49), args := #[Operand.tmp 38], argTypes := #[9] }, type := 3, pos := "ref.go:92", after := #[{ on := 15, ground := Ground.data }, { on := 11, ground := Ground.chain }], guard := none }) rfl (fun K hK => ?_) AllReadyH.nil)
          go_simp
          refine (V5.out _).mono ?_
          rintro e w16 ⟨rfl, hb16⟩
          replace HBc := hidk (HBc.out.trans (hb16.mono HBc.out.size))
          try replace HR7 := hidk ((hb16.block _ (heap_lt HR7.out)).trans HR7.out)
          go_wp2_with fail
          refine hK.out _ _ ⟨hHeld.1.keep hb16, (hb16.block _ (heap_lt hHeld.2.1)).trans hHeld.2.1, (hb16.block _ (heap_lt hHeld.2.2)).trans hHeld.2.2⟩ (fun hHeld => ?_)
          clear hK K
          try simp only [Act.put, List.setIfInBounds_toArray, List.set_cons_zero, List.set_cons_succ]
          refine wpAnyH_take (i := 17) (oi := { dst := some 40, op := Op.build 26 #[(0, Operand.tmp 26), (1, Operand.tmp 30), (2, Operand.tmp 34), (3, Operand.tmp 35), (4, Operand.tmp 39)], type := 26, pos := "ref.go:92", after := #[{ on := 3, ground := Ground.data }, { on := 7, ground := Ground.data }, { on := 11, ground := Ground.data }, { on := 12, ground := Ground.data }, { on := 16, ground := Ground.data }], guard := none }) (v := .agg Q) rfl (by kernel_rfl) (by kernel_rfl) (by kernel_rfl) (fun _ _ _ h => h) (yieldsIf_build (by rfl) 26 _ rfl #[(0, .int .i64 v1), (1, .int .i64 v2), (2, .int .i64 v3), (3, .agg D), (4, .int .i64 v5)] rfl (.agg Q) BH.out) hHeld ?_
          try simp only [Act.put, List.setIfInBounds_toArray, List.set_cons_zero, List.set_cons_succ]
          refine wpAnyH_ready (rs := [19]) (by kernel_rfl) (by simp) ?_
          refine (AllReadyH.cons (o := { dst := none, op := Op.store 26 (Operand.tmp 7) (Operand.tmp 40), type := 0, pos := "ref.go:92", after := #[{ on := 18, ground := Ground.data }, { on := 17, ground := Ground.data }, { on := 16, ground := Ground.chain }, { on := 0, ground := Ground.phase }, { on := 1, ground := Ground.phase }, { on := 2, ground := Ground.phase }, { on := 3, ground := Ground.phase }, { on := 4, ground := Ground.phase }, { on := 5, ground := Ground.phase }, { on := 6, ground := Ground.phase }, { on := 7, ground := Ground.phase }, { on := 8, ground := Ground.phase }, { on := 9, ground := Ground.phase }, { on := 10, ground := Ground.phase }, { on := 11, ground := Ground.phase }, { on := 12, ground := Ground.phase }, { on := 13, ground := Ground.phase }, { on := 14, ground := Ground.phase }, { on := 15, ground := Ground.phase }, { on := 16, ground := Ground.phase }, { on := 17, ground := Ground.phase }, { on := 18, ground := Ground.phase }], guard := none }) rfl (fun K hK => ?_) AllReadyH.nil)
          refine step_set_var (by rfl) 26 (.tmp 7) (.tmp 40) rfl g7 Q rfl rfl 26 Z HR7.out HSQ.out HZQ.out H1Q.out ?_
          intro wz HW7
          refine hK.out _ _ ⟨texts_wrote hHeld.1 HW7.out (by have := HG7.out; have := HTB.out; omega), (HW7.out.other _ (by have := HG7.out; omega)).trans hHeld.2.1, (HW7.out.other _ (by have := HG7.out; omega)).trans hHeld.2.2⟩ (fun hHeld => ?_)
          clear hK K
          try simp only [Act.put, List.setIfInBounds_toArray, List.set_cons_zero, List.set_cons_succ]
          refine wpAnyH_done (by kernel_rfl) ?_ _
          have h7 : g6 < g7 := HG7.out
          have HR7z := hidk HW7.out.row
          have HR2z := hidk hHeld.2.2
          have HBz := hidk (HW7.out.below w.heap.size w HBc.out (by omega))
          clear HW7 HBc hHeld HR7
          cases bd
          · obtain ⟨rfl, rfl⟩ := HNO.out (by simp)
            go_wp2_with (first
              | (show wpList _ _ _ ({ dst := some 48, op := _, type := _, pos := _, after := _, guard := _ } :: _) _ _; refine wpList_build_none rfl 26 rfl R HBZ.out ?_; try simp only [Act.put, List.setIfInBounds_toArray, List.set_cons_zero, List.set_cons_succ])
              | (refine wpList_set_var rfl 26 (.tmp 2) (.tmp 48) rfl g2 R rfl rfl 26 R HR2z.out HSZ.out rfl H1Z.out ?_; intro wz HW2; try simp only [Act.put, List.setIfInBounds_toArray, List.set_cons_zero, List.set_cons_succ])
              | fail)
            refine bodyPost_ret (v := .tuple #[.agg R, .int .i64 70]) ?_ rfl ⟨rfl, HW2.out.below w.heap.size w HBz.out h2⟩
            exact results_row_tmp (p := 2) (q := 3) (ty := 26) rfl _ _ g2 26 R (0, 0) _ rfl HW2.out.row Tryd.underlying26 rfl HSZ.out
          · go_wp2_with (first
              | (show wpList _ _ _ ({ dst := some 44, op := _, type := _, pos := _, after := _, guard := _ } :: _) _ _; refine wpList_load_row_w (by rfl) 26 (.tmp 7) rfl g7 rfl 26 Q (0, 0) _ HR7z.out Tryd.underlying26 rfl HSQ.out ?_; try simp only [Act.put, List.setIfInBounds_toArray, List.set_cons_zero, List.set_cons_succ])
              | fail)
            refine (RI.out _).mono ?_
            rintro e wr ⟨rfl, hbr⟩
            have HBr := hidk (HBz.out.trans (hbr.mono HBz.out.size))
            have HR7r := hidk ((hbr.block _ (heap_lt HR7z.out)).trans HR7z.out)
            have HR2r := hidk ((hbr.block _ (heap_lt HR2z.out)).trans HR2z.out)
            clear hbr HBz HR7z HR2z RI
            cases br
            · obtain ⟨rfl, rfl⟩ := HNO.out (by simp)
              go_wp2_with (first
                | (show wpList _ _ _ ({ dst := some 48, op := _, type := _, pos := _, after := _, guard := _ } :: _) _ _; refine wpList_build_none rfl 26 rfl R HBZ.out ?_; try simp only [Act.put, List.setIfInBounds_toArray, List.set_cons_zero, List.set_cons_succ])
                | (refine wpList_set_var rfl 26 (.tmp 2) (.tmp 48) rfl g2 R rfl rfl 26 R HR2r.out HSZ.out rfl H1Z.out ?_; intro wz HW2; try simp only [Act.put, List.setIfInBounds_toArray, List.set_cons_zero, List.set_cons_succ])
                | fail)
              refine bodyPost_ret (v := .tuple #[.agg R, .int .i64 70]) ?_ rfl ⟨rfl, HW2.out.below w.heap.size w HBr.out h2⟩
              exact results_row_tmp (p := 2) (q := 3) (ty := 26) rfl _ _ g2 26 R (0, 0) _ rfl HW2.out.row Tryd.underlying26 rfl HSZ.out
            · obtain ⟨rfl, rfl⟩ := HOK.out (by simp)
              go_wp2_with (first
                | (show wpList _ _ _ ({ dst := some 49, op := _, type := _, pos := _, after := _, guard := _ } :: _) _ _; refine wpList_load_row rfl 26 (.tmp 7) rfl g7 rfl 26 R (0, 0) _ HR7r.out Tryd.underlying26 rfl HSQ.out ?_; try simp only [Act.put, List.setIfInBounds_toArray, List.set_cons_zero, List.set_cons_succ])
                | (refine wpList_set_var rfl 26 (.tmp 2) (.tmp 49) rfl g2 R rfl rfl 26 Z HR2r.out HSR.out HZR.out H1R.out ?_; intro wz HW2; try simp only [Act.put, List.setIfInBounds_toArray, List.set_cons_zero, List.set_cons_succ])
                | fail)
              refine bodyPost_ret (v := .tuple #[.agg R, .int .i64 0]) ?_ rfl ⟨rfl, HW2.out.below w.heap.size w HBr.out h2⟩
              exact results_row_tmp (p := 2) (q := 3) (ty := 26) rfl _ _ g2 26 R (0, 0) _ rfl HW2.out.row Tryd.underlying26 rfl HSR.out
      · refine step_new_var (by rfl) 26 rfl Z HA.out ?_
        intro g7 wg HM7
        have HR7 := hidk HM7.out.row
        have HG7 : Hid (g6 < g7) := (by show g6 < g7; rw [HM7.out.new]; exact heap_lt hHeld.2.1)
        replace HBc := hidk (HBc.out.trans (HM7.out.below.mono HBc.out.size))
        refine hK.out _ _ ⟨hHeld.1.keep HM7.out.below, (HM7.out.below.block _ (heap_lt hHeld.2.1)).trans hHeld.2.1, (HM7.out.below.block _ (heap_lt hHeld.2.2)).trans hHeld.2.2⟩ (fun hHeld => ?_)
        clear hK K
        try simp only [Act.put, List.setIfInBounds_toArray, List.set_cons_zero, List.set_cons_succ]
        refine wpAnyH_ready (rs := [7]) (by kernel_rfl) (by simp) ?_
        refine (AllReadyH.cons (o := { dst := some 30, op := Op.call { callee := Callee.value (Operand.func 49), args := #[Operand.tmp 29], argTypes := #[9] }, type := 3, pos := "ref.go:92", after := #[{ on := 6, ground := Ground.data }, { on := 3, ground := Ground.chain }], guard := none }) rfl (fun K hK => ?_) AllReadyH.nil)
        go_simp
        refine (V2.out _).mono ?_
        rintro e w7 ⟨rfl, hb7⟩
        replace HBc := hidk (HBc.out.trans (hb7.mono HBc.out.size))
        try replace HR7 := hidk ((hb7.block _ (heap_lt HR7.out)).trans HR7.out)
        go_wp2_with fail
        refine hK.out _ _ ⟨hHeld.1.keep hb7, (hb7.block _ (heap_lt hHeld.2.1)).trans hHeld.2.1, (hb7.block _ (heap_lt hHeld.2.2)).trans hHeld.2.2⟩ (fun hHeld => ?_)
        clear hK K
        try simp only [Act.put, List.setIfInBounds_toArray, List.set_cons_zero, List.set_cons_succ]
        refine wpAnyH_ready (rs := [11]) (by kernel_rfl) (by simp) ?_
        refine (AllReadyH.cons (o := { dst := some 34, op := Op.call { callee := Callee.value (Operand.func 49), args := #[Operand.tmp 33], argTypes := #[9] }, type := 3, pos := "ref.go:92", after := #[{ on := 10, ground := Ground.data }, { on := 7, ground := Ground.chain }], guard := none }) rfl (fun K hK => ?_) AllReadyH.nil)
        go_simp
        refine (V3.out _).mono ?_
        rintro e w11 ⟨rfl, hb11⟩
        replace HBc := hidk (HBc.out.trans (hb11.mono HBc.out.size))
        try replace HR7 := hidk ((hb11.block _ (heap_lt HR7.out)).trans HR7.out)
        go_wp2_with fail
        refine hK.out _ _ ⟨hHeld.1.keep hb11, (hb11.block _ (heap_lt hHeld.2.1)).trans hHeld.2.1, (hb11.block _ (heap_lt hHeld.2.2)).trans hHeld.2.2⟩ (fun hHeld => ?_)
        clear hK K
        try simp only [Act.put, List.setIfInBounds_toArray, List.set_cons_zero, List.set_cons_succ]
        refine wpAnyH_ready (rs := [16]) (by kernel_rfl) (by simp) ?_
        refine (AllReadyH.cons (o := { dst := some 39, op := Op.call { callee := Callee.value (Operand.func 49), args := #[Operand.tmp 38], argTypes := #[9] }, type := 3, pos := "ref.go:92", after := #[{ on := 15, ground := Ground.data }, { on := 11, ground := Ground.chain }], guard := none }) rfl (fun K hK => ?_) AllReadyH.nil)
        go_simp
        refine (V5.out _).mono ?_
        rintro e w16 ⟨rfl, hb16⟩
        replace HBc := hidk (HBc.out.trans (hb16.mono HBc.out.size))
        try replace HR7 := hidk ((hb16.block _ (heap_lt HR7.out)).trans HR7.out)
        go_wp2_with fail
        refine hK.out _ _ ⟨hHeld.1.keep hb16, (hb16.block _ (heap_lt hHeld.2.1)).trans hHeld.2.1, (hb16.block _ (heap_lt hHeld.2.2)).trans hHeld.2.2⟩ (fun hHeld => ?_)
        clear hK K
        try simp only [Act.put, List.setIfInBounds_toArray, List.set_cons_zero, List.set_cons_succ]
        refine wpAnyH_take (i := 17) (oi := { dst := some 40, op := Op.build 26 #[(0, Operand.tmp 26), (1, Operand.tmp 30), (2, Operand.tmp 34), (3, Operand.tmp 35), (4, Operand.tmp 39)], type := 26, pos := "ref.go:92", after := #[{ on := 3, ground := Ground.data }, { on := 7, ground := Ground.data }, { on := 11, ground := Ground.data }, { on := 12, ground := Ground.data }, { on := 16, ground := Ground.data }], guard := none }) (v := .agg Q) rfl (by kernel_rfl) (by kernel_rfl) (by kernel_rfl) (fun _ _ _ h => h) (yieldsIf_build (by rfl) 26 _ rfl #[(0, .int .i64 v1), (1, .int .i64 v2), (2, .int .i64 v3), (3, .agg D), (4, .int .i64 v5)] rfl (.agg Q) BH.out) hHeld ?_
        try simp only [Act.put, List.setIfInBounds_toArray, List.set_cons_zero, List.set_cons_succ]
        refine wpAnyH_ready (rs := [19]) (by kernel_rfl) (by simp) ?_
        refine (AllReadyH.cons (o := { dst := none, op := Op.store 26 (Operand.tmp 7) (Operand.tmp 40), type := 0, pos := "ref.go:92", after := #[{ on := 18, ground := Ground.data }, { on := 17, ground := Ground.data }, { on := 16, ground := Ground.chain }, { on := 0, ground := Ground.phase }, { on := 1, ground := Ground.phase }, { on := 2, ground := Ground.phase }, { on := 3, ground := Ground.phase }, { on := 4, ground := Ground.phase }, { on := 5, ground := Ground.phase }, { on := 6, ground := Ground.phase }, { on := 7, ground := Ground.phase }, { on := 8, ground := Ground.phase }, { on := 9, ground := Ground.phase }, { on := 10, ground := Ground.phase }, { on := 11, ground := Ground.phase }, { on := 12, ground := Ground.phase }, { on := 13, ground := Ground.phase }, { on := 14, ground := Ground.phase }, { on := 15, ground := Ground.phase }, { on := 16, ground := Ground.phase }, { on := 17, ground := Ground.phase }, { on := 18, ground := Ground.phase }], guard := none }) rfl (fun K hK => ?_) AllReadyH.nil)
        refine step_set_var (by rfl) 26 (.tmp 7) (.tmp 40) rfl g7 Q rfl rfl 26 Z HR7.out HSQ.out HZQ.out H1Q.out ?_
        intro wz HW7
        refine hK.out _ _ ⟨texts_wrote hHeld.1 HW7.out (by have := HG7.out; have := HTB.out; omega), (HW7.out.other _ (by have := HG7.out; omega)).trans hHeld.2.1, (HW7.out.other _ (by have := HG7.out; omega)).trans hHeld.2.2⟩ (fun hHeld => ?_)
        clear hK K
        try simp only [Act.put, List.setIfInBounds_toArray, List.set_cons_zero, List.set_cons_succ]
        refine wpAnyH_done (by kernel_rfl) ?_ _
        have h7 : g6 < g7 := HG7.out
        have HR7z := hidk HW7.out.row
        have HR2z := hidk hHeld.2.2
        have HBz := hidk (HW7.out.below w.heap.size w HBc.out (by omega))
        clear HW7 HBc hHeld HR7
        cases bd
        · obtain ⟨rfl, rfl⟩ := HNO.out (by simp)
          go_wp2_with (first
            | (show wpList _ _ _ ({ dst := some 48, op := _, type := _, pos := _, after := _, guard := _ } :: _) _ _; refine wpList_build_none rfl 26 rfl R HBZ.out ?_; try simp only [Act.put, List.setIfInBounds_toArray, List.set_cons_zero, List.set_cons_succ])
            | (refine wpList_set_var rfl 26 (.tmp 2) (.tmp 48) rfl g2 R rfl rfl 26 R HR2z.out HSZ.out rfl H1Z.out ?_; intro wz HW2; try simp only [Act.put, List.setIfInBounds_toArray, List.set_cons_zero, List.set_cons_succ])
            | fail)
          refine bodyPost_ret (v := .tuple #[.agg R, .int .i64 70]) ?_ rfl ⟨rfl, HW2.out.below w.heap.size w HBz.out h2⟩
          exact results_row_tmp (p := 2) (q := 3) (ty := 26) rfl _ _ g2 26 R (0, 0) _ rfl HW2.out.row Tryd.underlying26 rfl HSZ.out
        · go_wp2_with (first
            | (show wpList _ _ _ ({ dst := some 44, op := _, type := _, pos := _, after := _, guard := _ } :: _) _ _; refine wpList_load_row_w (by rfl) 26 (.tmp 7) rfl g7 rfl 26 Q (0, 0) _ HR7z.out Tryd.underlying26 rfl HSQ.out ?_; try simp only [Act.put, List.setIfInBounds_toArray, List.set_cons_zero, List.set_cons_succ])
            | fail)
          refine (RI.out _).mono ?_
          rintro e wr ⟨rfl, hbr⟩
          have HBr := hidk (HBz.out.trans (hbr.mono HBz.out.size))
          have HR7r := hidk ((hbr.block _ (heap_lt HR7z.out)).trans HR7z.out)
          have HR2r := hidk ((hbr.block _ (heap_lt HR2z.out)).trans HR2z.out)
          clear hbr HBz HR7z HR2z RI
          cases br
          · obtain ⟨rfl, rfl⟩ := HNO.out (by simp)
            go_wp2_with (first
              | (show wpList _ _ _ ({ dst := some 48, op := _, type := _, pos := _, after := _, guard := _ } :: _) _ _; refine wpList_build_none rfl 26 rfl R HBZ.out ?_; try simp only [Act.put, List.setIfInBounds_toArray, List.set_cons_zero, List.set_cons_succ])
              | (refine wpList_set_var rfl 26 (.tmp 2) (.tmp 48) rfl g2 R rfl rfl 26 R HR2r.out HSZ.out rfl H1Z.out ?_; intro wz HW2; try simp only [Act.put, List.setIfInBounds_toArray, List.set_cons_zero, List.set_cons_succ])
              | fail)
            refine bodyPost_ret (v := .tuple #[.agg R, .int .i64 70]) ?_ rfl ⟨rfl, HW2.out.below w.heap.size w HBr.out h2⟩
            exact results_row_tmp (p := 2) (q := 3) (ty := 26) rfl _ _ g2 26 R (0, 0) _ rfl HW2.out.row Tryd.underlying26 rfl HSZ.out
          · obtain ⟨rfl, rfl⟩ := HOK.out (by simp)
            go_wp2_with (first
              | (show wpList _ _ _ ({ dst := some 49, op := _, type := _, pos := _, after := _, guard := _ } :: _) _ _; refine wpList_load_row rfl 26 (.tmp 7) rfl g7 rfl 26 R (0, 0) _ HR7r.out Tryd.underlying26 rfl HSQ.out ?_; try simp only [Act.put, List.setIfInBounds_toArray, List.set_cons_zero, List.set_cons_succ])
              | (refine wpList_set_var rfl 26 (.tmp 2) (.tmp 49) rfl g2 R rfl rfl 26 Z HR2r.out HSR.out HZR.out H1R.out ?_; intro wz HW2; try simp only [Act.put, List.setIfInBounds_toArray, List.set_cons_zero, List.set_cons_succ])
              | fail)
            refine bodyPost_ret (v := .tuple #[.agg R, .int .i64 0]) ?_ rfl ⟨rfl, HW2.out.below w.heap.size w HBr.out h2⟩
            exact results_row_tmp (p := 2) (q := 3) (ty := 26) rfl _ _ g2 26 R (0, 0) _ rfl HW2.out.row Tryd.underlying26 rfl HSR.out
    · refine step_new_var (by rfl) 26 rfl Z HA.out ?_
      intro g7 wg HM7
      have HR7 := hidk HM7.out.row
      have HG7 : Hid (g6 < g7) := (by show g6 < g7; rw [HM7.out.new]; exact heap_lt hHeld.2.1)
      replace HBc := hidk (HBc.out.trans (HM7.out.below.mono HBc.out.size))
      refine hK.out _ _ ⟨hHeld.1.keep HM7.out.below, (HM7.out.below.block _ (heap_lt hHeld.2.1)).trans hHeld.2.1, (HM7.out.below.block _ (heap_lt hHeld.2.2)).trans hHeld.2.2⟩ (fun hHeld => ?_)
      clear hK K
      try simp only [Act.put, List.setIfInBounds_toArray, List.set_cons_zero, List.set_cons_succ]
      refine wpAnyH_ready (rs := [3]) (by kernel_rfl) (by simp) ?_
      refine (AllReadyH.cons (o := { dst := some 26, op := Op.call { callee := Callee.value (Operand.func 49), args := #[Operand.tmp 25], argTypes := #[9] }, type := 3, pos := "ref.go:92", after := #[{ on := 2, ground := Ground.data }], guard := none }) rfl (fun K hK => ?_) AllReadyH.nil)
      go_simp
      refine (V1.out _).mono ?_
      rintro e w3 ⟨rfl, hb3⟩
      replace HBc := hidk (HBc.out.trans (hb3.mono HBc.out.size))
      try replace HR7 := hidk ((hb3.block _ (heap_lt HR7.out)).trans HR7.out)
      go_wp2_with fail
      refine hK.out _ _ ⟨hHeld.1.keep hb3, (hb3.block _ (heap_lt hHeld.2.1)).trans hHeld.2.1, (hb3.block _ (heap_lt hHeld.2.2)).trans hHeld.2.2⟩ (fun hHeld => ?_)
      clear hK K
      try simp only [Act.put, List.setIfInBounds_toArray, List.set_cons_zero, List.set_cons_succ]
      refine wpAnyH_ready (rs := [7]) (by kernel_rfl) (by simp) ?_
      refine (AllReadyH.cons (o := { dst := some 30, op := Op.call { callee := Callee.value (Operand.func 49), args := #[Operand.tmp 29], argTypes := #[9] }, type := 3, pos := "ref.go:92", after := #[{ on := 6, ground := Ground.data }, { on := 3, ground := Ground.chain }], guard := none }) rfl (fun K hK => ?_) AllReadyH.nil)
      go_simp
      refine (V2.out _).mono ?_
      rintro e w7 ⟨rfl, hb7⟩
      replace HBc := hidk (HBc.out.trans (hb7.mono HBc.out.size))
      try replace HR7 := hidk ((hb7.block _ (heap_lt HR7.out)).trans HR7.out)
      go_wp2_with fail
      refine hK.out _ _ ⟨hHeld.1.keep hb7, (hb7.block _ (heap_lt hHeld.2.1)).trans hHeld.2.1, (hb7.block _ (heap_lt hHeld.2.2)).trans hHeld.2.2⟩ (fun hHeld => ?_)
      clear hK K
      try simp only [Act.put, List.setIfInBounds_toArray, List.set_cons_zero, List.set_cons_succ]
      refine wpAnyH_ready (rs := [11]) (by kernel_rfl) (by simp) ?_
      refine (AllReadyH.cons (o := { dst := some 34, op := Op.call { callee := Callee.value (Operand.func 49), args := #[Operand.tmp 33], argTypes := #[9] }, type := 3, pos := "ref.go:92", after := #[{ on := 10, ground := Ground.data }, { on := 7, ground := Ground.chain }], guard := none }) rfl (fun K hK => ?_) AllReadyH.nil)
      go_simp
      refine (V3.out _).mono ?_
      rintro e w11 ⟨rfl, hb11⟩
      replace HBc := hidk (HBc.out.trans (hb11.mono HBc.out.size))
      try replace HR7 := hidk ((hb11.block _ (heap_lt HR7.out)).trans HR7.out)
      go_wp2_with fail
      refine hK.out _ _ ⟨hHeld.1.keep hb11, (hb11.block _ (heap_lt hHeld.2.1)).trans hHeld.2.1, (hb11.block _ (heap_lt hHeld.2.2)).trans hHeld.2.2⟩ (fun hHeld => ?_)
      clear hK K
      try simp only [Act.put, List.setIfInBounds_toArray, List.set_cons_zero, List.set_cons_succ]
      refine wpAnyH_ready (rs := [16]) (by kernel_rfl) (by simp) ?_
      refine (AllReadyH.cons (o := { dst := some 39, op := Op.call { callee := Callee.value (Operand.func 49), args := #[Operand.tmp 38], argTypes := #[9] }, type := 3, pos := "ref.go:92", after := #[{ on := 15, ground := Ground.data }, { on := 11, ground := Ground.chain }], guard := none }) rfl (fun K hK => ?_) AllReadyH.nil)
      go_simp
      refine (V5.out _).mono ?_
      rintro e w16 ⟨rfl, hb16⟩
      replace HBc := hidk (HBc.out.trans (hb16.mono HBc.out.size))
      try replace HR7 := hidk ((hb16.block _ (heap_lt HR7.out)).trans HR7.out)
      go_wp2_with fail
      refine hK.out _ _ ⟨hHeld.1.keep hb16, (hb16.block _ (heap_lt hHeld.2.1)).trans hHeld.2.1, (hb16.block _ (heap_lt hHeld.2.2)).trans hHeld.2.2⟩ (fun hHeld => ?_)
      clear hK K
      try simp only [Act.put, List.setIfInBounds_toArray, List.set_cons_zero, List.set_cons_succ]
      refine wpAnyH_take (i := 17) (oi := { dst := some 40, op := Op.build 26 #[(0, Operand.tmp 26), (1, Operand.tmp 30), (2, Operand.tmp 34), (3, Operand.tmp 35), (4, Operand.tmp 39)], type := 26, pos := "ref.go:92", after := #[{ on := 3, ground := Ground.data }, { on := 7, ground := Ground.data }, { on := 11, ground := Ground.data }, { on := 12, ground := Ground.data }, { on := 16, ground := Ground.data }], guard := none }) (v := .agg Q) rfl (by kernel_rfl) (by kernel_rfl) (by kernel_rfl) (fun _ _ _ h => h) (yieldsIf_build (by rfl) 26 _ rfl #[(0, .int .i64 v1), (1, .int .i64 v2), (2, .int .i64 v3), (3, .agg D), (4, .int .i64 v5)] rfl (.agg Q) BH.out) hHeld ?_
      try simp only [Act.put, List.setIfInBounds_toArray, List.set_cons_zero, List.set_cons_succ]
      refine wpAnyH_ready (rs := [19]) (by kernel_rfl) (by simp) ?_
      refine (AllReadyH.cons (o := { dst := none, op := Op.store 26 (Operand.tmp 7) (Operand.tmp 40), type := 0, pos := "ref.go:92", after := #[{ on := 18, ground := Ground.data }, { on := 17, ground := Ground.data }, { on := 16, ground := Ground.chain }, { on := 0, ground := Ground.phase }, { on := 1, ground := Ground.phase }, { on := 2, ground := Ground.phase }, { on := 3, ground := Ground.phase }, { on := 4, ground := Ground.phase }, { on := 5, ground := Ground.phase }, { on := 6, ground := Ground.phase }, { on := 7, ground := Ground.phase }, { on := 8, ground := Ground.phase }, { on := 9, ground := Ground.phase }, { on := 10, ground := Ground.phase }, { on := 11, ground := Ground.phase }, { on := 12, ground := Ground.phase }, { on := 13, ground := Ground.phase }, { on := 14, ground := Ground.phase }, { on := 15, ground := Ground.phase }, { on := 16, ground := Ground.phase }, { on := 17, ground := Ground.phase }, { on := 18, ground := Ground.phase }], guard := none }) rfl (fun K hK => ?_) AllReadyH.nil)
      refine step_set_var (by rfl) 26 (.tmp 7) (.tmp 40) rfl g7 Q rfl rfl 26 Z HR7.out HSQ.out HZQ.out H1Q.out ?_
      intro wz HW7
      refine hK.out _ _ ⟨texts_wrote hHeld.1 HW7.out (by have := HG7.out; have := HTB.out; omega), (HW7.out.other _ (by have := HG7.out; omega)).trans hHeld.2.1, (HW7.out.other _ (by have := HG7.out; omega)).trans hHeld.2.2⟩ (fun hHeld => ?_)
      clear hK K
      try simp only [Act.put, List.setIfInBounds_toArray, List.set_cons_zero, List.set_cons_succ]
      refine wpAnyH_done (by kernel_rfl) ?_ _
      have h7 : g6 < g7 := HG7.out
      have HR7z := hidk HW7.out.row
      have HR2z := hidk hHeld.2.2
      have HBz := hidk (HW7.out.below w.heap.size w HBc.out (by omega))
      clear HW7 HBc hHeld HR7
      cases bd
      · obtain ⟨rfl, rfl⟩ := HNO.out (by simp)
        go_wp2_with (first
          | (show wpList _ _ _ ({ dst := some 48, op := _, type := _, pos := _, after := _, guard := _ } :: _) _ _; refine wpList_build_none rfl 26 rfl R HBZ.out ?_; try simp only [Act.put, List.setIfInBounds_toArray, List.set_cons_zero, List.set_cons_succ])
          | (refine wpList_set_var rfl 26 (.tmp 2) (.tmp 48) rfl g2 R rfl rfl 26 R HR2z.out HSZ.out rfl H1Z.out ?_; intro wz HW2; try simp only [Act.put, List.setIfInBounds_toArray, List.set_cons_zero, List.set_cons_succ])
          | fail)
        refine bodyPost_ret (v := .tuple #[.agg R, .int .i64 70]) ?_ rfl ⟨rfl, HW2.out.below w.heap.size w HBz.out h2⟩
        exact results_row_tmp (p := 2) (q := 3) (ty := 26) rfl _ _ g2 26 R (0, 0) _ rfl HW2.out.row Tryd.underlying26 rfl HSZ.out
      · go_wp2_with (first
          | (show wpList _ _ _ ({ dst := some 44, op := _, type := _, pos := _, after := _, guard := _ } :: _) _ _; refine wpList_load_row_w (by rfl) 26 (.tmp 7) rfl g7 rfl 26 Q (0, 0) _ HR7z.out Tryd.underlying26 rfl HSQ.out ?_; try simp only [Act.put, List.setIfInBounds_toArray, List.set_cons_zero, List.set_cons_succ])
          | fail)
        refine (RI.out _).mono ?_
        rintro e wr ⟨rfl, hbr⟩
        have HBr := hidk (HBz.out.trans (hbr.mono HBz.out.size))
        have HR7r := hidk ((hbr.block _ (heap_lt HR7z.out)).trans HR7z.out)
        have HR2r := hidk ((hbr.block _ (heap_lt HR2z.out)).trans HR2z.out)
        clear hbr HBz HR7z HR2z RI
        cases br
        · obtain ⟨rfl, rfl⟩ := HNO.out (by simp)
          go_wp2_with (first
            | (show wpList _ _ _ ({ dst := some 48, op := _, type := _, pos := _, after := _, guard := _ } :: _) _ _; refine wpList_build_none rfl 26 rfl R HBZ.out ?_; try simp only [Act.put, List.setIfInBounds_toArray, List.set_cons_zero, List.set_cons_succ])
            | (refine wpList_set_var rfl 26 (.tmp 2) (.tmp 48) rfl g2 R rfl rfl 26 R HR2r.out HSZ.out rfl H1Z.out ?_; intro wz HW2; try simp only [Act.put, List.setIfInBounds_toArray, List.set_cons_zero, List.set_cons_succ])
            | fail)
          refine bodyPost_ret (v := .tuple #[.agg R, .int .i64 70]) ?_ rfl ⟨rfl, HW2.out.below w.heap.size w HBr.out h2⟩
          exact results_row_tmp (p := 2) (q := 3) (ty := 26) rfl _ _ g2 26 R (0, 0) _ rfl HW2.out.row Tryd.underlying26 rfl HSZ.out
        · obtain ⟨rfl, rfl⟩ := HOK.out (by simp)
          go_wp2_with (first
            | (show wpList _ _ _ ({ dst := some 49, op := _, type := _, pos := _, after := _, guard := _ } :: _) _ _; refine wpList_load_row rfl 26 (.tmp 7) rfl g7 rfl 26 R (0, 0) _ HR7r.out Tryd.underlying26 rfl HSQ.out ?_; try simp only [Act.put, List.setIfInBounds_toArray, List.set_cons_zero, List.set_cons_succ])
            | (refine wpList_set_var rfl 26 (.tmp 2) (.tmp 49) rfl g2 R rfl rfl 26 Z HR2r.out HSR.out HZR.out H1R.out ?_; intro wz HW2; try simp only [Act.put, List.setIfInBounds_toArray, List.set_cons_zero, List.set_cons_succ])
            | fail)
          refine bodyPost_ret (v := .tuple #[.agg R, .int .i64 0]) ?_ rfl ⟨rfl, HW2.out.below w.heap.size w HBr.out h2⟩
          exact results_row_tmp (p := 2) (q := 3) (ty := 26) rfl _ _ g2 26 R (0, 0) _ rfl HW2.out.row Tryd.underlying26 rfl HSR.out
end Go.Proofs.YtdnhnjimhbbabaaDoor
