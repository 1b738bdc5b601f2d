/- What pack.Put answers: the bytes that were handed in and a field's bytes behind them, in memory of their own; or a fault. -/
import Derived.Test.YtmfopddmkaecaaaGots
import Derived.Deep.RegionHeld3
namespace Go.Proofs.Ytmfopddmkaecaaa
open Go.RowKit Nums

/-- An append whose run is known, as one step of a region that draws its order. -/
theorem step_append_run {P : Program} {ops : Array Oper} {o : Oper} {a : Act} {w : World} {K : Act → World → Prop} {Q : Exit → Act → World → Prop} {E : Prop}
    (hg : o.guard = none) (s x : Operand) (t u : TypeId) (hop : o.op = Op.call { callee := Callee.builtin Builtin.append, args := #[s, x], argTypes := #[t, u] })
    (vs vx v' : Value) (w' : World) (hs : a.eval s = vs) (hx : a.eval x = vx) (hrun : (Builtin.append_ #[t, u] o.type #[vs, vx]).run P w = .ok v' w')
    (hK : K (a.put o.dst v') w') :
    if Region.wanted o (yielded ops a.tmps) = true then Oper.wp P o a w K Q else E := by
  have hw : Region.wanted o (yielded ops a.tmps) = true := by simp [Region.wanted, hg]
  rw [if_pos hw]
  unfold Oper.wp
  simp [execOp, hop, resolve, invoke, builtin, hs, hx, hrun, Result.andThen]
  exact hK

theorem own_lower {w : World} {B B' e size n : Nat} {v : Value} {xs : List Value} (h : w.ownsRow B e size v n xs) (hB : B' ≤ B) : w.ownsRow B' e size v n xs := by
  refine ⟨h.1, ?_⟩
  rcases h.2 with h2 | ⟨g, cap, cur, e1, hb, r⟩
  · exact .inl h2
  · exact .inr ⟨g, cap, cur, e1, Nat.le_trans hB hb, r⟩

theorem put_fault (v : Value) (tag : Int) (d : ByteArray) (k : Int) (w : World) (hd : d.size ≤ maxLen) (hk : (k != 0) = true) (HF : Hid (faultOf 0 tag d.size = k)) :
    Calls Try.prog 15 #[v, .int .i64 tag, .string d] w fun e w' => e = .returned (.tuple #[.slice none 0 0, .int .i64 k]) ∧ Below w.heap.size w w' := by
  have HC : Hid (∀ w, Calls Try.prog 22 #[.int .i64 0, .agg #[.int .i64 tag, .string d]] w fun e w' => e = .returned (.int .i64 k) ∧ Below w.heap.size w w') := fun w => by
    have := fault_any 0 tag d w hd
    rwa [HF.out] at this
  go_enter Try.func15, Try.ntmps15
  go_wp2_with fail
  refine (HC.out _).mono ?_
  rintro e w1 ⟨rfl, hb1⟩
  go_wp2
  go_ret2
  exact ⟨rfl, ((Below.refl _ _).alloc (Nat.le_refl _) _).trans (hb1.mono (by simp))⟩

/-- Bytes that can be read, appended within the room of a row that is owned. -/
theorem run_append_reads {w : World} {a : Option Addr} {len cap : Nat} {l : List UInt8} (h : Reads w a len cap l) (B g n c ty : Nat) (xs : List UInt8)
    (hown : w.ownsRow B 5 1 (.slice (some ⟨g, 0, none⟩) n c) n (cellsOf xs)) (hroom : n + len ≤ c) :
    ∃ w', (Builtin.append_ #[30, 30] ty #[.slice (some ⟨g, 0, none⟩) n c, .slice a len cap]).run Try.prog w = .ok (.slice (some ⟨g, 0, none⟩) (n + len) c) w' ∧
      w'.ownsRow B 5 1 (.slice (some ⟨g, 0, none⟩) (n + len) c) (n + len) (cellsOf (xs ++ l)) ∧ w.grownBy w' (some g) := by
  obtain ⟨i0, hi, hz0, hz1, hz2⟩ := info_parts info5
  obtain ⟨h1, h2, h3, ⟨rfl, h0⟩ | ⟨ad, rfl, h0⟩ | ⟨b, off, rfl, hlt, hc⟩⟩ := h
  · have hl0 : len = 0 := by omega
    subst h0 hl0
    have hl : l = [] := List.eq_nil_of_length_eq_zero h1
    subst hl
    refine ⟨w, run_append_owned_none (P := Try.prog) w B 30 ty 5 i0 1 Try.underlying30 hi _ n _ hown, ?_, World.grownBy.refl _ _⟩
    simpa using hown
  · subst h0
    have hl : l = [] := List.eq_nil_of_length_eq_zero h1
    subst hl
    obtain ⟨w', hr, ho, hg⟩ := run_append_fits (P := Try.prog) w B 30 ty 5 i0 1 Try.underlying30 hi hz1 g n c _ hown ad 0 cap [] rfl (by simp) (by simp) hroom
    refine ⟨w', hr, ?_, hg⟩
    simpa using ho
  · obtain ⟨w', hr, ho, hg⟩ := run_append_fits (P := Try.prog) w B 30 ty 5 i0 1 Try.underlying30 hi hz1 g n c _ hown ⟨b, off, none⟩ len cap (cellsOf l) (by rw [cellsOf_length, h1]; omega) (fun j u hj => by
      rw [add_plain]
      have hjl : j < l.length := by
        rcases Nat.lt_or_ge j l.length with h | h
        · exact h
        · rw [List.getElem?_eq_none (by rw [cellsOf_length]; exact h)] at hj; cases hj
      rw [hc j hjl]
      simpa [cellsOf, List.getElem?_eq_getElem hjl] using hj) (cellsOf_one l) hroom
    refine ⟨w', hr, ?_, hg⟩
    rw [cellsOf_append]
    exact ho

set_option maxHeartbeats 1000000 in
theorem put_yes (a : Option Addr) (len cap : Nat) (l : List UInt8) (tag : Nat) (d : ByteArray) (w : World) (hr : Reads w a len cap l) (hl : len ≤ 1048576) (hd : d.size ≤ 65536) (htag : 1 ≤ tag ∧ tag ≤ 255) :
    Calls Try.prog 15 #[.slice a len cap, .int .i64 tag, .string d] w fun e w' => ∃ v', e = .returned (.tuple #[v', .int .i64 0]) ∧
      w'.ownsRow w.heap.size 5 1 v' (l ++ fieldBytes tag d.data.toList).length (cellsOf (l ++ fieldBytes tag d.data.toList)) ∧ Below w.heap.size w w' := by
  obtain ⟨i0, hi, hz0, hz1, hz2⟩ := info_parts info5
  have HC : Hid (∀ w, Calls Try.prog 22 #[.int .i64 0, .agg #[.int .i64 tag, .string d]] w fun e w' => e = .returned (.int .i64 0) ∧ Below w.heap.size w w') := fun w => by
    have := fault_any 0 tag d w (by unfold maxLen; omega)
    have e : faultOf 0 tag d.size = 0 := by rw [faultOf, if_neg (by omega), if_neg (by omega)]
    rwa [e] at this
  have HR : Hid (Reads w a len cap l) := hr
  clear hr
  go_enter Try.func15, Try.ntmps15
  go_wp2_with fail
  refine (HC.out _).mono ?_
  rintro e w1 ⟨rfl, hb1⟩
  have hsz : w.heap.size < w1.heap.size := by have := hb1.size; simp at this; omega
  have hbw : Below w.heap.size w w1 := ((Below.refl _ _).alloc (Nat.le_refl _) _).trans (hb1.mono (by simp))
  have hx0 : w1.cell? ⟨w.heap.size, 0, none⟩ = some (.int .i64 tag) := by rw [hb1.cell (p := ⟨w.heap.size, 0, none⟩) (by simp)]; simp
  have hx1 : w1.cell? ⟨w.heap.size, 1, none⟩ = some (.string d) := by rw [hb1.cell (p := ⟨w.heap.size, 1, none⟩) (by simp)]; simp
  clear hb1
  go_wp2_with (first
    | (at_make; refine wpList_make_own _ rfl (.const (.int .i64 0)) (.tmp 24) 30 rfl w1.heap.size 5 i0 (.int .u8 0) 1 Try.underlying30 hi hz0 hz1 .i64 .i64 _ (len + 4 + d.size) rfl rfl ?c1 ?c2 ?c3 ?c4 ?_)
    | fail)
  case c1 => omega
  case c2 => rw [hz2]; omega
  case c3 => unfold maxLen; omega
  case c4 => exact Nat.le_refl _
  intro w2 hown2 hgrow2
  have hb2 : Below w1.heap.size w1 w2 := (Below.refl _ _).grown hgrow2 (Nat.le_refl _) (by intro k hk; cases hk)
  have hy0 : w2.cell? ⟨w.heap.size, 0, none⟩ = some (.int .i64 tag) := by rw [hb2.cell (p := ⟨w.heap.size, 0, none⟩) hsz]; exact hx0
  have hy1 : w2.cell? ⟨w.heap.size, 1, none⟩ = some (.string d) := by rw [hb2.cell (p := ⟨w.heap.size, 1, none⟩) hsz]; exact hx1
  obtain ⟨w3, hrun, hown3, hgrow3⟩ := run_append_reads (((HR.out.below hbw).below hb2).below (Below.refl _ _).drew) w1.heap.size w1.heap.size 0 (len + 4 + d.size) 30 [] hown2.drew (by omega)
  simp only [Nat.zero_add, List.nil_append] at hrun hown3
  have hb3 : Below w1.heap.size w2.drew w3 := (Below.refl _ _).grown hgrow3 hb2.size (by intro k hk; cases hk; exact Nat.le_refl _)
  have hz0' : w3.cell? ⟨w.heap.size, 0, none⟩ = some (.int .i64 tag) := by rw [hb3.cell (p := ⟨w.heap.size, 0, none⟩) hsz]; exact hy0
  have hz1' : w3.cell? ⟨w.heap.size, 1, none⟩ = some (.string d) := by rw [hb3.cell (p := ⟨w.heap.size, 1, none⟩) hsz]; exact hy1
  have HRUN : Hid _ := hrun
  have HOWN : Hid _ := hown3
  have hll : l.length = len := HR.out.1
  have HL : Hid (l.length = len) := hll
  have h13 : w1.heap.size ≤ w3.heap.size := Nat.le_trans hb2.size hb3.size
  have HW : Hid (Below w.heap.size w w3) := hbw.trans ((hb2.mono (Nat.le_of_lt hsz)).trans ((Below.refl _ _).drew.trans (hb3.mono (Nat.le_of_lt hsz))))
  clear hrun hown3 hown2 hgrow2 hgrow3 hx0 hx1 hi hz0 hz1 hz2 hll hb3 hb2 hbw
  go_wp2
  go_region_held3 (fun w' => w'.cell? ⟨w.heap.size, 0, none⟩ = some (.int .i64 tag) ∧ w'.cell? ⟨w.heap.size, 1, none⟩ = some (.string d)) (first | go_keep | exact ⟨by assumption, by assumption⟩)
    (first
      | (refine step_append_run (by rfl) (.tmp 26) (.tmp 27) 30 30 (by rfl) _ _ _ _ (by rfl) (by rfl) HRUN.out ?_)
      | (go_at_call 23; refine (appendField_any _ l w1.heap.size tag d _ hd h13 ?_ ?_ htag.2).mono ?_; (have := HL.out; omega); (rw [HL.out]; exact HOWN.out); (rintro e w4 ⟨v', rfl, hown4, hb4⟩; have q0 := (hb4.cell (p := ⟨w.heap.size, 0, none⟩) hsz).trans hz0'; have q1 := (hb4.cell (p := ⟨w.heap.size, 1, none⟩) hsz).trans hz1')))
  go_wp2
  go_ret2
  exact ⟨_, rfl, own_lower hown4 (Nat.le_of_lt hsz), HW.out.trans (hb4.mono (Nat.le_of_lt hsz))⟩

theorem reads_none (w : World) : Reads w none 0 0 [] := ⟨rfl, Nat.le_refl _, by decide, .inl ⟨rfl, rfl⟩⟩

/-- What is owned can be read. -/
theorem reads_own {w : World} {B : Nat} {v : Value} {l : List UInt8} (h : w.ownsRow B 5 1 v l.length (cellsOf l)) : ∃ a cap, v = .slice a l.length cap ∧ Reads w a l.length cap l := by
  rcases h.2 with ⟨rfl, h0⟩ | ⟨g, cap, cur, rfl, hb, hg, hn, hm, hs, ht⟩
  · refine ⟨none, 0, by rw [h0], rfl, by omega, by decide, .inl ⟨rfl, rfl⟩⟩
  · have hlt := (h.lt g rfl).2
    refine ⟨_, _, rfl, rfl, hn, by unfold maxLen at hm; omega, .inr (.inr ⟨g, 0, rfl, hlt, fun i hi => ?_⟩)⟩
    have := cells_at h rfl i hi
    rwa [add_plain] at this
end Go.Proofs.Ytmfopddmkaecaaa
