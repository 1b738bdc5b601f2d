/- What check.held answers: what is asked, or that it gave up. -/
import Derived.Test.YtehfoeedlchphaaDoorCheckC
import Derived.Test.YtehfoeedlchphaaDoorLaws5
import Derived.OneCell
import Derived.Defers
import Derived.Recover
namespace Go.Proofs.YtehfoeedlchphaaDoor
open Go.RowKit Sums
set_option linter.unusedVariables false
set_option linter.unusedSimpArgs false

/-- The deferred function, of a call that gives up. -/
theorem catch_panicking (p : Addr) (x : Int) (u : TypeId) (pv : Value) (older : List PanicEntry) (w : World) (hc : w.cell? p = some (.int .i64 x)) (hz : w.frozen? p = false) :
    CallsD Tryd.prog 41 #[.pointer (some p)] (.panicking ({ v := .iface u pv, recovered := false } :: older)) w fun e u' w' =>
      e = .returned (.tuple #[]) ∧ u' = .panicking ({ v := .iface u pv, recovered := true } :: older) ∧ w' = w.setCell p (.int .i64 40) := by
  refine callsD_of_wpS Tryd.func41 rfl fun c₀ cs hu => ?_
  apply wpS_seq
  apply wpS_region
  simp [wpOpsS, go_sem, recoverD, hu, Tryd.ntmps41, Exit.thenS]
  refine wpS_cond (t := true) (by simp [Act.eval, Array.replicate]) ?_
  simp only [if_true]
  apply wpS_region
  simp [wpOpsS, go_sem, hc, hz, bodyPostS, results, Tryd.results41]
/-- The deferred function, of a call that comes back. -/
theorem catch_idle (p : Addr) (w : World) :
    CallsD Tryd.prog 41 #[.pointer (some p)] .returning w fun e u' w' => e = .returned (.tuple #[]) ∧ u' = .returning ∧ w' = w := by
  refine callsD_of_wpS Tryd.func41 rfl fun c₀ cs hu => ?_
  apply wpS_seq
  apply wpS_region
  simp [wpOpsS, go_sem, recoverD, hu, Tryd.ntmps41, Exit.thenS]
  refine wpS_cond (t := false) (by simp [Act.eval, Array.replicate]) ?_
  simp only [Bool.false_eq_true, if_false]
  refine wpS_of_wp (wp_skip ?_)
  cases c₀
  simp_all [bodyPostS, results, Tryd.results41]

theorem cell_new_one (w w' : World) (x : Value) (t : TypeId) (hb : Below (w.alloc (.cells #[x] t)).heap.size (w.alloc (.cells #[x] t)) w') : w'.heap[w.heap.size]? = some (.cells #[x] t (0, 0)) :=
  (hb.block _ (by simp)).trans (heap_alloc_new w _)
set_option maxHeartbeats 1000000 in
theorem held_no (n : Nat) (caps : Array Value) (w : World) (hn : ∀ W, (callFunc n caps).run Tryd.prog W = .ok (.enter n caps) W) (hc : Hid (∀ W, Below w.heap.size w W → Calls Tryd.prog n caps W fun e w' => (∃ u p, e = .panicked [{ v := .iface u p, recovered := false }]) ∧ Below W.heap.size W w')) :
    Calls Tryd.prog 22 #[.func (.func n) #[] caps] w fun e w' => e = .returned (.int .i64 40) ∧ Below w.heap.size w w' := by
  have hmf : ∀ (fn : Fn) (first cap : Array Value) (w : World), (Instr.makeFunc fn first cap).run Tryd.prog w = .ok (.func fn first cap) w := fun _ _ _ _ => rfl
  have HB : Hid (Below w.heap.size w (w.alloc (.cells #[.int .i64 0] 26))) := (Below.refl _ _).alloc (Nat.le_refl _) _
  go_enter_defers Tryd.func22, Tryd.ntmps22
  go_wp2_with fail
  refine (hc.out _ HB.out).mono ?_
  rintro e w2 ⟨⟨u, p, rfl⟩, hb2⟩
  have h2 := cell_new_one w w2 _ _ hb2
  refine leaves_cons (f := 41) (args := #[.pointer (some ⟨w.heap.size, 0, none⟩)]) (by simp) (by simp [go_sem]) ?_
  refine (catch_panicking ⟨w.heap.size, 0, none⟩ 0 u _ [] _ (cell_of_one h2) (free_of_one h2)).mono ?_
  rintro e u' w3 ⟨rfl, rfl, rfl⟩
  have h3 := one_setCell (u := .int .i64 40) h2
  have hc3 := cell_of_one h3
  have hB3 : Below w.heap.size w (w2.setCell ⟨w.heap.size, 0, none⟩ (.int .i64 40)) := (HB.out.trans (hb2.mono HB.out.size)).setCell (Nat.le_refl _) _
  simp [Leaves, settle, results, Tryd.results22, go_sem, hc3, hB3]
set_option maxHeartbeats 1000000 in
theorem held_ok (n : Nat) (caps : Array Value) (w : World) (b : Bool) (hn : ∀ W, (callFunc n caps).run Tryd.prog W = .ok (.enter n caps) W) (hc : Hid (∀ W, Below w.heap.size w W → Calls Tryd.prog n caps W fun e w' => e = .returned (.bool b) ∧ Below W.heap.size W w')) :
    Calls Tryd.prog 22 #[.func (.func n) #[] caps] w fun e w' => e = .returned (.int .i64 (if b then 0 else 41)) ∧ Below w.heap.size w w' := by
  have hmf : ∀ (fn : Fn) (first cap : Array Value) (w : World), (Instr.makeFunc fn first cap).run Tryd.prog w = .ok (.func fn first cap) w := fun _ _ _ _ => rfl
  have HB : Hid (Below w.heap.size w (w.alloc (.cells #[.int .i64 0] 26))) := (Below.refl _ _).alloc (Nat.le_refl _) _
  have hnot : ∀ (x : Bool) (w : World), (Op.unary .not (.bool x)).run Tryd.prog w = .ok (.bool (!x)) w := fun _ _ => rfl
  cases b
  · go_enter_defers Tryd.func22, Tryd.ntmps22
    go_wp2_with fail
    refine (hc.out _ HB.out).mono ?_
    rintro e w2 ⟨rfl, hb2⟩
    have h2 := cell_new_one w w2 _ _ hb2
    have hc2 := cell_of_one h2
    have hf2 := free_of_one h2
    have HB2 := hidk (HB.out.trans (hb2.mono HB.out.size))
    clear hb2
    go_wp2
    refine leaves_cons (f := 41) (args := #[.pointer (some ⟨w.heap.size, 0, none⟩)]) (by simp) (by simp [go_sem]) ?_
    refine (catch_idle ⟨w.heap.size, 0, none⟩ _).mono ?_
    rintro e u' w3 ⟨rfl, rfl, rfl⟩
    have h3 := one_setCell (u := .int .i64 41) h2
    have hc3 := cell_of_one h3
    have hB3 : Below w.heap.size w (w2.setCell ⟨w.heap.size, 0, none⟩ (.int .i64 41)) := HB2.out.setCell (Nat.le_refl _) _
    simp [Leaves, settle, results, Tryd.results22, go_sem, hc3, hB3]
  · go_enter_defers Tryd.func22, Tryd.ntmps22
    go_wp2_with fail
    refine (hc.out _ HB.out).mono ?_
    rintro e w2 ⟨rfl, hb2⟩
    have h2 := cell_new_one w w2 _ _ hb2
    have hc2 := cell_of_one h2
    have hf2 := free_of_one h2
    have HB2 := hidk (HB.out.trans (hb2.mono HB.out.size))
    clear hb2
    go_wp2
    refine leaves_cons (f := 41) (args := #[.pointer (some ⟨w.heap.size, 0, none⟩)]) (by simp) (by simp [go_sem]) ?_
    refine (catch_idle ⟨w.heap.size, 0, none⟩ _).mono ?_
    rintro e u' w3 ⟨rfl, rfl, rfl⟩
    have h3 := one_setCell (u := .int .i64 0) h2
    have hc3 := cell_of_one h3
    have hB3 : Below w.heap.size w (w2.setCell ⟨w.heap.size, 0, none⟩ (.int .i64 0)) := HB2.out.setCell (Nat.le_refl _) _
    simp [Leaves, settle, results, Tryd.results22, go_sem, hc3, hB3]
end Go.Proofs.YtehfoeedlchphaaDoor
