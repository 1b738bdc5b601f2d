/- The statements' own example: a digest of noughts and one byte comes back; a text of one sign is refused. -/
import Derived.Test.YthkmhfpihkjhnaaParse
namespace Go.Proofs.Ythkmhfpihkjhnaa
open Go.RowKit Digs
set_option linter.unusedVariables false

theorem sizeOf5 (w : World) : (sizeOf 5).run Try.prog w = .ok 1 w := by
  cases hq : Try.prog.info? 5 with
  | none => have := size5; simp [hq] at this
  | some i => have := size5; simp [hq] at this; simp [sizeOf, typeInfo, hq, this]

theorem eqDig (xs ys : List UInt8) (hx : xs.length = 32) (hy : ys.length = 32) (w : World) : (binOp .eql 23 (.agg (cellsOf xs).toArray) (.agg (cellsOf ys).toArray)).run Try.prog w = .ok (.bool (xs == ys)) w :=
  run_eql_bytes w 23 5 32 Try.underlying23 Try.underlying5 sizeOf5 xs ys hx hy

def ex31 : List UInt8 := zeros.set 31 175
theorem built31 : Try.prog.built 23 [(31, .int .u8 175)] = some (cellsOf ex31).toArray := by kernel_rfl

/-- A digest's array: what a walk asks of it. -/
theorem dig_row (l : List UInt8) (hl : l.length = 32) : ∃ D : Array Value, Hid (D = (cellsOf l).toArray) ∧ Hid ((Try.prog.info? 23).map (·.size) = some D.size) ∧ Hid (D.all (·.oneCell') = true) ∧ Hid (32 = D.size) := by
  refine ⟨(cellsOf l).toArray, (rfl : _ = _), ?_, cellsOf_all l, ?_⟩
  · show _ = _
    rw [size23]; simp [cellsOf_length, hl]
  · show _ = _
    simp [cellsOf_length, hl]

set_option maxHeartbeats 1000000 in
theorem hexes_true (w : World) : Calls Try.prog 7 #[] w fun e w' => e = .returned (.bool true) ∧ Below w.heap.size w w' := by
  obtain ⟨Z, HZ, HA, HB, HS, H1⟩ := noughts
  obtain ⟨D, HD, HSD, H1D, H32⟩ := dig_row ex31 rfl
  have HZD : Hid (Z.size = D.size) := by
    have h1 := HS.out
    rw [HSD.out] at h1
    exact (Option.some.inj h1).symm
  have HB31 : Hid (Try.prog.built 23 [(31, .int .u8 175)] = some D) := by
    show _ = _
    rw [HD.out]; exact built31
  obtain ⟨t, HT⟩ : ∃ t : ByteArray, Hid (t = ⟨(hexL ex31).toArray⟩) := ⟨_, (rfl : (⟨(hexL ex31).toArray⟩ : ByteArray) = _)⟩
  have K8 : Hid (∀ w, Calls Try.prog 8 #[.agg D] w fun e w' => e = .returned (.string t) ∧ Below w.heap.size w w') := by
    intro w; rw [HD.out, HT.out]; exact hex_any ex31 rfl w
  have K5 : Hid (∀ w, Calls Try.prog 5 #[.string t] w fun e w' => e = .returned (.tuple #[.agg D, .int .i64 0]) ∧ Below w.heap.size w w') := by
    intro w
    have h := parse_any t w (by rw [HT.out]; decide +kernel)
    have e := parse_hexL ex31 rfl
    rw [HT.out] at h ⊢
    rw [e.1, e.2] at h
    rw [HD.out]
    exact h
  have KA : Hid (∀ w, Calls Try.prog 5 #[.string ⟨#[65]⟩] w fun e w' => e = .returned (.tuple #[.agg Z, .int .i64 1]) ∧ Below w.heap.size w w') := by
    intro w
    rw [HZ.out]
    exact parse_any ⟨#[65]⟩ w (by decide +kernel)
  have heq : ∀ w, (binOp .eql 23 (.agg D) (.agg D)).run Try.prog w = .ok (.bool true) w := by
    intro w
    rw [HD.out, eqDig ex31 ex31 rfl rfl]
    simp
  go_enter Try.func7, Try.ntmps7
  go_wp2_with (first
    | (refine wpList_build_one rfl 23 31 (.const (.int .u8 175)) rfl D (.int .u8 175) rfl HB31.out ?_)
    | fail)
  refine (K8.out _).mono ?_
  rintro e w1 ⟨rfl, hb1⟩
  go_wp2_with fail
  refine (K5.out _).mono ?_
  rintro e w2 ⟨rfl, hb2⟩
  go_wp2_with (first
    | (refine wpList_alloc_row rfl 23 rfl Z HA.out ?_)
    | (refine wpList_store_row rfl 23 (.tmp 1) (.tmp 9) rfl w2.heap.size D rfl rfl 23 Z (heap_alloc_new w2 _) HSD.out HZD.out H1D.out ?_)
    | fail)
  refine (KA.out _).mono ?_
  rintro e w3 ⟨rfl, hb3⟩
  have hs1 := hb1.size
  have hs2 := hb2.size
  have hs3 := hb3.size
  rw [size_var] at hs3
  have HG : Hid (w3.heap[w2.heap.size]? = some (.cells D 23 (0, 0))) := by
    show _ = _
    rw [hb3.block _ (by rw [size_var]; omega)]
    exact new_var w2 Z D 23
  have HW : Hid (Below w.heap.size w ((w3.alloc (.cells Z 23)).setRow w3.heap.size Z)) :=
    below_var ((below_var (hb1.trans (hb2.mono (by omega))) (by omega) _ _).trans (hb3.mono (by rw [size_var]; omega))) (by omega) _ _
  clear hb1 hb2 hb3 hs1 hs2 hs3
  go_wp2_with (first
    | (refine wpList_alloc_row rfl 23 rfl Z HA.out ?_)
    | (refine wpList_store_row rfl 23 (.tmp 3) (.tmp 13) rfl w3.heap.size Z rfl rfl 23 Z (heap_alloc_new w3 _) HS.out rfl H1.out ?_)
    | (refine wpList_load_row rfl 23 (.tmp 1) rfl w2.heap.size rfl 23 D (0, 0) _ (keep_var HG.out _ _) Try.underlying23 rfl HSD.out ?_)
    | (refine wpList_build_one rfl 23 31 (.const (.int .u8 175)) rfl D (.int .u8 175) rfl HB31.out ?_)
    | fail)
  go_ret
  exact ⟨rfl, HW.out⟩
end Go.Proofs.Ythkmhfpihkjhnaa
