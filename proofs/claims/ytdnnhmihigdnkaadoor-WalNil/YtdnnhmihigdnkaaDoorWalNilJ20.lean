/- Texts of our own that the row of WalNil leans on, part 20. -/
import Derived.Test.YtdnnhmihigdnkaaDoorWalNilJ17
import Derived.Test.YtdnnhmihigdnkaaDoorWalNilJ19

/- The walk of WalNil. -/
namespace Go.Proofs.YtdnnhmihigdnkaaDoor
open Go.RowKit Nums
set_option linter.unusedVariables false
set_option linter.unusedSimpArgs false
set_option maxRecDepth 100000
variable {At : World → Nat → DkT → (Nat → Prop) → Prop} {Vt : Type} {WM : World → Nat → Nat → Nat → Nat → Vt → (Nat → Prop) → Prop} {WP : Nat → Nat → Vt → DkT → LgT → Prop} {PA : Nat → Nat → DkT → LgT → Bool → Prop}
/-- A list of one call, made of texts. -/
theorem one_ow {W : World} {a : Option Addr} {len cap : Nat} {l : List ByteArray} (h : InT W ⟨a, len, cap, l⟩) : WReads (W.alloc (.cells #[.int .i64 0, .int .i64 0, .int .i64 0, .slice a len cap] 36)) (some ⟨W.heap.size, 0, none⟩) 1 1 [⟨0, 0, 0, ⟨a, len, cap, l⟩⟩] := by
  have hb : Below W.heap.size W (W.alloc (.cells #[.int .i64 0, .int .i64 0, .int .i64 0, .slice a len cap] 36)) := (Below.refl _ _).alloc (Nat.le_refl _) _
  have hn := heap_alloc_new W (.cells #[.int .i64 0, .int .i64 0, .int .i64 0, .slice a len cap] 36)
  refine ⟨rfl, Nat.le_refl _, by omega, fun o ho => ?_, .inr ⟨W.heap.size, 0, rfl, heap_lt hn, fun i hi => ?_⟩⟩
  · obtain rfl : o = ⟨0, 0, 0, ⟨a, len, cap, l⟩⟩ := by simpa using ho
    exact ⟨by show In64 0; unfold In64; omega, by show In64 0; unfold In64; omega, by show In64 0; unfold In64; omega, h.below hb⟩
  · obtain rfl : i = 0 := by simp at hi; omega
    exact ⟨by rw [cell_of_row _ _ _ _ _ (0, 0) hn]; rfl, by rw [cell_of_row _ _ _ _ _ (0, 0) hn]; rfl, by rw [cell_of_row _ _ _ _ _ (0, 0) hn]; rfl, by rw [cell_of_row _ _ _ _ _ (0, 0) hn]; rfl⟩
set_option maxHeartbeats 4000000 in
theorem walNil_in (dk : DiskC At) (wl : WalC At WM WP PA) (wn : WalN) (a : Option Addr) (len cap : Nat) (l : List ByteArray) (W : World) (h : InT W ⟨a, len, cap, l⟩) (TB : TabW W) :
    Calls Tryd.prog 7 #[.slice a len cap] W fun e w' => e = .returned (.bool true) ∧ Below W.heap.size W w' := by
  have HB : Hid (Below W.heap.size W (W.alloc (.cells #[.int .i64 0, .int .i64 0, .int .i64 0, .slice a len cap] 36))) := (Below.refl _ _).alloc (Nat.le_refl _) _
  have LG := hidd (large10_any (some ⟨W.heap.size, 0, none⟩) 1 1 [⟨0, 0, 0, ⟨a, len, cap, l⟩⟩] _ _ (one_ow h) (Below.refl _ _))
  clear h
  go_enter Tryd.func7, Tryd.ntmps7
  go_wp2_with fail
  refine LG.out.mono ?_
  intro e w1 hx
  unfold LargeE at hx
  obtain ⟨x, rfl, rfl, -⟩ := hx
  clear LG
  cases x
  case true =>
    go_wp2
    go_ret
    exact ⟨rfl, HB.out⟩
  have ON := hidd (wn.open_ (W.alloc (.cells #[.int .i64 0, .int .i64 0, .int .i64 0, .slice a len cap] 36)) 0 1000)
  go_wp2_with fail
  refine ON.out.mono ?_
  rintro e w2 ⟨⟨ax, cx, rfl⟩, hb⟩
  replace HB := hidd (HB.out.trans (hb.mono HB.out.size))
  clear hb ON
  have AW := hidd (awake_any dk wl w2 (TB.on HB.out))
  go_wp2_with fail
  refine AW.out.mono ?_
  rintro e w3 ⟨rfl, hb⟩
  replace HB := hidd (HB.out.trans (hb.mono HB.out.size))
  clear hb AW
  have CM := hidd (wn.commit w3 a len cap)
  go_wp2_with fail
  refine CM.out.mono ?_
  rintro e w4 ⟨rfl, hb⟩
  replace HB := hidd (HB.out.trans (hb.mono HB.out.size))
  clear hb CM
  have RS := hidd (wn.reset w4 a len cap)
  go_wp2_with fail
  refine RS.out.mono ?_
  rintro e w5 ⟨rfl, hb⟩
  replace HB := hidd (HB.out.trans (hb.mono HB.out.size))
  clear hb RS
  have SY := hidd (wn.sync w5)
  go_wp2_with fail
  refine SY.out.mono ?_
  rintro e w6 ⟨rfl, hb⟩
  replace HB := hidd (HB.out.trans (hb.mono HB.out.size))
  clear hb SY
  have LN := hidd (wn.len_ w6)
  go_wp2_with fail
  refine LN.out.mono ?_
  rintro e w7 ⟨rfl, hb⟩
  replace HB := hidd (HB.out.trans (hb.mono HB.out.size))
  clear hb LN
  go_wp2
  go_ret
  exact ⟨rfl, HB.out⟩
end Go.Proofs.YtdnnhmihigdnkaaDoor
