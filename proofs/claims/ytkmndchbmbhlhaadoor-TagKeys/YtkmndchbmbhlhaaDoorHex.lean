/- What sha.Hex answers: two digits a byte. -/
import Derived.Test.YtkmndchbmbhlhaaDoorProg
import Derived.Test.YtkmndchbmbhlhaaDoorDigs
import Derived.Test.YtkmndchbmbhlhaaDoorArr
import Derived.WalkSpells
import Derived.WalkLawsBesides
import Derived.Deep.RegionHeld3
namespace Go.Proofs.YtkmndchbmbhlhaaDoor
open Go.RowKit Digs

theorem info5 : (Tryd.prog.info? 5).map (fun i => (i.zero, i.size, i.bytes)) = some (some (.int .u8 0), 1, 1) := by kernel_rfl
theorem size5 : (Tryd.prog.info? 5).map (·.size) = some 1 := by kernel_rfl
theorem size23 : (Tryd.prog.info? 24).map (·.size) = some 32 := by kernel_rfl

theorem run_dig (w : World) (k : IntKind) (n : Nat) (h : n < 16) :
    (Instr.index 9 (.string ⟨#[48, 49, 50, 51, 52, 53, 54, 55, 56, 57, 97, 98, 99, 100, 101, 102]⟩) (.int k n)).run Tryd.prog w = .ok (.int .u8 (hexC n).toNat) w := by
  rw [run_index_string w 9 _ k n Tryd.underlying9]
  have hs : (ByteArray.mk #[48, 49, 50, 51, 52, 53, 54, 55, 56, 57, 97, 98, 99, 100, 101, 102]).size = 16 := rfl
  rw [dif_pos (by rw [hs]; omega)]
  congr 3
  have hn : n = 0 ∨ n = 1 ∨ n = 2 ∨ n = 3 ∨ n = 4 ∨ n = 5 ∨ n = 6 ∨ n = 7 ∨ n = 8 ∨ n = 9 ∨ n = 10 ∨ n = 11 ∨ n = 12 ∨ n = 13 ∨ n = 14 ∨ n = 15 := by omega
  rcases hn with rfl | rfl | rfl | rfl | rfl | rfl | rfl | rfl | rfl | rfl | rfl | rfl | rfl | rfl | rfl | rfl <;> rfl

theorem hexL_step (d : List UInt8) (k : Nat) (h : k < d.length) : hexL (d.take (k + 1)) = hexL (d.take k) ++ [hexC (d[k].toNat / 16), hexC (d[k].toNat % 16)] := by
  rw [List.take_add_one, List.getElem?_eq_getElem h, hexL_append]
  rfl

/-- An append whose run is known, as one step of a region that draws its order. -/
theorem step_append_run {P : Program} {ops : Array Oper} {o : Oper} {a : Act} {w : World} {K : Act → World → Prop} {Q : Exit → Act → World → Prop} {E : Prop}
    (hg : o.guard = none) (s x : Operand) (t u : TypeId) (hop : o.op = Op.call { callee := Callee.builtin Builtin.append, args := #[s, x], argTypes := #[t, u] })
    (vs vx v' : Value) (w' : World) (hs : a.eval s = vs) (hx : a.eval x = vx) (hrun : (Builtin.append_ #[t, u] o.type #[vs, vx]).run P w = .ok v' w')
    (hK : K (a.put o.dst v') w') :
    if Region.wanted o (yielded ops a.tmps) = true then Oper.wp P o a w K Q else E := by
  have hw : Region.wanted o (yielded ops a.tmps) = true := by simp [Region.wanted, hg]
  rw [if_pos hw]
  unfold Oper.wp
  simp [execOp, hop, resolve, invoke, builtin, hs, hx, hrun, Result.andThen]
  exact hK

set_option maxHeartbeats 1000000 in
theorem hex_any (d : List UInt8) (hd : d.length = 32) (w : World) :
    Calls Tryd.prog 18 #[digV d] w fun e w' => e = .returned (.string ⟨(hexL d).toArray⟩) ∧ Below w.heap.size w w' := by
  obtain ⟨i0, hi, hz0, hz1, hz2⟩ := info_parts info5
  obtain ⟨cs, hcs⟩ : ∃ cs, cs = (cellsOf d).toArray := ⟨_, rfl⟩
  have HS : Hid ((Tryd.prog.info? 24).map (·.size) = some cs.size) := by
    show _ = _
    rw [size23, hcs]; simp [cellsOf_length, hd]
  unfold digV
  rw [← hcs]
  have HCS : Hid (cs = (cellsOf d).toArray) := hcs
  clear hcs
  go_enter Tryd.func18, Tryd.ntmps18
  go_wp2_with (first
    | (at_make; refine wpList_make_own _ rfl (.const (.int .i64 0)) (.const (.int .i64 64)) 38 rfl w.heap.size 5 i0 (.int .u8 0) 1 Tryd.underlying38 hi hz0 hz1 .i64 .i64 _ 64 rfl rfl ?c1 ?c2 ?c3 ?c4 ?_)
    | fail)
  case c1 => rfl
  case c2 => rw [hz2]; omega
  case c3 => unfold maxLen; omega
  case c4 => simp
  intro w2 hown hgrow
  have hB : Below w.heap.size w w2 := ((Below.refl _ _).alloc (Nat.le_refl _) _).grown hgrow (by simp) (by intro k hk; cases hk)
  have HG : Hid (w2.heap[w.heap.size]? = some (.cells cs 24 (0, 0))) := by
    show _ = _
    rw [hgrow.block w.heap.size (by simp) (by simp)]
    exact heap_alloc_new w _
  have HI : Hid _ := hi
  have HZ : Hid (i0.zero = some (.int .u8 0) ∧ i0.size = 1 ∧ i0.bytes = 1) := ⟨hz0, hz1, hz2⟩
  clear hgrow hi hz0 hz1 hz2
  go_wp2_with (first
    | (refine wpList_load_row rfl 24 (.tmp 1) rfl w.heap.size rfl 24 _ (0, 0) _ HG.out Tryd.underlying24 rfl HS.out ?_)
    | fail)
  clear HG HS
  go_loopw [3, 8] (fun b i wr => ∃ k : Nat, k ≤ 32 ∧ i = .int .i64 k ∧ b = .slice (some ⟨w.heap.size + 1, 0, none⟩) (2 * k) 64 ∧
      wr.ownsRow w.heap.size 5 1 (.slice (some ⟨w.heap.size + 1, 0, none⟩) (2 * k) 64) (2 * k) (cellsOf (hexL (d.take k))) ∧ Below w.heap.size w wr)
    (fun _ i _ => 32 - (intOf i).toNat)
  case atStart => exact ⟨0, by omega, rfl, rfl, by simpa [hexL, cellsOf] using hown, hB⟩
  case round =>
    clear hown hB
    obtain ⟨k, hk, rfl, rfl, hown, hB⟩ := hrel
    by_cases hlt : k < 32
    · obtain ⟨c, HC⟩ : ∃ c : Nat, Hid (c = d[k].toNat) := ⟨_, (rfl : d[k].toNat = _)⟩
      have hc1 : c ≤ 255 := by have := d[k].toNat_lt; have := HC.out; omega
      have hidx : ∀ w, (Instr.index 24 (.agg cs) (.int .i64 k)).run Tryd.prog w = .ok (.int .u8 c) w := fun w =>
        run_index_agg w 24 5 32 cs .i64 k _ .u8 Tryd.underlying24 Tryd.underlying5 hlt (by rw [HCS.out]; simp [cellsOf_at d k (by omega), HC.out]) size5
      have hd1 := fun w => run_dig w .u8 (c / 16) (by omega)
      have hd2 := fun w => run_dig w .u8 (c % 16) (by omega)
      obtain ⟨x, HX⟩ : ∃ x : Nat, Hid (x = (hexC (c / 16)).toNat) := ⟨_, (rfl : (hexC (c / 16)).toNat = _)⟩
      obtain ⟨y, HY⟩ : ∃ y : Nat, Hid (y = (hexC (c % 16)).toNat) := ⟨_, (rfl : (hexC (c % 16)).toNat = _)⟩
      rw [← HX.out, show ((c / 16 : Nat) : Int) = (c : Int) / 16 by omega] at hd1
      rw [← HY.out, show ((c % 16 : Nat) : Int) = (c : Int) % 16 by omega] at hd2
      obtain ⟨w3, hrun, hown3, hgrow3⟩ := run_append_fits (P := Tryd.prog) (wr.alloc (.cells #[.int .u8 x, .int .u8 y] 5)).drew w.heap.size 38 38 5 i0 1 Tryd.underlying38 HI.out HZ.out.2.1 (w.heap.size + 1) (2 * k) 64 _ (hown.alloc _).drew
        ⟨wr.heap.size, 0, none⟩ 2 2 (cellsOf [hexC (c / 16), hexC (c % 16)]) rfl (fun j u hj => by
          rw [add_plain]
          rw [Nat.zero_add]; refine (cell_of_row _ _ _ _ 5 (0, 0) (heap_alloc_new wr _)).trans ?_; rw [HX.out, HY.out]
          simpa [cellsOf] using hj) (cellsOf_one _) (by omega)
      have HB3 : Hid (Below w.heap.size w w3) := ((hB.alloc (by have := hB.size; exact this) _).drew).grown hgrow3 (by have := hB.size; simp; omega) (by intro k hk; cases hk; omega)
      have HRUN : Hid _ := hrun
      have HOWN : Hid (w3.ownsRow w.heap.size 5 1 (.slice (some ⟨w.heap.size + 1, 0, none⟩) (2 * (k + 1)) 64) (2 * (k + 1)) (cellsOf (hexL (d.take (k + 1))))) := by
        show World.ownsRow _ _ _ _ _ _ _
        rw [hexL_step d k (by omega), cellsOf_append, ← HC.out, show 2 * (k + 1) = 2 * k + 2 by omega]
        exact hown3
      clear hrun hown3 hgrow3 hown hB
      have hand := u8_and15 (x := (c : Int)) (by omega) (by omega)
      go_wp2
      go_region_held3 (fun _ => True) (trivial)
        (first
          | (refine step_append_run (by rfl) (.tmp 11) (.tmp 18) 38 38 (by rfl) _ _ _ _ (by rfl) (by rfl) HRUN.out ?_)
          | (trace_state; fail))
      all_goals
        go_wp2
        go_roundw
        case rel => exact ⟨k + 1, by omega, by go_num, by simp [Nat.mul_add], HOWN.out, HB3.out⟩
        case measure => simp [intOf]; omega
    · obtain rfl : k = 32 := by omega
      have hc := run_convert_bytes_back (P := Tryd.prog) wr 38 9 5 ⟨w.heap.size + 1, 0, none⟩ 64 (hexL d) Tryd.underlying38 Tryd.underlying5 Tryd.underlying9
        (cells_at (by rw [← List.take_of_length_le (show d.length ≤ 32 by omega)]; exact hown) (by rw [hexL_length]; omega))
      rw [hexL_length, hd] at hc
      clear hown
      go_wp2
      go_ret
      exact ⟨rfl, hB⟩
end Go.Proofs.YtkmndchbmbhlhaaDoor
