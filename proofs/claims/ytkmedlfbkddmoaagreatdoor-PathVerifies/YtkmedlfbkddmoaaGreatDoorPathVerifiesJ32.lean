/- Texts of our own that the row of PathVerifies leans on, part 32. -/
import Derived.Test.YtkmedlfbkddmoaaGreatDoorPathVerifiesJ11
import Derived.Test.YtkmedlfbkddmoaaGreatDoorPathVerifiesJ31
import Derived.ChangeArms
import Derived.DataReads
/- A slice of digests that came in can be read. -/
namespace Go.Proofs.YtkmedlfbkddmoaaGreatDoor
open Go.RowKit Go.ChangeShapes Go.WideShapes
set_option maxRecDepth 100000
theorem trod_dig {H : Type} {enc : TypeId × Value → H} {W : World} {base fuel : Nat} {sp : Nat → Bool} {held : Bool} {cs : List Value} {x : DataW H × List MemPlace} (hf : DataW.trod enc Tryz.prog W base sp held fuel 24 cs = some x) :
    ∃ l : List UInt8, l.length = 32 ∧ cs = cellsOf l := by
  obtain ⟨xs, m, rfl, _, hl, hx, hall⟩ := DataW.trod_array Tryz.underlying24 hf
  have h1 : Tryz.prog.cellsOf 5 = 1 := by kernel_rfl
  have h32 : Tryz.prog.cellsOf 24 = 32 := by kernel_rfl
  rw [h32] at hl
  rw [h1] at hall
  simp only [Nat.mul_one] at hall
  have each : ∀ i, (hi : i < cs.length) → ∃ b : UInt8, cs[i] = .int .u8 b.toNat := by
    intro i hi
    have := hall i (by omega)
    rw [List.getElem?_eq_getElem (by omega)] at this
    obtain ⟨z, hz, _, hwf⟩ := DataW.trod_int Tryz.underlying5 this
    have e : (cs.drop i).take 1 = [cs[i]] := by
      rw [List.drop_eq_getElem_cons hi]; rfl
    rw [e] at hz
    simp only [List.cons.injEq, and_true] at hz
    have hb := bounds_u8 hwf
    refine ⟨UInt8.ofNat z.toNat, ?_⟩
    rw [UInt8.toNat_ofNat', show ((z.toNat % 2 ^ 8 : Nat) : Int) = z by omega]
    exact hz
  refine ⟨cs.map fun v => match v with | .int _ n => UInt8.ofNat n.toNat | _ => 0, by simp; exact hl, ?_⟩
  unfold cellsOf
  rw [List.map_map]
  apply List.ext_getElem
  · simp
  · intro i h1 h2
    obtain ⟨b, hb⟩ := each i h1
    rw [List.getElem_map]
    rw [hb]
    simp
theorem open_digs {H : Type} {enc : TypeId × Value → H} {W : World} {a : Option Addr} {len cap : Nat} {d : DataW H} {p : List MemPlace} (h : DataW.Trod enc Tryz.prog W 0 (fun _ => true) true 38 (.slice a len cap) d p) :
    ∃ l : List (List UInt8), LReads W a len cap l := by
  obtain ⟨fuel, hf⟩ := h
  have h32 : Tryz.prog.cellsOf 24 = 32 := by kernel_rfl
  rcases DataW.trod_slice Tryz.underlying38 hf with ⟨hcs, _⟩ | ⟨a', len', cap', elems, rest, n, _, hcs, _, hb, hl, hm, hlen, hel, _, _⟩
  · simp [Value.cells] at hcs
    obtain ⟨rfl, rfl, rfl⟩ := hcs
    exact ⟨[], rfl, (fun d hd => by cases hd), Nat.le_refl _, Nat.zero_le _, .inl rfl⟩
  · simp [Value.cells] at hcs
    obtain ⟨rfl, rfl, rfl⟩ := hcs
    rw [h32] at hel
    have each : ∀ i, i < len → ∃ l : List UInt8, l.length = 32 ∧ ∀ j, j < 32 → W.cell? ((a'.add (i * 32)).add j) = (cellsOf l)[j]? := by
      intro i hi
      have h1 := hel i hi
      rw [List.getElem?_eq_getElem (by omega), Option.bind_eq_some_iff] at h1
      obtain ⟨cs', hc', ht⟩ := h1
      obtain ⟨l, hl32, rfl⟩ := trod_dig ht
      obtain ⟨_, _, hcell⟩ := World.cells?_some hc'
      exact ⟨l, hl32, fun j hj => hcell j hj⟩
    have all : ∀ n, n ≤ len → ∃ l : List (List UInt8), l.length = n ∧ Digs32 l ∧ ∀ i (hi : i < l.length), ∀ j, j < 32 → W.cell? ((a'.add (i * 32)).add j) = (cellsOf l[i])[j]? := by
      intro n
      induction n with
      | zero => intro _; exact ⟨[], rfl, (fun d hd => by cases hd), fun i hi => by simp at hi⟩
      | succ n ih =>
        intro hn
        obtain ⟨l, h1, h2, h3⟩ := ih (by omega)
        obtain ⟨d, h4, h5⟩ := each n (by omega)
        refine ⟨l ++ [d], by simp [h1], h2.append (.one h4), fun i hi j hj => ?_⟩
        by_cases h : i < l.length
        · rw [List.getElem_append_left h]
          exact h3 i h j hj
        · have hin : i = n := by simp at hi; omega
          subst hin
          rw [List.getElem_append_right (by omega)]
          simp only [h1, Nat.sub_self, List.getElem_cons_zero]
          exact h5 j hj
    obtain ⟨L, hL1, hd, hL3⟩ := all len (Nat.le_refl _)
    refine ⟨L, hL1, hd, hl, by omega, ?_⟩
    by_cases h0 : len = 0
    · exact .inl h0
    · obtain ⟨b, off, spot⟩ := a'
      have hspot : spot = none := by
        have h5 := hd _ (List.getElem_mem (show 0 < L.length by omega))
        have := hL3 0 (by omega) 0 (by omega)
        rw [cellsOf_at _ 0 (by omega)] at this
        simpa [Addr.add] using World.cell?_spot this
      subst hspot
      refine .inr ⟨b, off, rfl, fun i hi => ?_⟩
      have hfl := flat_length hd
      have hq : i / 32 < L.length := by omega
      have hr : i % 32 < 32 := by omega
      have h5 := hd _ (List.getElem_mem hq)
      have hc := hL3 (i / 32) hq (i % 32) hr
      rw [add_plain, add_plain, show off + i / 32 * 32 + i % 32 = off + i by omega] at hc
      rw [hc, cellsOf_at _ _ (by omega)]
      have e := flat_at hd (i / 32) hq
      have e2 : ((L.flatten.drop (32 * (i / 32))).take 32)[i % 32]? = L[i / 32][i % 32]? := by rw [e]
      rw [List.getElem?_take_of_lt hr, List.getElem?_drop, show 32 * (i / 32) + i % 32 = i by omega, List.getElem?_eq_getElem hi, List.getElem?_eq_getElem (by omega)] at e2
      rw [Option.some.inj e2]
end Go.Proofs.YtkmedlfbkddmoaaGreatDoor
