/- Texts of our own that the row of TopSigned leans on, part 4. -/
import Derived.Test.YtdnhnjimhbbababDoorTopSignedJ3
import Derived.Test.YtdnhnjimhbbababDoorRows
import Derived.OpenShut
import Derived.ProofKit
import Derived.LaidMore
import Derived.Lay
import Derived.Lib.BufferWrite

/- What TopSigned says of any input, over what the calls of the layers answer. -/
namespace Go.Proofs.YtdnhnjimhbbababDoor
open Go.RowKit Sums P7
set_option linter.unusedVariables false
set_option linter.unusedSimpArgs false
set_option maxRecDepth 100000
theorem zeroF9 : (Tryd.prog.info? 28).map (fun i => (i.zero, i.size)) = some (some (.agg #[.int .i64 0, .slice none 0 0]), 2) := by kernel_rfl
theorem sizeF9 : (Tryd.prog.info? 28).map (·.size) = some 2 := by kernel_rfl
theorem builtF9 : Tryd.prog.built 28 [] = some #[.int .i64 0, .slice none 0 0] := by kernel_rfl
theorem oneF9 (n : Int) (y : Option Addr) (m c : Nat) : (#[Value.int .i64 n, .slice y m c].all (·.oneCell')) = true := by simp [Value.oneCell']
theorem idxS9 (W : World) (b off len cap k : Nat) (h : k < len) : (Instr.indexAt 22 (.slice (some ⟨b, off, none⟩) len cap) (.int .i64 (k : Int))).run Tryd.prog W = .ok (.pointer (some ⟨b, off + k, none⟩)) W := by
  have hs : ∀ w, (sizeOf 9).run Tryd.prog w = .ok 1 w := by
    intro w
    have hq : (Tryd.prog.info? 9).map (·.size) = some 1 := by kernel_rfl
    cases h : Tryd.prog.info? 9 with
    | none => simp [h] at hq
    | some i => simp [h] at hq; simp [sizeOf, typeInfo, h, hq]
  simp [Instr.indexAt, asIntOf, run_underlying Tryd.underlying22, hs, h]
  rw [add_plain]
theorem wpList_build_five {P : Program} {ops : Array Oper} {rest : List Oper} {o : Oper} {a : Act} {w : World} {Q : Exit → Act → World → Prop} (hg : o.guard = none) (t : TypeId) (x y z u v : Operand) (ho : o.op = .build t #[(0, x), (1, y), (2, z), (3, u), (4, v)])
    (cs : Array Value) (vx vy vz vu vv : Value) (hx : a.eval x = vx) (hy : a.eval y = vy) (hz : a.eval z = vz) (hu : a.eval u = vu) (hv : a.eval v = vv) (hb : P.built t [(0, vx), (1, vy), (2, vz), (3, vu), (4, vv)] = some cs) (h : wpList P ops Q rest (a.put o.dst (.agg cs)) w) : wpList P ops Q (o :: rest) a w :=
  wpList_build_row hg t #[(0, x), (1, y), (2, z), (3, u), (4, v)] ho cs (by simpa [hx, hy, hz, hu, hv] using hb) h
set_option maxHeartbeats 8000000 in
theorem topSigned_bad (hc : HeadC) (ck : CheckC) (a0 : Option Addr) (len0 cap0 : Nat) (a2 a3 : Int) (w : World) (M : Array Value) (hl : len0 ≤ 9223372036854775807) (hT : TabC w)
    (hbad : 24 < len0 ∨ (¬ 24 < len0 ∧ a2 < 1) ∨ (¬ 24 < len0 ∧ ¬ a2 < 1 ∧ 900000000 < a2) ∨ (¬ 24 < len0 ∧ ¬ a2 < 1 ∧ ¬ 900000000 < a2 ∧ a3 < 1) ∨ (¬ 24 < len0 ∧ ¬ a2 < 1 ∧ ¬ 900000000 < a2 ∧ ¬ a3 < 1 ∧ 3 < a3)) :
    Calls Tryd.prog 3 #[.slice a0 len0 cap0, .agg M, .int .i64 a2, .int .i64 a3] w fun e w' => e = .returned (.bool true) ∧ Below w.heap.size w w' := by
  have PV : Hid (∀ W, Below w.heap.size w W → Calls Tryd.prog 4 #[] W fun e w' => e = .returned (.bool true) ∧ Below W.heap.size W w') := fun W hb => proves_true hc ck W (hT.keep hb)
  have HB : Hid (Below w.heap.size w (w.alloc (.cells M 24))) := (Below.refl _ _).alloc (Nat.le_refl _) _
  clear hT
  rcases hbad with hb | hb | hb | hb | hb
  · have h0 := hb
    have d0 : decide (24 < (len0 : Int)) = true := by rw [decide_eq_true_eq]; omega
    have d0' : decide (24 < len0) = true := by rw [decide_eq_true_eq]; omega
    go_enter Tryd.func3, Tryd.ntmps3
    go_wp2_with fail
    refine (PV.out _ HB.out).mono ?_
    rintro e w1 ⟨rfl, hb1⟩
    have HB1 := hidk (HB.out.trans (hb1.mono HB.out.size))
    clear hb1 PV HB
    go_wp2_with fail
    go_ret
    exact ⟨rfl, HB1.out⟩
  · obtain ⟨h0, h1⟩ := hb
    have d0 : decide (24 < (len0 : Int)) = false := by rw [decide_eq_false_iff_not]; omega
    have d0' : decide (24 < len0) = false := by rw [decide_eq_false_iff_not]; omega
    have d1 : decide (a2 < 1) = true := by rw [decide_eq_true_eq]; omega
    go_enter Tryd.func3, Tryd.ntmps3
    go_wp2_with fail
    refine (PV.out _ HB.out).mono ?_
    rintro e w1 ⟨rfl, hb1⟩
    have HB1 := hidk (HB.out.trans (hb1.mono HB.out.size))
    clear hb1 PV HB
    go_wp2_with fail
    go_ret
    exact ⟨rfl, HB1.out⟩
  · obtain ⟨h0, h1, h2⟩ := hb
    have d0 : decide (24 < (len0 : Int)) = false := by rw [decide_eq_false_iff_not]; omega
    have d0' : decide (24 < len0) = false := by rw [decide_eq_false_iff_not]; omega
    have d1 : decide (a2 < 1) = false := by rw [decide_eq_false_iff_not]; omega
    have d2 : decide (900000000 < a2) = true := by rw [decide_eq_true_eq]; omega
    go_enter Tryd.func3, Tryd.ntmps3
    go_wp2_with fail
    refine (PV.out _ HB.out).mono ?_
    rintro e w1 ⟨rfl, hb1⟩
    have HB1 := hidk (HB.out.trans (hb1.mono HB.out.size))
    clear hb1 PV HB
    go_wp2_with fail
    go_ret
    exact ⟨rfl, HB1.out⟩
  · obtain ⟨h0, h1, h2, h3⟩ := hb
    have d0 : decide (24 < (len0 : Int)) = false := by rw [decide_eq_false_iff_not]; omega
    have d0' : decide (24 < len0) = false := by rw [decide_eq_false_iff_not]; omega
    have d1 : decide (a2 < 1) = false := by rw [decide_eq_false_iff_not]; omega
    have d2 : decide (900000000 < a2) = false := by rw [decide_eq_false_iff_not]; omega
    have d3 : decide (a3 < 1) = true := by rw [decide_eq_true_eq]; omega
    go_enter Tryd.func3, Tryd.ntmps3
    go_wp2_with fail
    refine (PV.out _ HB.out).mono ?_
    rintro e w1 ⟨rfl, hb1⟩
    have HB1 := hidk (HB.out.trans (hb1.mono HB.out.size))
    clear hb1 PV HB
    go_wp2_with fail
    go_ret
    exact ⟨rfl, HB1.out⟩
  · obtain ⟨h0, h1, h2, h3, h4⟩ := hb
    have d0 : decide (24 < (len0 : Int)) = false := by rw [decide_eq_false_iff_not]; omega
    have d0' : decide (24 < len0) = false := by rw [decide_eq_false_iff_not]; omega
    have d1 : decide (a2 < 1) = false := by rw [decide_eq_false_iff_not]; omega
    have d2 : decide (900000000 < a2) = false := by rw [decide_eq_false_iff_not]; omega
    have d3 : decide (a3 < 1) = false := by rw [decide_eq_false_iff_not]; omega
    have d4 : decide (3 < a3) = true := by rw [decide_eq_true_eq]; omega
    go_enter Tryd.func3, Tryd.ntmps3
    go_wp2_with fail
    refine (PV.out _ HB.out).mono ?_
    rintro e w1 ⟨rfl, hb1⟩
    have HB1 := hidk (HB.out.trans (hb1.mono HB.out.size))
    clear hb1 PV HB
    go_wp2_with fail
    go_ret
    exact ⟨rfl, HB1.out⟩
def hd9 (e : Int) (z : List (List UInt8)) (j : Nat) : HdT := ⟨1, e, (j : Int) + 1, root (z.take (j + 1)), j⟩
theorem hd9_in (e : Int) (z : List (List UInt8)) (j : Nat) (he : 1 ≤ e ∧ e ≤ 900000000) (hz : Digs32 z) (hj : j ≤ 24) : InH (hd9 e z j) ∧ rightH (hd9 e z j) = true := by
  refine ⟨⟨root_length sumD_length _ (hz.take _), ?_, ?_, ?_, ?_⟩, (rightH_iff _).2 ?_⟩
  · show In64 1; unfold In64; decide
  · show In64 e; unfold In64; omega
  · show In64 ((j : Int) + 1); unfold In64; omega
  · show In64 (j : Int); unfold In64; omega
  · show 1 ≤ (1 : Int) ∧ (1 : Int) ≤ 5 ∧ 1 ≤ e ∧ e ≤ 900000000 ∧ 0 ≤ (j : Int) + 1 ∧ (j : Int) + 1 ≤ 100000 ∧ 0 ≤ (j : Int) ∧ (j : Int) ≤ 900000000
    omega
def hds9 (e : Int) (z : List (List UInt8)) (k : Nat) : List HdT := (List.range k).map (hd9 e z)
theorem hds9_succ (e : Int) (z : List (List UInt8)) (k : Nat) : hds9 e z (k + 1) = hds9 e z k ++ [hd9 e z k] := by unfold hds9; rw [List.range_succ, List.map_append]; rfl
theorem hds9_length (e : Int) (z : List (List UInt8)) (k : Nat) : (hds9 e z k).length = k := by unfold hds9; simp
theorem hds9_at (e : Int) (z : List (List UInt8)) (k i : Nat) (h : i < k) : (hds9 e z k)[i]? = some (hd9 e z i) := by unfold hds9; rw [List.getElem?_map, List.getElem?_range h]; rfl
theorem hds9_d (e : Int) (z : List (List UInt8)) (k : Nat) (hz : Digs32 z) : ∀ h ∈ hds9 e z k, h.d.length = 32 := fun h hh => by
  unfold hds9 at hh
  obtain ⟨j, _, rfl⟩ := List.mem_map.1 hh
  exact root_length sumD_length _ (hz.take _)
set_option maxHeartbeats 64000000 in
theorem topSigned_good (hc : HeadC) (fr : FrontC) (ck : CheckC) (a0 : Option Addr) (len0 cap0 : Nat) (ss : List ByteArray) (z1 : List UInt8) (a2 a3 : Int) (w : World) (M : Array Value) (HM : Hid (M = (cellsOf z1).toArray)) (w0 : Texts w a0 len0 ss) (w1 : z1.length = 32) (hK : TabF w)
    (hl : len0 ≤ 24) (h2 : 1 ≤ a2 ∧ a2 ≤ 900000000) (h3 : 1 ≤ a3 ∧ a3 ≤ 3) :
    Calls Tryd.prog 3 #[.slice a0 len0 cap0, .agg M, .int .i64 a2, .int .i64 a3] w fun e w' => e = .returned (.bool true) ∧ Below w.heap.size w w' := by
  have d0 : decide (24 < (len0 : Int)) = false := by rw [decide_eq_false_iff_not]; omega
  have d0' : decide (24 < len0) = false := by rw [decide_eq_false_iff_not]; omega
  have d1 : decide (a2 < 1) = false := by rw [decide_eq_false_iff_not]; omega
  have d2 : decide (900000000 < a2) = false := by rw [decide_eq_false_iff_not]; omega
  have d3 : decide (a3 < 1) = false := by rw [decide_eq_false_iff_not]; omega
  have d4 : decide (3 < a3) = false := by rw [decide_eq_false_iff_not]; omega
  have HWT := hidk w0
  have PV : Hid (∀ W, Below w.heap.size w W → Calls Tryd.prog 4 #[] W fun e w' => e = .returned (.bool true) ∧ Below W.heap.size W w') := fun W hb => proves_true hc ck W (hK.keep hb).1
  have HSM : Hid ((Tryd.prog.info? 24).map (·.size) = some M.size) := by show _ = _; rw [sizeY, HM.out]; simp [cellsOf_length, w1]
  obtain ⟨z0, hz0⟩ : ∃ z : List (List UInt8), z = ss.map (fun s => sumD (0 :: s.data.toList)) := ⟨_, rfl⟩
  have hzl : z0.length = len0 := by rw [hz0, List.length_map]; exact w0.1
  have hD : Digs32 z0 := by
    intro x hx
    rw [hz0] at hx
    obtain ⟨s, _, rfl⟩ := List.mem_map.1 hx
    exact sumD_length _
  have HDL := hidk hD
  obtain ⟨pk, HPK⟩ : ∃ pk : Nat → List (List UInt8), Hid (∀ k, pk k = peaks (z0.take k)) := ⟨_, (fun k => rfl : ∀ k, peaks (z0.take k) = _)⟩
  obtain ⟨pm, HPM⟩ : ∃ pm : Nat → Nat, Hid (∀ k, pm k = (pk k).length) := ⟨_, (fun k => rfl : ∀ k, (pk k).length = _)⟩
  have hmany : ∀ k, k ≤ len0 → pm k = many k := fun k hk => by
    rw [HPM.out, HPK.out]
    exact peaks_length k _ (by rw [List.length_take, hzl]; omega)
  -- what the calls answer at the leaf k
  have LF : Hid (∀ (W : World) (k : Nat) (s : ByteArray) (D : Array Value), ss[k]? = some s → s.size ≤ 1000 → (∀ d, z0[k]? = some d → Hid (D = (cellsOf d).toArray)) → Below w.heap.size w W → Calls Tryd.prog 5 #[.string s] W fun e w' => e = .returned (.agg D) ∧ Below W.heap.size W w') := fun W k s D hs hsz hd hb =>
    leaf_any s W (by omega) (hK.keep hb).1 D (hd _ (by rw [hz0, List.getElem?_map, hs]; rfl))
  have AC : Hid (∀ (W : World) (k : Nat) (y : Option Addr) (cy : Nat) (d : List UInt8) (D : Array Value), z0[k]? = some d → Hid (D = (cellsOf d).toArray) → Below w.heap.size w W → LReads W y (pm k) cy (pk k) → Calls Tryd.prog 6 #[.agg #[.int .i64 k, .slice y (pm k) cy], .agg D] W fun e w' => ∃ y2 cy2, e = .returned (.tuple #[.agg #[.int .i64 ((k : Int) + 1), .slice y2 (pm (k + 1)) cy2], .int .i64 0]) ∧ LReads w' y2 (pm (k + 1)) cy2 (pk (k + 1)) ∧ RoomO W.heap.size y2 (pm (k + 1)) w' ∧ Below W.heap.size W w') := fun W k y cy d D hd HD hb hy => by
    obtain ⟨hk, hdk⟩ := List.getElem?_eq_some_iff.1 hd
    have hk' : k < len0 := by rw [← hzl]; exact hk
    have ha : addP k (pk k) d = pk (k + 1) := by
      have := addP_peaks (z0.take k) d
      rw [List.length_take, Nat.min_eq_left (by omega)] at this
      rw [HPK.out, HPK.out, this, List.take_add_one, hd]
      rfl
    have h32 : d.length = 32 := by rw [← hdk]; exact hD _ (List.getElem_mem _)
    have hA := fr.add_ok k y (pm k) cy (pk k) d W ⟨by omega, by omega, by rw [Int.toNat_natCast]; exact hmany k (by omega)⟩ (by omega) hy h32 (hK.keep hb) D HD
    rw [ha, ← HPM.out] at hA
    exact hA
  have RT : Hid (∀ (W : World) (k : Nat) (y : Option Addr) (cy : Nat) (D : Array Value), k < len0 → Hid (D = (cellsOf (root (z0.take (k + 1)))).toArray) → Below w.heap.size w W → LReads W y (pm (k + 1)) cy (pk (k + 1)) → Calls Tryd.prog 7 #[.agg #[.int .i64 ((k : Int) + 1), .slice y (pm (k + 1)) cy]] W fun e w' => e = .returned (.tuple #[.agg D, .int .i64 0]) ∧ Below W.heap.size W w') := fun W k y cy D hk HD hb hy =>
    fr.frontRoot_ok ((k : Int) + 1) y (pm (k + 1)) cy (pk (k + 1)) W ⟨by omega, by omega, by rw [show ((k : Int) + 1).toNat = k + 1 by omega]; exact hmany (k + 1) (by omega)⟩ hy (hK.keep hb) D (by
      show _ = _
      rw [HD.out, HPK.out, rootP_peaks _ _ rfl])
  have SG : Hid (∀ (W : World) (k : Nat) (C R : Array Value), k < len0 → Hid (C = (hcells (hd9 a2 z0 k)).toArray) → Hid (R = (scells ⟨hd9 a2 z0 k, a3, tagD z1 (hd9 a2 z0 k) a3⟩).toArray) → Below w.heap.size w W → Calls Tryd.prog 8 #[.agg M, .agg C, .int .i64 a3] W fun e w' => e = .returned (.tuple #[.agg R, .int .i64 0]) ∧ Below W.heap.size W w') := fun W k C R hk HC HR hb => by
    obtain ⟨hi, hr⟩ := hd9_in a2 z0 k h2 hD (by omega)
    have hso : signsO (hd9 a2 z0 k) a3 = true := by
      unfold signsO
      simp only [Bool.and_eq_true, decide_eq_true_eq]
      exact ⟨hr, h3.1, h3.2⟩
    have := hc.sign z1 (hd9 a2 z0 k) a3 W M C R HM HC w1 hi (by unfold In64; omega) (hK.keep hb).1 (by show _ = _; rw [HR.out]; unfold signO; rw [if_pos hso])
    rwa [show signE (hd9 a2 z0 k) a3 = 0 by unfold signE; rw [if_pos hso]] at this
  have hmay : ∀ k, k < len0 → mayS ⟨hd9 a2 z0 k, a3, tagD z1 (hd9 a2 z0 k) a3⟩ = true := fun k hk => (mayS_iff _).2 ⟨(hd9_in a2 z0 k h2 hD (by omega)).2, h3.1, h3.2⟩
  have hinS : ∀ k, k < len0 → InS ⟨hd9 a2 z0 k, a3, tagD z1 (hd9 a2 z0 k) a3⟩ := fun k hk => ⟨(hd9_in a2 z0 k h2 hD (by omega)).1, by show In64 a3; unfold In64; omega, tagD_length sumD_length _ _ _⟩
  have PS : Hid (∀ (W : World) (k : Nat) (R : Array Value), k < len0 → Hid (R = (scells ⟨hd9 a2 z0 k, a3, tagD z1 (hd9 a2 z0 k) a3⟩).toArray) → Calls Tryd.prog 9 #[.agg R] W fun e w' => (∃ a n cap, e = .returned (.tuple #[.slice a n cap, .int .i64 0]) ∧ n = (signB ⟨hd9 a2 z0 k, a3, tagD z1 (hd9 a2 z0 k) a3⟩).length ∧ Reads w' a n cap (signB ⟨hd9 a2 z0 k, a3, tagD z1 (hd9 a2 z0 k) a3⟩)) ∧ Below W.heap.size W w') := fun W k R hk HR => (hc.putS _ (hinS k hk) W R HR).mono (by
    rintro e w' ⟨⟨a, cap, rfl, hr⟩, hb⟩
    have e1 : putSB ⟨hd9 a2 z0 k, a3, tagD z1 (hd9 a2 z0 k) a3⟩ = signB ⟨hd9 a2 z0 k, a3, tagD z1 (hd9 a2 z0 k) a3⟩ := by unfold putSB; rw [if_pos (hmay k hk)]
    have e2 : putSE ⟨hd9 a2 z0 k, a3, tagD z1 (hd9 a2 z0 k) a3⟩ = 0 := by unfold putSE; rw [if_pos (hmay k hk)]
    rw [e1] at hr ⊢
    rw [e2]
    exact ⟨⟨a, _, cap, rfl, rfl, hr⟩, hb⟩)
  have GS : Hid (∀ (W : World) (k : Nat) (R : Array Value) (a : Option Addr) (n cap : Nat), k < len0 → Hid (R = (scells ⟨hd9 a2 z0 k, a3, tagD z1 (hd9 a2 z0 k) a3⟩).toArray) → n = (signB ⟨hd9 a2 z0 k, a3, tagD z1 (hd9 a2 z0 k) a3⟩).length → Reads W a n cap (signB ⟨hd9 a2 z0 k, a3, tagD z1 (hd9 a2 z0 k) a3⟩) → Calls Tryd.prog 10 #[.slice a n cap] W fun e w' => e = .returned (.tuple #[.agg R, .int .i64 0]) ∧ Below W.heap.size W w') := fun W k R a n cap hk HR hn hr => by
    have e2 := getS_sign _ (hmay k hk) (hinS k hk).h.d (hinS k hk).g
    have hlen := signB_length _ (hinS k hk).h.d (hinS k hk).g
    have := hc.getS a n cap _ W hr (by omega) R (by show _ = _; unfold getSO; rw [e2]; exact HR.out)
    rwa [show getSE (signB ⟨hd9 a2 z0 k, a3, tagD z1 (hd9 a2 z0 k) a3⟩) = 0 by unfold getSE; rw [e2]; rfl] at this
  have VF : Hid (∀ (W : World) (k : Nat) (R : Array Value), k < len0 → Hid (R = (scells ⟨hd9 a2 z0 k, a3, tagD z1 (hd9 a2 z0 k) a3⟩).toArray) → Below w.heap.size w W → Calls Tryd.prog 11 #[.agg M, .agg R] W fun e w' => e = .returned (.int .i64 0) ∧ Below W.heap.size W w') := fun W k R hk HR hb => by
    have := hc.verify z1 _ W M R HM HR w1 (hinS k hk) (hK.keep hb).1
    rwa [show verE z1 ⟨hd9 a2 z0 k, a3, tagD z1 (hd9 a2 z0 k) a3⟩ = 0 by unfold verE; rw [if_pos (hmay k hk), if_pos rfl]] at this
  have NQ : Hid (∀ (k : Nat) (R : Array Value), k < len0 → Hid (R = (scells ⟨hd9 a2 z0 k, a3, tagD z1 (hd9 a2 z0 k) a3⟩).toArray) → ∀ W, (binOp .neq 40 (.agg R) (.agg R)).run Tryd.prog W = .ok (.bool false) W) := fun k R hk HR W => neqSigned _ _ (hinS k hk).h.d (hinS k hk).h.d (hinS k hk).g (hinS k hk).g R R HR HR false (by simp) W
  -- what the calls answer behind the loop
  have IN : Hid (∀ (W : World) (a : Option Addr) (cap i : Nat), i < len0 → LReads W a len0 cap z0 → Below w.heap.size w W → Calls Tryd.prog 12 #[.slice a len0 cap, .int .i64 i] W fun e w' => ∃ x n cx, e = .returned (.tuple #[.slice x n cx, .int .i64 0]) ∧ LReads w' x n cx (incl z0 i) ∧ Below W.heap.size W w') := fun W a cap i hi hR hb =>
    (incl_call a len0 cap z0 i W hR hi (by omega) (hK.keep hb).1).mono (by rintro e w' ⟨x, cx, rfl, hx, hbb⟩; exact ⟨x, _, cx, rfl, hx, hbb⟩)
  have CO : Hid (∀ (W : World) (a : Option Addr) (cap i : Nat), i < len0 → LReads W a len0 cap z0 → Below w.heap.size w W → Calls Tryd.prog 13 #[.slice a len0 cap, .int .i64 ((i : Int) + 1)] W fun e w' => ∃ x n cx, e = .returned (.tuple #[.slice x n cx, .int .i64 0]) ∧ LReads w' x n cx (goesW z0 (i + 1)) ∧ Below W.heap.size W w') := fun W a cap i hi hR hb => by
    have := goes_call a len0 cap z0 (i + 1) W hR (by omega) (by omega) (hK.keep hb).1
    rw [show ((i + 1 : Nat) : Int) = (i : Int) + 1 by omega] at this
    exact this.mono (by rintro e w' ⟨x, cx, rfl, hx, hbb⟩; exact ⟨x, _, cx, rfl, hx, hbb⟩)
  have NC : Hid (∀ (W : World) (x : Option Addr) (n cx i : Nat) (R X : Array Value) (hi : i < z0.length), Hid (R = (cellsOf (root z0)).toArray) → Hid (X = (cellsOf z0[i]).toArray) → LReads W x n cx (incl z0 i) → Below w.heap.size w W → Calls Tryd.prog 14 #[.agg R, .int .i64 len0, .int .i64 i, .agg X, .slice x n cx] W fun e w' => e = .returned (.int .i64 0) ∧ Below W.heap.size W w') := fun W x n cx i R X hi HR HX hx hb => by
    have := ck.included (root z0) len0 i z0[i] (incl z0 i) x n cx W R X HR HX (root_length sumD_length z0 hD) (hD _ (List.getElem_mem hi)) (by omega) (by omega) hx (hK.keep hb).1
    have e := inc_finds z0 i hi (by omega)
    rw [hzl] at e
    rwa [e] at this
  have CN : Hid (∀ (W : World) (x : Option Addr) (n cx i : Nat) (O R : Array Value), i < len0 → Hid (O = (cellsOf (root (z0.take (i + 1)))).toArray) → Hid (R = (cellsOf (root z0)).toArray) → LReads W x n cx (goesW z0 (i + 1)) → Below w.heap.size w W → Calls Tryd.prog 15 #[.int .i64 ((i : Int) + 1), .agg O, .int .i64 len0, .agg R, .slice x n cx] W fun e w' => e = .returned (.int .i64 0) ∧ Below W.heap.size W w') := fun W x n cx i O R hi HO HR hx hb => by
    have := ck.consistent ((i + 1 : Nat) : Int) (root (z0.take (i + 1))) len0 (root z0) (goesW z0 (i + 1)) x n cx W O R HO HR (root_length sumD_length _ (hD.take _)) (root_length sumD_length z0 hD) (by omega) (by omega) hx (hK.keep hb).1
    have e := con_finds z0 (i + 1) (by omega) (by omega)
    rw [hzl] at e
    rw [e, show ((i + 1 : Nat) : Int) = (i : Int) + 1 by omega] at this
    exact this
  have h00 : pm 0 = 0 ∧ pk 0 = [] := by
    constructor
    · rw [hmany 0 (by omega), many_zero]
    · rw [HPK.out]; rfl
  have HI0 : Hid (∀ W : World, Below w.heap.size w W → W.heap[w.heap.size]? = some (.cells M 24 (0, 0)) → W.heap[w.heap.size + 1]? = some (.cells #[.int .i64 0, .slice none 0 0] 28 (0, 0)) → TI w M 0 (pm 0) (pk 0) none 0 (.slice none 0 0) (.slice none 0 0) (z0.take 0) (hds9 a2 z0 0) W) := fun W hb hk hf =>
    ⟨hb, hk, by rw [h00.1]; exact hf, by rw [h00.1, h00.2]; exact ⟨rfl, (fun x hx => absurd hx (by simp) : ∀ x ∈ ([] : List (List UInt8)), x.length = 32), Nat.le_refl _, Nat.zero_le _, Or.inl rfl⟩, World.ownsRow_nil _ _ _ _, World.ownsRow_nil _ _ _ _, fun g o e => (by cases e), fun g o e => (by cases e), fun g o e => (by cases e)⟩
  have HSL : Hid (∀ k, ss[k]?.isSome = true ↔ k < len0) := fun k => by rw [← w0.1]; simp
  obtain ⟨ZD, HZD, HAD, HSZD, H1ZD, H32Z⟩ := noughts27
  obtain ⟨ZS, HZS, HAS, HBS, H69S⟩ := noughtsS
  have HZF := hidk zeroF9
  have HSF := hidk sizeF9
  have HBF := hidk builtF9
  have HW1 : Hid (Below w.heap.size w (w.alloc (.cells M 24)) ∧ (w.alloc (.cells M 24)).heap[w.heap.size]? = some (.cells M 24 (0, 0)) ∧ (w.alloc (.cells M 24)).heap.size = w.heap.size + 1) := ⟨(Below.refl _ _).alloc (Nat.le_refl _) _, heap_alloc_new w _, by simp⟩
  clear hK w0 h00 hmany HPK HPM hmay hinS hz0 HM w1 hD
  go_enter Tryd.func3, Tryd.ntmps3
  go_wp2_with (first
    | (show wpList _ _ _ ({ dst := some 50, op := _, type := _, pos := _, after := _, guard := _ } :: _) _ _; refine wpList_build_none rfl 28 rfl #[.int .i64 0, .slice none 0 0] HBF.out ?_; try simp only [Act.put, List.setIfInBounds_toArray, List.set_cons_zero, List.set_cons_succ])
    | (show wpList _ _ _ ({ dst := some 9, op := _, type := _, pos := _, after := _, guard := _ } :: _) _ _; refine wpList_new_row rfl rfl 28 rfl (.tmp 9) (.tmp 50) rfl #[.int .i64 0, .slice none 0 0] #[.int .i64 0, .slice none 0 0] HZF.out (fun _ => rfl) (fun _ => rfl) HSF.out rfl (oneF9 _ _ _ _) ?_; intro g9 w2 F9; try simp only [Act.put, List.setIfInBounds_toArray, List.set_cons_zero, List.set_cons_succ])
    | fail)
  obtain rfl : g9 = w.heap.size + 1 := by rw [F9.out.1]; exact HW1.out.2.2
  have HI1 := hidk (HI0.out w2 (HW1.out.1.trans (F9.out.2.2.mono HW1.out.1.size)) ((F9.out.2.2.block _ (heap_lt HW1.out.2.1)).trans HW1.out.2.1) F9.out.2.1)
  clear F9 HI0 HW1
  go_loopw [10, 11, 12] (fun v10 v11 v12 wr => ∃ k : Nat, k ≤ len0 ∧ v12 = .int .i64 k ∧ Hid (∃ y cy, TI w M k (pm k) (pk k) y cy v10 v11 (z0.take k) (hds9 a2 z0 k) wr)) (fun _ _ v _ => len0 - (intOf v).toNat)
  case atStart => exact ⟨0, by omega, rfl, ⟨none, 0, HI1.out⟩⟩
  case round =>
    clear HI1
    obtain ⟨k, hk, rfl, HI⟩ := hrel
    obtain ⟨y, cy, hI⟩ := HI.out
    have HT := hidk hI
    clear HI hI
    by_cases hlt : k < len0
    · have dk : decide ((k : Int) < (len0 : Int)) = true := by rw [decide_eq_true_eq]; omega
      have dk' : decide (k < len0) = true := by rw [decide_eq_true_eq]; omega
      obtain ⟨b, off, rfl, hbt, hct⟩ : ∃ b off, a0 = some ⟨b, off, none⟩ ∧ b < w.heap.size ∧ ∀ i, (hi : i < ss.length) → w.cell? ⟨b, off + i, none⟩ = some (.string ss[i]) := by
        rcases HWT.out.2 with h0 | h
        · omega
        · exact h
      have hks : k < ss.length := by rw [HWT.out.1]; exact hlt
      obtain ⟨s, hs⟩ : ∃ s, ss[k]? = some s := ⟨ss[k], List.getElem?_eq_getElem hks⟩
      have HTC : Hid (∀ W, Below w.heap.size w W → W.cell? ⟨b, off + k, none⟩ = some (.string s)) := fun W hb => by
        rw [hb.cell hbt, hct k hks]
        rw [List.getElem?_eq_getElem hks] at hs
        rw [Option.some.inj hs]
      have ix := fun W => idxS9 W b off len0 cap0 k hlt
      have hc0 := HTC.out wr HT.out.below
      have hmx : s.size ≤ 9223372036854775807 ∨ 9223372036854775807 < s.size := by omega
      clear hct hbt
      by_cases hbig : 1000 < s.size
      · have db : decide (1000 < (s.size : Int)) = true := by rw [decide_eq_true_eq]; omega
        have db' : decide (1000 < s.size) = true := by rw [decide_eq_true_eq]; omega
        clear hmx
        go_wp2
        go_ret
        exact ⟨rfl, HT.out.below⟩
      have db : decide (1000 < (s.size : Int)) = false := by rw [decide_eq_false_iff_not]; omega
      have db' : decide (1000 < s.size) = false := by rw [decide_eq_false_iff_not]; omega
      have hsz : s.size ≤ 1000 := by omega
      clear hmx hbig
      have hkz : k < z0.length := by rw [hzl]; exact hlt
      obtain ⟨d, hd⟩ : ∃ d, z0[k]? = some d := ⟨z0[k], List.getElem?_eq_getElem hkz⟩
      have hd32 : d.length = 32 := by
        rw [List.getElem?_eq_getElem hkz] at hd
        rw [← Option.some.inj hd]
        exact HDL.out _ (List.getElem_mem _)
      have hz1' : z0.take (k + 1) = z0.take k ++ [d] := by rw [List.take_add_one, hd]; rfl
      have hlk : (z0.take k).length = k := by rw [List.length_take, hzl]; omega
      have hhk := hds9_length a2 z0 k
      obtain ⟨D, HD, HSD, H1D, H32D⟩ := dig_row' d hd32
      have HZDD : Hid (ZD.size = D.size) := by show _ = _; rw [H32Z.out, H32D.out]
      obtain ⟨DR, HDR, HSDR, H1DR, H32DR⟩ := dig_row' (root (z0.take (k + 1))) (root_length sumD_length _ (HDL.out.take _))
      have HZDR : Hid (ZD.size = DR.size) := by show _ = _; rw [H32Z.out, H32DR.out]
      have hin := hd9_in a2 z0 k h2 HDL.out (by omega)
      obtain ⟨C, HC⟩ : ∃ C : Array Value, Hid (C = (hcells (hd9 a2 z0 k)).toArray) := ⟨_, hidk rfl⟩
      obtain ⟨R, HR, HSR, H1R, H69R⟩ := sign_row ⟨hd9 a2 z0 k, a3, tagD z1 (hd9 a2 z0 k) a3⟩ hin.1.d (tagD_length sumD_length _ _ _)
      have HZSR : Hid (ZS.size = R.size) := by show _ = _; rw [H69S.out, H69R.out]
      have HBC : Hid (Tryd.prog.built 38 [(0, .int .i64 1), (1, .int .i64 a2), (2, .int .i64 ((k : Int) + 1)), (3, .agg DR), (4, .int .i64 (k : Int))] = some C) := builtH (hd9 a2 z0 k) hin.1.d DR C HDR HC
      have HSCH : Hid ((Tryd.prog.info? 38).map (·.size) = some C.size) := by show _ = _; rw [P7.sizeH, HC.out]; simp [hcells_length _ hin.1.d]
      have HRC : Hid (∀ (W : World) (g : Nat), W.heap[g]? = some (.cells R 40 (0, 0)) → W.rangeAt g 0 C.toList) := fun W g hr => by
        have := (head_range ⟨hd9 a2 z0 k, a3, tagD z1 (hd9 a2 z0 k) a3⟩ hin.1.d HR hr).2.2
        rw [HC.out]; simpa using this
      have NQk := NQ.out k R hlt HR
      have LFk : Hid (∀ W, Below w.heap.size w W → Calls Tryd.prog 5 #[.string s] W fun e w' => e = .returned (.agg D) ∧ Below W.heap.size W w') := fun W hb => LF.out W k s D hs hsz (fun d' h' => by rw [hd] at h'; cases h'; exact HD) hb
      have BH : Hid (∀ W : World, (Instr.buildSlice 29 1 #[(0, .agg C)]).run Tryd.prog W = .ok (.slice (some ⟨W.heap.size, 0, none⟩) 1 1) (W.alloc (.cells C 38))) := fun W => build_head W (hd9 a2 z0 k) hin.1.d C HC
      have BD : Hid (∀ W : World, (Instr.buildSlice 26 1 #[(0, .agg D)]).run Tryd.prog W = .ok (.slice (some ⟨W.heap.size, 0, none⟩) 1 1) (W.alloc (.cells D 30))) := fun W => build_one W d hd32 D HD
      clear NQ LF
      go_wp2_with fail
      refine (LFk.out _ HT.out.below).mono ?_
      rintro e w3 ⟨rfl, hb3⟩
      have HT3 := hidk (HT.out.keep hb3)
      clear hb3 HT LFk hc0
      -- the leaf's variable, and the list of leaves
      go_wp2_with (first
        | (show wpList _ _ _ ({ dst := some 13, op := _, type := _, pos := _, after := _, guard := _ } :: _) _ _; refine wpList_new_row rfl rfl 30 rfl (.tmp 13) (.tmp 67) rfl ZD D HAD.out (fun _ => rfl) (fun _ => rfl) HSD.out HZDD.out H1D.out ?_; intro g13 w4 F4; have HT4 := hidk (HT3.out.keep F4.out.2.2); have HR13 := hidk F4.out.2.1; have h13 : ∀ q, u10.ownBlock = some q → q ≠ g13 := (fun q e => by have h1 := (HT3.out.own10.lt q e).2; have h2 := F4.out.1; omega); clear F4 HT3; try simp only [Act.put, List.setIfInBounds_toArray, List.set_cons_zero, List.set_cons_succ])
        | (show wpList _ _ _ ({ dst := some 69, op := _, type := _, pos := _, after := _, guard := _ } :: _) _ _; refine wpList_load_row rfl 30 (.tmp 13) rfl g13 rfl 30 D (0, 0) _ HR13.out Tryd.underlying30 rfl HSD.out ?_; try simp only [Act.put, List.setIfInBounds_toArray, List.set_cons_zero, List.set_cons_succ])
        | (refine wpList_build_run rfl 26 1 #[(0, .tmp 69)] rfl #[(0, .agg D)] rfl _ _ (BD.out _) ?_; obtain ⟨v10', w5, hrun5, hT5, hk5⟩ := HT4.out.app10 (by rw [hlk]; omega) d hd32 D HD; rw [← hz1'] at hT5; have HT5 := hidk hT5; have HR135 := hidk ((hk5 g13 (heap_lt HR13.out) (fun e => h13 g13 e.symm rfl)).trans HR13.out); have HRUN5 := hidk hrun5; clear hT5 hk5 hrun5 HT4 HR13 h13 BD; try simp only [Act.put, List.setIfInBounds_toArray, List.set_cons_zero, List.set_cons_succ])
        | (refine wpList_append_run rfl (.tmp 68) (.tmp 70) 26 26 rfl _ _ v10' w5 rfl rfl HRUN5.out ?_; try simp only [Act.put, List.setIfInBounds_toArray, List.set_cons_zero, List.set_cons_succ])
        | (show wpList _ _ _ ({ dst := some 73, op := _, type := _, pos := _, after := _, guard := _ } :: _) _ _; refine wpList_load_row rfl 28 (.tmp 9) rfl (w.heap.size + 1) rfl 28 #[.int .i64 (k : Int), .slice y (pm k) cy] (0, 0) _ HT5.out.fr Tryd.underlying28 rfl HSF.out ?_; try simp only [Act.put, List.setIfInBounds_toArray, List.set_cons_zero, List.set_cons_succ])
        | (show wpList _ _ _ ({ dst := some 74, op := _, type := _, pos := _, after := _, guard := _ } :: _) _ _; refine wpList_load_row rfl 30 (.tmp 13) rfl g13 rfl 30 D (0, 0) _ HR135.out Tryd.underlying30 rfl HSD.out ?_; try simp only [Act.put, List.setIfInBounds_toArray, List.set_cons_zero, List.set_cons_succ])
        | fail)
      clear HRUN5 HR135
      refine (AC.out _ k y cy d D hd HD HT5.out.below HT5.out.peaks).mono ?_
      rintro e w6 ⟨y2, cy2, rfl, hy2, hroom, hb6⟩
      have HT6 := hidk (HT5.out.keep hb6)
      have HY6 := hidk hy2
      have hB0 : w.heap.size + 2 ≤ w5.heap.size := HT5.out.size
      have hB6 : w5.heap.size ≤ w6.heap.size := hb6.size
      have HO : Hid ((∀ q, v10'.ownBlock = some q → q < w5.heap.size) ∧ (∀ q, u11.ownBlock = some q → q < w5.heap.size) ∧ (∀ g o, y2 = some ⟨g, o, none⟩ → 0 < pm (k + 1) → w5.heap.size ≤ g)) := ⟨fun q e => (HT5.out.own10.lt q e).2, fun q e => (HT5.out.own11.lt q e).2, fun g o e h0 => by
        rcases hroom with h | ⟨gp, o', e2, hB, _⟩
        · omega
        · rw [e] at e2
          cases e2
          exact hB⟩
      clear hy2 hroom hb6 HT5 HWT
      go_wp2_with (first
        | (show wpList _ _ _ ({ dst := some 14, op := _, type := _, pos := _, after := _, guard := _ } :: _) _ _; refine wpList_new_row rfl rfl 28 rfl (.tmp 14) (.tmp 76) rfl #[.int .i64 0, .slice none 0 0] #[.int .i64 ((k : Int) + 1), .slice y2 (pm (k + 1)) cy2] HZF.out (fun _ => rfl) (fun _ => rfl) HSF.out rfl (oneF9 _ _ _ _) ?_; intro g14 w7 F7; have HT7 := hidk (HT6.out.keep F7.out.2.2); have HR14 := hidk F7.out.2.1; have HY7 := hidk (HY6.out.keep F7.out.2.2); have hB7 : w5.heap.size ≤ w7.heap.size := Nat.le_trans hB6 F7.out.2.2.size; have h14 : w6.heap.size ≤ g14 := Nat.le_of_eq F7.out.1.symm; clear F7 HT6 HY6; try simp only [Act.put, List.setIfInBounds_toArray, List.set_cons_zero, List.set_cons_succ])
        | (show wpList _ _ _ ({ dst := some 79, op := _, type := _, pos := _, after := _, guard := _ } :: _) _ _; refine wpList_load_row rfl 28 (.tmp 14) rfl g14 rfl 28 #[.int .i64 ((k : Int) + 1), .slice y2 (pm (k + 1)) cy2] (0, 0) _ HR14.out Tryd.underlying28 rfl HSF.out ?_; try simp only [Act.put, List.setIfInBounds_toArray, List.set_cons_zero, List.set_cons_succ])
        | fail)
      refine (RT.out _ k y2 cy2 DR hlt HDR HT7.out.below HY7.out).mono ?_
      rintro e w8 ⟨rfl, hb8⟩
      have HT8 := hidk (HT7.out.keep hb8)
      have HY8 := hidk (HY7.out.keep hb8)
      have HR148 := hidk ((hb8.block _ (heap_lt HR14.out)).trans HR14.out)
      have hB8 : w5.heap.size ≤ w8.heap.size := Nat.le_trans hB7 hb8.size
      clear hb8 HT7 HY7 HR14
      go_wp2_with (first
        | (show wpList _ _ _ ({ dst := some 16, op := _, type := _, pos := _, after := _, guard := _ } :: _) _ _; refine wpList_new_row rfl rfl 30 rfl (.tmp 16) (.tmp 81) rfl ZD DR HAD.out (fun _ => rfl) (fun _ => rfl) HSDR.out HZDR.out H1DR.out ?_; intro g16 w9 F9; have HT9 := hidk (HT8.out.keep F9.out.2.2); have HR16 := hidk F9.out.2.1; have HY9 := hidk (HY8.out.keep F9.out.2.2); have HR149 := hidk ((F9.out.2.2.block _ (heap_lt HR148.out)).trans HR148.out); have hB9 : w5.heap.size ≤ w9.heap.size := Nat.le_trans hB8 F9.out.2.2.size; have h16 : w8.heap.size ≤ g16 := Nat.le_of_eq F9.out.1.symm; clear F9 HT8 HY8 HR148; try simp only [Act.put, List.setIfInBounds_toArray, List.set_cons_zero, List.set_cons_succ])
        | (show wpList _ _ _ ({ dst := some 89, op := _, type := _, pos := _, after := _, guard := _ } :: _) _ _; refine wpList_load_row rfl 28 (.tmp 14) rfl g14 rfl 28 #[.int .i64 ((k : Int) + 1), .slice y2 (pm (k + 1)) cy2] (0, 0) _ HR149.out Tryd.underlying28 rfl HSF.out ?_; try simp only [Act.put, List.setIfInBounds_toArray, List.set_cons_zero, List.set_cons_succ])
        | (refine P7.wpList_set_var rfl 28 (.tmp 9) (.tmp 89) rfl (w.heap.size + 1) #[.int .i64 ((k : Int) + 1), .slice y2 (pm (k + 1)) cy2] rfl rfl 28 #[.int .i64 (k : Int), .slice y (pm k) cy] HT9.out.fr HSF.out rfl (oneF9 _ _ _ _) ?_; intro wa HWa; have HTa : Hid (TI w M (k + 1) (pm (k + 1)) (pk (k + 1)) y2 cy2 v10' u11 (z0.take (k + 1)) (hds9 a2 z0 k) wa) := HT9.out.setF ⟨HWa.out.row, HWa.out.other, HWa.out.below⟩ HY9.out w5.heap.size hB9 hB0 HO.out.1 HO.out.2.1 HO.out.2.2; have HR14a := hidk ((HWa.out.other g14 (by omega)).trans HR149.out); have HR16a := hidk ((HWa.out.other g16 (by omega)).trans HR16.out); have c14 : wa.cell? ⟨g14, 0, none⟩ = some (.int .i64 ((k : Int) + 1)) := (by rw [cell_of_row wa g14 0 _ 28 (0, 0) HR14a.out]; rfl); clear HWa HT9 HY9 HR149 HR16; try simp only [Act.put, List.setIfInBounds_toArray, List.set_cons_zero, List.set_cons_succ])
        | (show wpList _ _ _ ({ dst := some 91, op := _, type := _, pos := _, after := _, guard := _ } :: _) _ _; refine wpList_load_row rfl 24 (.tmp 5) rfl w.heap.size rfl 24 M (0, 0) _ HTa.out.key Tryd.underlying24 rfl HSM.out ?_; try simp only [Act.put, List.setIfInBounds_toArray, List.set_cons_zero, List.set_cons_succ])
        | (show wpList _ _ _ ({ dst := some 95, op := _, type := _, pos := _, after := _, guard := _ } :: _) _ _; refine wpList_load_row rfl 30 (.tmp 16) rfl g16 rfl 30 DR (0, 0) _ HR16a.out Tryd.underlying30 rfl HSDR.out ?_; try simp only [Act.put, List.setIfInBounds_toArray, List.set_cons_zero, List.set_cons_succ])
        | (show wpList _ _ _ ({ dst := some 97, op := _, type := _, pos := _, after := _, guard := _ } :: _) _ _; refine wpList_build_five rfl 38 _ _ _ _ _ rfl C _ _ _ _ _ rfl rfl rfl rfl rfl HBC.out ?_; try simp only [Act.put, List.setIfInBounds_toArray, List.set_cons_zero, List.set_cons_succ])
        | fail)
      refine (SG.out _ k C R hlt HC HR HTa.out.below).mono ?_
      rintro e wb ⟨rfl, hbb⟩
      have HTb := hidk (HTa.out.keep hbb)
      clear hbb HTa HR14a HR16a c14 HBC HO
      go_wp2_with (first
        | (show wpList _ _ _ ({ dst := some 18, op := _, type := _, pos := _, after := _, guard := _ } :: _) _ _; refine wpList_new_row rfl rfl 40 rfl (.tmp 18) (.tmp 100) rfl ZS R HAS.out (fun _ => rfl) (fun _ => rfl) HSR.out HZSR.out H1R.out ?_; intro g18 wc Fc; have HTc := hidk (HTb.out.keep Fc.out.2.2); have HR18 := hidk Fc.out.2.1; clear Fc HTb; try simp only [Act.put, List.setIfInBounds_toArray, List.set_cons_zero, List.set_cons_succ])
        | (show wpList _ _ _ ({ dst := some 103, op := _, type := _, pos := _, after := _, guard := _ } :: _) _ _; refine wpList_load_row rfl 40 (.tmp 18) rfl g18 rfl 40 R (0, 0) _ HR18.out Tryd.underlying40 rfl HSR.out ?_; try simp only [Act.put, List.setIfInBounds_toArray, List.set_cons_zero, List.set_cons_succ])
        | fail)
      refine (PS.out _ k R hlt HR).mono ?_
      rintro e wd ⟨⟨ab, nb, cb, rfl, hnb, hRd⟩, hbd⟩
      have HTd := hidk (HTc.out.keep hbd)
      have HR18d := hidk ((hbd.block _ (heap_lt HR18.out)).trans HR18.out)
      have HQd := hidk hRd
      have Hnb := hidk hnb
      clear hbd hRd hnb HTc HR18
      go_wp2_with fail
      refine (GS.out _ k R ab nb cb hlt HR Hnb.out HQd.out).mono ?_
      rintro e we ⟨rfl, hbe⟩
      have HTe := hidk (HTd.out.keep hbe)
      have HR18e := hidk ((hbe.block _ (heap_lt HR18d.out)).trans HR18d.out)
      clear hbe HTd HR18d HQd Hnb
      go_wp2_with (first
        | (show wpList _ _ _ ({ dst := some 22, op := _, type := _, pos := _, after := _, guard := _ } :: _) _ _; refine wpList_new_row rfl rfl 40 rfl (.tmp 22) (.tmp 110) rfl ZS R HAS.out (fun _ => rfl) (fun _ => rfl) HSR.out HZSR.out H1R.out ?_; intro g22 wf Ff; have HTf := hidk (HTe.out.keep Ff.out.2.2); have HR22 := hidk Ff.out.2.1; have HR18f := hidk ((Ff.out.2.2.block _ (heap_lt HR18e.out)).trans HR18e.out); clear Ff HTe HR18e; try simp only [Act.put, List.setIfInBounds_toArray, List.set_cons_zero, List.set_cons_succ])
        | (show wpList _ _ _ ({ dst := some 123, op := _, type := _, pos := _, after := _, guard := _ } :: _) _ _; refine wpList_load_row_w (by rfl) 40 (.tmp 22) rfl g22 rfl 40 R (0, 0) _ HR22.out Tryd.underlying40 rfl HSR.out ?_; try simp only [Act.put, List.setIfInBounds_toArray, List.set_cons_zero, List.set_cons_succ])
        | (show wpList _ _ _ ({ dst := some 124, op := _, type := _, pos := _, after := _, guard := _ } :: _) _ _; refine wpList_load_row_w (by rfl) 40 (.tmp 18) rfl g18 rfl 40 R (0, 0) _ HR18f.out Tryd.underlying40 rfl HSR.out ?_; try simp only [Act.put, List.setIfInBounds_toArray, List.set_cons_zero, List.set_cons_succ])
        | (show wpList _ _ _ ({ dst := some 128, op := _, type := _, pos := _, after := _, guard := _ } :: _) _ _; refine wpList_load_row_w (by rfl) 24 (.tmp 5) rfl w.heap.size rfl 24 M (0, 0) _ HTf.out.key Tryd.underlying24 rfl HSM.out ?_; try simp only [Act.put, List.setIfInBounds_toArray, List.set_cons_zero, List.set_cons_succ])
        | (show wpList _ _ _ ({ dst := some 129, op := _, type := _, pos := _, after := _, guard := _ } :: _) _ _; refine wpList_load_row_w (by rfl) 40 (.tmp 22) rfl g22 rfl 40 R (0, 0) _ HR22.out Tryd.underlying40 rfl HSR.out ?_; try simp only [Act.put, List.setIfInBounds_toArray, List.set_cons_zero, List.set_cons_succ])
        | fail)
      refine (VF.out _ k R hlt HR HTf.out.below).mono ?_
      rintro e wg ⟨rfl, hbg⟩
      have HTg := hidk (HTf.out.keep hbg)
      have HR22g := hidk ((hbg.block _ (heap_lt HR22.out)).trans HR22.out)
      have hw12 := wrap_int ((k : Int) + 1) (by omega) (by omega)
      clear hbg HTf HR22 HR18f NQk
      go_wp2_with (first
        | (show wpList _ _ _ ({ dst := some 135, op := _, type := _, pos := _, after := _, guard := _ } :: _) _ _; refine P7.wpList_mid rfl 38 (.tmp 134) rfl g22 0 rfl C _ (HRC.out _ _ HR22g.out) Tryd.underlying38 rfl HSCH.out ?_; try simp only [Act.put, List.setIfInBounds_toArray, List.set_cons_zero, List.set_cons_succ])
        | (refine wpList_build_run rfl 29 1 #[(0, .tmp 135)] rfl #[(0, .agg C)] rfl _ _ (BH.out _) ?_; obtain ⟨v11', wh, hrunh, hTh⟩ := HTg.out.app11 (by rw [hhk]; omega) (hd9 a2 z0 k) hin.1.d C HC; rw [← hds9_succ] at hTh; have HTh := hidk hTh; have HRUNh := hidk hrunh; clear hrunh hTh HTg HR22g BH HRC; try simp only [Act.put, List.setIfInBounds_toArray, List.set_cons_zero, List.set_cons_succ])
        | (refine wpList_append_run rfl (.tmp 133) (.tmp 136) 29 29 rfl _ _ v11' wh rfl rfl HRUNh.out ?_; try simp only [Act.put, List.setIfInBounds_toArray, List.set_cons_zero, List.set_cons_succ])
        | fail)
      go_roundw
      case rel => exact ⟨k + 1, by omega, by go_num, ⟨y2, cy2, HTh.out⟩⟩
      case measure => simp [intOf]; omega
    · obtain rfl : len0 = k := by omega
      have hdk : decide ((len0 : Int) < (len0 : Int)) = false := by rw [decide_eq_false_iff_not]; omega
      have hnl : (hds9 a2 z0 len0).length = len0 := hds9_length a2 z0 len0
      rw [List.take_of_length_le (by omega)] at HT
      obtain ⟨a10, c10, e10, hR10, _⟩ := LReads.own HT.out.own10 HDL.out
      rw [hzl] at e10 hR10
      subst e10
      have HS0 : Hid (Below w.heap.size w wr ∧ LReads wr a10 len0 c10 z0 ∧ wr.ownsRow (w.heap.size + 2) 38 36 u11 (hds9 a2 z0 len0).length (hdsC (hds9 a2 z0 len0))) := ⟨HT.out.below, hR10, HT.out.own11⟩
      clear hR10 HT LF AC RT SG PS GS VF NQ HWT
      go_wp2_with fail
      go_loopw [25] (fun v wi => ∃ i : Nat, i ≤ len0 ∧ v = .int .i64 i ∧ Hid (Below w.heap.size w wi ∧ LReads wi a10 len0 c10 z0 ∧ wi.ownsRow (w.heap.size + 2) 38 36 u11 (hds9 a2 z0 len0).length (hdsC (hds9 a2 z0 len0)))) (fun v _ => len0 - (intOf v).toNat)
      case atStart => exact ⟨0, by omega, rfl, HS0⟩
      case round =>
        clear HS0
        obtain ⟨i, hi, rfl, HS⟩ := hrel
        by_cases hlt : i < len0
        · have dk : decide ((i : Int) < (len0 : Int)) = true := by rw [decide_eq_true_eq]; omega
          have dk' : decide (i < len0) = true := by rw [decide_eq_true_eq]; omega
          have hwi := wrap_int ((i : Int) + 1) (by omega) (by omega)
          have hwn := wrap_int ((len0 : Int) - 1) (by omega) (by omega)
          have hpos : 0 < len0 := by omega
          obtain ⟨g11, c11, e11⟩ := own_form HS.out.2.2 (by omega)
          rw [hnl] at e11
          subst e11
          obtain ⟨g10, o10, e10, _⟩ := HS.out.2.1.at hpos
          subst e10
          have hiz : i < z0.length := by omega
          have h32i : (z0[i]'hiz).length = 32 := HDL.out _ (List.getElem_mem hiz)
          obtain ⟨X, HX, HSX, _, H32X⟩ := dig_row' (z0[i]'hiz) h32i
          obtain ⟨R, HR, HSR, _, _⟩ := dig_row' (root z0) (root_length sumD_length _ HDL.out)
          obtain ⟨O, HO, HSO, _, _⟩ := dig_row' (root (z0.take (i + 1))) (root_length sumD_length _ (HDL.out.take _))
          have HGI : Hid (∀ (W : World) (j : Nat), j < len0 → W.ownsRow (w.heap.size + 2) 38 36 (.slice (some ⟨g11, 0, none⟩) len0 c11) (hds9 a2 z0 len0).length (hdsC (hds9 a2 z0 len0)) → W.cell? ⟨g11, 36 * j + 2, none⟩ = some (.int .i64 ((j : Int) + 1)) ∧ W.rangeAt g11 (36 * j + 3) (cellsOf (root (z0.take (j + 1))))) := fun W j hj ho => by
            have hj' : j < (hds9 a2 z0 len0).length := by omega
            have hh := heads_row (hds9_d a2 z0 len0 HDL.out) ho j hj'
            have e := hds9_at a2 z0 len0 j hj
            rw [List.getElem?_eq_getElem hj', Option.some.injEq] at e
            rw [e] at hh
            exact hh
          have HRi : Hid (∀ W : World, W.ownsRow (w.heap.size + 2) 38 36 (.slice (some ⟨g11, 0, none⟩) len0 c11) (hds9 a2 z0 len0).length (hdsC (hds9 a2 z0 len0)) → W.cell? ⟨g11, 36 * i + 2, none⟩ = some (.int .i64 ((i : Int) + 1)) ∧ W.rangeAt g11 (36 * i + 3) O.toList) := fun W ho => by
            have := HGI.out W i hlt ho
            rw [HO.out]; simpa using this
          have HRn : Hid (∀ W : World, W.ownsRow (w.heap.size + 2) 38 36 (.slice (some ⟨g11, 0, none⟩) len0 c11) (hds9 a2 z0 len0).length (hdsC (hds9 a2 z0 len0)) → W.rangeAt g11 (36 * (len0 - 1) + 3) R.toList) := fun W ho => by
            have := (HGI.out W (len0 - 1) (by omega) ho).2
            rw [show len0 - 1 + 1 = len0 by omega, List.take_of_length_le (by omega)] at this
            rw [HR.out]; simpa using this
          have HRX : Hid (∀ W : World, LReads W (some ⟨g10, o10, none⟩) len0 c10 z0 → W.rangeAt g10 (o10 + 32 * i) X.toList) := fun W h => by
            have := h.range i hiz
            rw [HX.out]; simpa using this
          have ixi := fun W => index_heads W g11 len0 c11 i hlt
          have ixn : ∀ W, (Instr.indexAt 29 (.slice (some ⟨g11, 0, none⟩) len0 c11) (.int .i64 ((len0 : Int) - 1))).run Tryd.prog W = .ok (.pointer (some ⟨g11, 36 * (len0 - 1), none⟩)) W := fun W => by
            have := index_heads W g11 len0 c11 (len0 - 1) (by omega)
            rw [show ((len0 - 1 : Nat) : Int) = (len0 : Int) - 1 by omega] at this
            exact this
          have ixl := fun W => index_list W g10 o10 len0 c10 i .i64 hlt
          have HSa := hidk HS.out
          clear HS HGI
          go_wp2_with fail
          refine (IN.out _ _ _ i hlt HSa.out.2.1 HSa.out.1).mono ?_
          rintro e wj ⟨xp, np, cp, rfl, hxp, hbj⟩
          have HSb : Hid (Below w.heap.size w wj ∧ LReads wj (some ⟨g10, o10, none⟩) len0 c10 z0 ∧ wj.ownsRow (w.heap.size + 2) 38 36 (.slice (some ⟨g11, 0, none⟩) len0 c11) (hds9 a2 z0 len0).length (hdsC (hds9 a2 z0 len0)) ∧ LReads wj xp np cp (incl z0 i)) := ⟨HSa.out.1.trans (hbj.mono HSa.out.1.size), HSa.out.2.1.keep hbj, own_below HSa.out.2.2 hbj, hxp⟩
          clear hxp hbj HSa
          go_wp2_with fail
          refine (CO.out _ _ _ i hlt HSb.out.2.1 HSb.out.1).mono ?_
          rintro e wk ⟨xq, nq, cq, rfl, hxq, hbk⟩
          have HSc : Hid (Below w.heap.size w wk ∧ LReads wk (some ⟨g10, o10, none⟩) len0 c10 z0 ∧ wk.ownsRow (w.heap.size + 2) 38 36 (.slice (some ⟨g11, 0, none⟩) len0 c11) (hds9 a2 z0 len0).length (hdsC (hds9 a2 z0 len0)) ∧ LReads wk xp np cp (incl z0 i) ∧ LReads wk xq nq cq (goesW z0 (i + 1))) := ⟨HSb.out.1.trans (hbk.mono HSb.out.1.size), HSb.out.2.1.keep hbk, own_below HSb.out.2.2.1 hbk, HSb.out.2.2.2.keep hbk, hxq⟩
          clear hxq hbk HSb
          go_wp2_with fail
          refine wp_region_held_drew (S := (fun W => Below w.heap.size w W ∧ LReads W (some ⟨g10, o10, none⟩) len0 c10 z0 ∧ W.ownsRow (w.heap.size + 2) 38 36 (.slice (some ⟨g11, 0, none⟩) len0 c11) (hds9 a2 z0 len0).length (hdsC (hds9 a2 z0 len0)) ∧ LReads W xp np cp (incl z0 i) ∧ LReads W xq nq cq (goesW z0 (i + 1)))) (by kernel_rfl) ⟨HSc.out.1.drew, HSc.out.2.1.keep (Below.refl _ _).drew, own_below HSc.out.2.2.1 (Below.refl _ _).drew, HSc.out.2.2.2.1.keep (Below.refl _ _).drew, HSc.out.2.2.2.2.keep (Below.refl _ _).drew⟩ (fun hHeld => ?_)
          refine wpAnyH_take (i := 0) (oi := { dst := some 158, op := Op.move (Operand.tmp 27), type := 32, pos := "top07.go:51", after := #[], guard := none }) (v := .int .i64 0) rfl (by kernel_rfl) (by kernel_rfl) (by kernel_rfl) (fun _ _ _ h => h) (Or.inl ⟨by rfl, by intro w hSw; go_simp⟩) hHeld ?_
          try simp only [Act.put, List.setIfInBounds_toArray, List.set_cons_zero, List.set_cons_succ]
          refine wpAnyH_take (i := 1) (oi := { dst := some 159, op := Op.binOp BinOp.neq 32 (Operand.tmp 158) (Operand.const (Value.int IntKind.i64 0)) 32, type := 4, pos := "top07.go:51", after := #[{ on := 0, ground := Ground.data }], guard := none }) (v := .bool false) rfl (by kernel_rfl) (by kernel_rfl) (by kernel_rfl) (fun _ _ _ h => h) (Or.inl ⟨by rfl, by intro w hSw; go_simp⟩) hHeld ?_
          try simp only [Act.put, List.setIfInBounds_toArray, List.set_cons_zero, List.set_cons_succ]
          refine wpAnyH_take (i := 2) (oi := { dst := some 160, op := Op.move (Operand.tmp 159), type := 4, pos := "top07.go:51", after := #[{ on := 1, ground := Ground.data }], guard := none }) (v := .bool false) rfl (by kernel_rfl) (by kernel_rfl) (by kernel_rfl) (fun _ _ _ h => h) (Or.inl ⟨by rfl, by intro w hSw; go_simp⟩) hHeld ?_
          try simp only [Act.put, List.setIfInBounds_toArray, List.set_cons_zero, List.set_cons_succ]
          refine wpAnyH_take (i := 3) (oi := { dst := some 161, op := Op.move (Operand.tmp 29), type := 32, pos := "top07.go:51", after := #[{ on := 2, ground := Ground.guard }], guard := some (2, false) }) (v := .int .i64 0) rfl (by kernel_rfl) (by kernel_rfl) (by kernel_rfl) (fun _ _ _ h => h) (Or.inl ⟨by rfl, by intro w hSw; go_simp⟩) hHeld ?_
          try simp only [Act.put, List.setIfInBounds_toArray, List.set_cons_zero, List.set_cons_succ]
          refine wpAnyH_take (i := 4) (oi := { dst := some 162, op := Op.binOp BinOp.neq 32 (Operand.tmp 161) (Operand.const (Value.int IntKind.i64 0)) 32, type := 4, pos := "top07.go:51", after := #[{ on := 3, ground := Ground.data }, { on := 2, ground := Ground.guard }], guard := some (2, false) }) (v := .bool false) rfl (by kernel_rfl) (by kernel_rfl) (by kernel_rfl) (fun _ _ _ h => h) (Or.inl ⟨by rfl, by intro w hSw; go_simp⟩) hHeld ?_
          try simp only [Act.put, List.setIfInBounds_toArray, List.set_cons_zero, List.set_cons_succ]
          refine wpAnyH_take (i := 5) (oi := { dst := some 163, op := Op.pick (Operand.tmp 160) (Operand.const (Value.bool true)) (Operand.tmp 162), type := 4, pos := "top07.go:51", after := #[{ on := 2, ground := Ground.data }, { on := 4, ground := Ground.data }], guard := none }) (v := .bool false) rfl (by kernel_rfl) (by kernel_rfl) (by kernel_rfl) (fun _ _ _ h => h) (Or.inl ⟨by rfl, by intro w hSw; go_simp⟩) hHeld ?_
          try simp only [Act.put, List.setIfInBounds_toArray, List.set_cons_zero, List.set_cons_succ]
          refine wpAnyH_take (i := 6) (oi := { dst := some 164, op := Op.move (Operand.tmp 163), type := 4, pos := "top07.go:51", after := #[{ on := 5, ground := Ground.data }, { on := 2, ground := Ground.chain }], guard := none }) (v := .bool false) rfl (by kernel_rfl) (by kernel_rfl) (by kernel_rfl) (fun _ _ _ h => h) (Or.inl ⟨by rfl, by intro w hSw; go_simp⟩) hHeld ?_
          try simp only [Act.put, List.setIfInBounds_toArray, List.set_cons_zero, List.set_cons_succ]
          refine wpAnyH_take (i := 7) (oi := { dst := some 165, op := Op.move (Operand.tmp 11), type := 29, pos := "top07.go:51", after := #[{ on := 6, ground := Ground.guard }], guard := some (6, false) }) (v := .slice (some ⟨g11, 0, none⟩) len0 c11) rfl (by kernel_rfl) (by kernel_rfl) (by kernel_rfl) (fun _ _ _ h => h) (Or.inl ⟨by rfl, by intro w hSw; go_simp⟩) hHeld ?_
          try simp only [Act.put, List.setIfInBounds_toArray, List.set_cons_zero, List.set_cons_succ]
          refine wpAnyH_take (i := 8) (oi := { dst := some 166, op := Op.move (Operand.tmp 24), type := 3, pos := "top07.go:51", after := #[{ on := 6, ground := Ground.guard }], guard := some (6, false) }) (v := .int .i64 len0) rfl (by kernel_rfl) (by kernel_rfl) (by kernel_rfl) (fun _ _ _ h => h) (Or.inl ⟨by rfl, by intro w hSw; go_simp⟩) hHeld ?_
          try simp only [Act.put, List.setIfInBounds_toArray, List.set_cons_zero, List.set_cons_succ]
          refine wpAnyH_take (i := 9) (oi := { dst := some 167, op := Op.binOp BinOp.sub 3 (Operand.tmp 166) (Operand.const (Value.int IntKind.i64 1)) 3, type := 3, pos := "top07.go:51", after := #[{ on := 8, ground := Ground.data }, { on := 6, ground := Ground.guard }], guard := some (6, false) }) (v := .int .i64 ((len0 : Int) - 1)) rfl (by kernel_rfl) (by kernel_rfl) (by kernel_rfl) (fun _ _ _ h => h) (Or.inl ⟨by rfl, by intro w hSw; go_simp⟩) hHeld ?_
          try simp only [Act.put, List.setIfInBounds_toArray, List.set_cons_zero, List.set_cons_succ]
          refine wpAnyH_take (i := 10) (oi := { dst := some 168, op := Op.indexAddr 29 (Operand.tmp 165) (Operand.tmp 167), type := 0, pos := "top07.go:51", after := #[{ on := 7, ground := Ground.data }, { on := 9, ground := Ground.data }, { on := 6, ground := Ground.guard }], guard := some (6, false) }) (v := .pointer (some ⟨g11, 36 * (len0 - 1), none⟩)) rfl (by kernel_rfl) (by kernel_rfl) (by kernel_rfl) (fun _ _ _ h => h) (Or.inl ⟨by rfl, by intro W hSw; have := ixn W; go_simp⟩) hHeld ?_
          try simp only [Act.put, List.setIfInBounds_toArray, List.set_cons_zero, List.set_cons_succ]
          refine wpAnyH_take (i := 11) (oi := { dst := some 169, op := Op.fieldAddr 38 (Operand.tmp 168) 3, type := 0, pos := "top07.go:51", after := #[{ on := 10, ground := Ground.data }, { on := 6, ground := Ground.guard }], guard := some (6, false) }) (v := .pointer (some ⟨g11, 36 * (len0 - 1) + 3, none⟩)) rfl (by kernel_rfl) (by kernel_rfl) (by kernel_rfl) (fun _ _ _ h => h) (Or.inl ⟨by rfl, by intro w hSw; go_simp⟩) hHeld ?_
          try simp only [Act.put, List.setIfInBounds_toArray, List.set_cons_zero, List.set_cons_succ]
          refine wpAnyH_take (i := 12) (oi := { dst := some 170, op := Op.load 30 (Operand.tmp 169), type := 30, pos := "top07.go:51", after := #[{ on := 11, ground := Ground.data }, { on := 6, ground := Ground.guard }], guard := some (6, false) }) (v := .agg R) rfl (by kernel_rfl) (by kernel_rfl) (by kernel_rfl) (fun _ _ _ h => h) (yieldsIf_mid (by rfl) 30 (.tmp 169) rfl g11 (36 * (len0 - 1) + 3) rfl R _ (fun W h => HRn.out W h.2.2.1) Tryd.underlying30 rfl HSR.out) hHeld ?_
          try simp only [Act.put, List.setIfInBounds_toArray, List.set_cons_zero, List.set_cons_succ]
          refine wpAnyH_take (i := 13) (oi := { dst := some 171, op := Op.move (Operand.tmp 24), type := 3, pos := "top07.go:51", after := #[{ on := 6, ground := Ground.guard }], guard := some (6, false) }) (v := .int .i64 len0) rfl (by kernel_rfl) (by kernel_rfl) (by kernel_rfl) (fun _ _ _ h => h) (Or.inl ⟨by rfl, by intro w hSw; go_simp⟩) hHeld ?_
          try simp only [Act.put, List.setIfInBounds_toArray, List.set_cons_zero, List.set_cons_succ]
          refine wpAnyH_take (i := 14) (oi := { dst := some 172, op := Op.move (Operand.tmp 25), type := 3, pos := "top07.go:51", after := #[{ on := 6, ground := Ground.guard }], guard := some (6, false) }) (v := .int .i64 i) rfl (by kernel_rfl) (by kernel_rfl) (by kernel_rfl) (fun _ _ _ h => h) (Or.inl ⟨by rfl, by intro w hSw; go_simp⟩) hHeld ?_
          try simp only [Act.put, List.setIfInBounds_toArray, List.set_cons_zero, List.set_cons_succ]
          refine wpAnyH_take (i := 15) (oi := { dst := some 173, op := Op.move (Operand.tmp 10), type := 26, pos := "top07.go:51", after := #[{ on := 6, ground := Ground.guard }], guard := some (6, false) }) (v := .slice (some ⟨g10, o10, none⟩) len0 c10) rfl (by kernel_rfl) (by kernel_rfl) (by kernel_rfl) (fun _ _ _ h => h) (Or.inl ⟨by rfl, by intro w hSw; go_simp⟩) hHeld ?_
          try simp only [Act.put, List.setIfInBounds_toArray, List.set_cons_zero, List.set_cons_succ]
          refine wpAnyH_take (i := 16) (oi := { dst := some 174, op := Op.move (Operand.tmp 25), type := 3, pos := "top07.go:51", after := #[{ on := 6, ground := Ground.guard }], guard := some (6, false) }) (v := .int .i64 i) rfl (by kernel_rfl) (by kernel_rfl) (by kernel_rfl) (fun _ _ _ h => h) (Or.inl ⟨by rfl, by intro w hSw; go_simp⟩) hHeld ?_
          try simp only [Act.put, List.setIfInBounds_toArray, List.set_cons_zero, List.set_cons_succ]
          refine wpAnyH_take (i := 17) (oi := { dst := some 175, op := Op.indexAddr 26 (Operand.tmp 173) (Operand.tmp 174), type := 0, pos := "top07.go:51", after := #[{ on := 15, ground := Ground.data }, { on := 16, ground := Ground.data }, { on := 6, ground := Ground.guard }], guard := some (6, false) }) (v := .pointer (some ⟨g10, o10 + 32 * i, none⟩)) rfl (by kernel_rfl) (by kernel_rfl) (by kernel_rfl) (fun _ _ _ h => h) (Or.inl ⟨by rfl, by intro W hSw; have := ixl W; go_simp⟩) hHeld ?_
          try simp only [Act.put, List.setIfInBounds_toArray, List.set_cons_zero, List.set_cons_succ]
          refine wpAnyH_take (i := 18) (oi := { dst := some 176, op := Op.load 30 (Operand.tmp 175), type := 30, pos := "top07.go:51", after := #[{ on := 17, ground := Ground.data }, { on := 6, ground := Ground.guard }], guard := some (6, false) }) (v := .agg X) rfl (by kernel_rfl) (by kernel_rfl) (by kernel_rfl) (fun _ _ _ h => h) (yieldsIf_mid (by rfl) 30 (.tmp 175) rfl g10 (o10 + 32 * i) rfl X _ (fun W h => HRX.out W h.2.1) Tryd.underlying30 rfl HSX.out) hHeld ?_
          try simp only [Act.put, List.setIfInBounds_toArray, List.set_cons_zero, List.set_cons_succ]
          refine wpAnyH_take (i := 19) (oi := { dst := some 177, op := Op.move (Operand.tmp 26), type := 26, pos := "top07.go:51", after := #[{ on := 6, ground := Ground.guard }], guard := some (6, false) }) (v := .slice xp np cp) rfl (by kernel_rfl) (by kernel_rfl) (by kernel_rfl) (fun _ _ _ h => h) (Or.inl ⟨by rfl, by intro w hSw; go_simp⟩) hHeld ?_
          try simp only [Act.put, List.setIfInBounds_toArray, List.set_cons_zero, List.set_cons_succ]
          refine wpAnyH_ready (rs := [20]) (by kernel_rfl) (by simp) ?_
          refine AllReadyH.cons (o := { dst := some 178, op := Op.call { callee := Callee.value (Operand.func 14), args := #[Operand.tmp 170, Operand.tmp 171, Operand.tmp 172, Operand.tmp 176, Operand.tmp 177], argTypes := #[30, 3, 3, 30, 26] }, type := 32, pos := "top07.go:51", after := #[{ on := 12, ground := Ground.data }, { on := 13, ground := Ground.data }, { on := 14, ground := Ground.data }, { on := 18, ground := Ground.data }, { on := 19, ground := Ground.data }, { on := 6, ground := Ground.chain }, { on := 6, ground := Ground.guard }], guard := some (6, false) }) rfl (fun K hK => ?_) AllReadyH.nil
          go_simp
          refine (NC.out _ _ _ _ i R X hiz HR HX hHeld.2.2.2.1 hHeld.1).mono ?_
          rintro e wm ⟨rfl, hbm⟩
          go_wp2_with fail
          refine hK.out _ _ ⟨hHeld.1.trans (hbm.mono hHeld.1.size), hHeld.2.1.keep hbm, own_below hHeld.2.2.1 hbm, hHeld.2.2.2.1.keep hbm, hHeld.2.2.2.2.keep hbm⟩ (fun hHeld => ?_)
          clear hK K
          try simp only [Act.put, List.setIfInBounds_toArray, List.set_cons_zero, List.set_cons_succ]
          refine wpAnyH_take (i := 21) (oi := { dst := some 179, op := Op.binOp BinOp.neq 32 (Operand.tmp 178) (Operand.const (Value.int IntKind.i64 0)) 32, type := 4, pos := "top07.go:51", after := #[{ on := 20, ground := Ground.data }, { on := 6, ground := Ground.guard }], guard := some (6, false) }) (v := .bool false) rfl (by kernel_rfl) (by kernel_rfl) (by kernel_rfl) (fun _ _ _ h => h) (Or.inl ⟨by rfl, by intro w hSw; go_simp⟩) hHeld ?_
          try simp only [Act.put, List.setIfInBounds_toArray, List.set_cons_zero, List.set_cons_succ]
          refine wpAnyH_take (i := 22) (oi := { dst := some 180, op := Op.pick (Operand.tmp 164) (Operand.const (Value.bool true)) (Operand.tmp 179), type := 4, pos := "top07.go:51", after := #[{ on := 6, ground := Ground.data }, { on := 21, ground := Ground.data }], guard := none }) (v := .bool false) rfl (by kernel_rfl) (by kernel_rfl) (by kernel_rfl) (fun _ _ _ h => h) (Or.inl ⟨by rfl, by intro w hSw; go_simp⟩) hHeld ?_
          try simp only [Act.put, List.setIfInBounds_toArray, List.set_cons_zero, List.set_cons_succ]
          refine wpAnyH_take (i := 23) (oi := { dst := some 181, op := Op.move (Operand.tmp 180), type := 4, pos := "top07.go:51", after := #[{ on := 22, ground := Ground.data }, { on := 20, ground := Ground.chain }], guard := none }) (v := .bool false) rfl (by kernel_rfl) (by kernel_rfl) (by kernel_rfl) (fun _ _ _ h => h) (Or.inl ⟨by rfl, by intro w hSw; go_simp⟩) hHeld ?_
          try simp only [Act.put, List.setIfInBounds_toArray, List.set_cons_zero, List.set_cons_succ]
          refine wpAnyH_take (i := 24) (oi := { dst := some 182, op := Op.move (Operand.tmp 11), type := 29, pos := "top07.go:51", after := #[{ on := 23, ground := Ground.guard }], guard := some (23, false) }) (v := .slice (some ⟨g11, 0, none⟩) len0 c11) rfl (by kernel_rfl) (by kernel_rfl) (by kernel_rfl) (fun _ _ _ h => h) (Or.inl ⟨by rfl, by intro w hSw; go_simp⟩) hHeld ?_
          try simp only [Act.put, List.setIfInBounds_toArray, List.set_cons_zero, List.set_cons_succ]
          refine wpAnyH_take (i := 25) (oi := { dst := some 183, op := Op.move (Operand.tmp 25), type := 3, pos := "top07.go:51", after := #[{ on := 23, ground := Ground.guard }], guard := some (23, false) }) (v := .int .i64 i) rfl (by kernel_rfl) (by kernel_rfl) (by kernel_rfl) (fun _ _ _ h => h) (Or.inl ⟨by rfl, by intro w hSw; go_simp⟩) hHeld ?_
          try simp only [Act.put, List.setIfInBounds_toArray, List.set_cons_zero, List.set_cons_succ]
          refine wpAnyH_take (i := 26) (oi := { dst := some 184, op := Op.indexAddr 29 (Operand.tmp 182) (Operand.tmp 183), type := 0, pos := "top07.go:51", after := #[{ on := 24, ground := Ground.data }, { on := 25, ground := Ground.data }, { on := 23, ground := Ground.guard }], guard := some (23, false) }) (v := .pointer (some ⟨g11, 36 * i, none⟩)) rfl (by kernel_rfl) (by kernel_rfl) (by kernel_rfl) (fun _ _ _ h => h) (Or.inl ⟨by rfl, by intro W hSw; have := ixi W; go_simp⟩) hHeld ?_
          try simp only [Act.put, List.setIfInBounds_toArray, List.set_cons_zero, List.set_cons_succ]
          refine wpAnyH_take (i := 27) (oi := { dst := some 185, op := Op.fieldAddr 38 (Operand.tmp 184) 2, type := 0, pos := "top07.go:51", after := #[{ on := 26, ground := Ground.data }, { on := 23, ground := Ground.guard }], guard := some (23, false) }) (v := .pointer (some ⟨g11, 36 * i + 2, none⟩)) rfl (by kernel_rfl) (by kernel_rfl) (by kernel_rfl) (fun _ _ _ h => h) (Or.inl ⟨by rfl, by intro w hSw; go_simp⟩) hHeld ?_
          try simp only [Act.put, List.setIfInBounds_toArray, List.set_cons_zero, List.set_cons_succ]
          refine wpAnyH_take (i := 28) (oi := { dst := some 186, op := Op.load 3 (Operand.tmp 185), type := 3, pos := "top07.go:51", after := #[{ on := 27, ground := Ground.data }, { on := 23, ground := Ground.guard }], guard := some (23, false) }) (v := .int .i64 ((i : Int) + 1)) rfl (by kernel_rfl) (by kernel_rfl) (by kernel_rfl) (fun _ _ _ h => h) (Or.inl ⟨by rfl, by intro W hSw; have := (HRi.out W hSw.2.2.1).1; go_simp⟩) hHeld ?_
          try simp only [Act.put, List.setIfInBounds_toArray, List.set_cons_zero, List.set_cons_succ]
          refine wpAnyH_take (i := 29) (oi := { dst := some 187, op := Op.move (Operand.tmp 11), type := 29, pos := "top07.go:51", after := #[{ on := 23, ground := Ground.guard }], guard := some (23, false) }) (v := .slice (some ⟨g11, 0, none⟩) len0 c11) rfl (by kernel_rfl) (by kernel_rfl) (by kernel_rfl) (fun _ _ _ h => h) (Or.inl ⟨by rfl, by intro w hSw; go_simp⟩) hHeld ?_
          try simp only [Act.put, List.setIfInBounds_toArray, List.set_cons_zero, List.set_cons_succ]
          refine wpAnyH_take (i := 30) (oi := { dst := some 188, op := Op.move (Operand.tmp 25), type := 3, pos := "top07.go:51", after := #[{ on := 23, ground := Ground.guard }], guard := some (23, false) }) (v := .int .i64 i) rfl (by kernel_rfl) (by kernel_rfl) (by kernel_rfl) (fun _ _ _ h => h) (Or.inl ⟨by rfl, by intro w hSw; go_simp⟩) hHeld ?_
          try simp only [Act.put, List.setIfInBounds_toArray, List.set_cons_zero, List.set_cons_succ]
          refine wpAnyH_take (i := 31) (oi := { dst := some 189, op := Op.indexAddr 29 (Operand.tmp 187) (Operand.tmp 188), type := 0, pos := "top07.go:51", after := #[{ on := 29, ground := Ground.data }, { on := 30, ground := Ground.data }, { on := 23, ground := Ground.guard }], guard := some (23, false) }) (v := .pointer (some ⟨g11, 36 * i, none⟩)) rfl (by kernel_rfl) (by kernel_rfl) (by kernel_rfl) (fun _ _ _ h => h) (Or.inl ⟨by rfl, by intro W hSw; have := ixi W; go_simp⟩) hHeld ?_
          try simp only [Act.put, List.setIfInBounds_toArray, List.set_cons_zero, List.set_cons_succ]
          refine wpAnyH_take (i := 32) (oi := { dst := some 190, op := Op.fieldAddr 38 (Operand.tmp 189) 3, type := 0, pos := "top07.go:51", after := #[{ on := 31, ground := Ground.data }, { on := 23, ground := Ground.guard }], guard := some (23, false) }) (v := .pointer (some ⟨g11, 36 * i + 3, none⟩)) rfl (by kernel_rfl) (by kernel_rfl) (by kernel_rfl) (fun _ _ _ h => h) (Or.inl ⟨by rfl, by intro w hSw; go_simp⟩) hHeld ?_
          try simp only [Act.put, List.setIfInBounds_toArray, List.set_cons_zero, List.set_cons_succ]
          refine wpAnyH_take (i := 33) (oi := { dst := some 191, op := Op.load 30 (Operand.tmp 190), type := 30, pos := "top07.go:51", after := #[{ on := 32, ground := Ground.data }, { on := 23, ground := Ground.guard }], guard := some (23, false) }) (v := .agg O) rfl (by kernel_rfl) (by kernel_rfl) (by kernel_rfl) (fun _ _ _ h => h) (yieldsIf_mid (by rfl) 30 (.tmp 190) rfl g11 (36 * i + 3) rfl O _ (fun W h => (HRi.out W h.2.2.1).2) Tryd.underlying30 rfl HSO.out) hHeld ?_
          try simp only [Act.put, List.setIfInBounds_toArray, List.set_cons_zero, List.set_cons_succ]
          refine wpAnyH_take (i := 34) (oi := { dst := some 192, op := Op.move (Operand.tmp 24), type := 3, pos := "top07.go:51", after := #[{ on := 23, ground := Ground.guard }], guard := some (23, false) }) (v := .int .i64 len0) rfl (by kernel_rfl) (by kernel_rfl) (by kernel_rfl) (fun _ _ _ h => h) (Or.inl ⟨by rfl, by intro w hSw; go_simp⟩) hHeld ?_
          try simp only [Act.put, List.setIfInBounds_toArray, List.set_cons_zero, List.set_cons_succ]
          refine wpAnyH_take (i := 35) (oi := { dst := some 193, op := Op.move (Operand.tmp 11), type := 29, pos := "top07.go:51", after := #[{ on := 23, ground := Ground.guard }], guard := some (23, false) }) (v := .slice (some ⟨g11, 0, none⟩) len0 c11) rfl (by kernel_rfl) (by kernel_rfl) (by kernel_rfl) (fun _ _ _ h => h) (Or.inl ⟨by rfl, by intro w hSw; go_simp⟩) hHeld ?_
          try simp only [Act.put, List.setIfInBounds_toArray, List.set_cons_zero, List.set_cons_succ]
          refine wpAnyH_take (i := 36) (oi := { dst := some 194, op := Op.move (Operand.tmp 24), type := 3, pos := "top07.go:51", after := #[{ on := 23, ground := Ground.guard }], guard := some (23, false) }) (v := .int .i64 len0) rfl (by kernel_rfl) (by kernel_rfl) (by kernel_rfl) (fun _ _ _ h => h) (Or.inl ⟨by rfl, by intro w hSw; go_simp⟩) hHeld ?_
          try simp only [Act.put, List.setIfInBounds_toArray, List.set_cons_zero, List.set_cons_succ]
          refine wpAnyH_take (i := 37) (oi := { dst := some 195, op := Op.binOp BinOp.sub 3 (Operand.tmp 194) (Operand.const (Value.int IntKind.i64 1)) 3, type := 3, pos := "top07.go:51", after := #[{ on := 36, ground := Ground.data }, { on := 23, ground := Ground.guard }], guard := some (23, false) }) (v := .int .i64 ((len0 : Int) - 1)) rfl (by kernel_rfl) (by kernel_rfl) (by kernel_rfl) (fun _ _ _ h => h) (Or.inl ⟨by rfl, by intro w hSw; go_simp⟩) hHeld ?_
          try simp only [Act.put, List.setIfInBounds_toArray, List.set_cons_zero, List.set_cons_succ]
          refine wpAnyH_take (i := 38) (oi := { dst := some 196, op := Op.indexAddr 29 (Operand.tmp 193) (Operand.tmp 195), type := 0, pos := "top07.go:51", after := #[{ on := 35, ground := Ground.data }, { on := 37, ground := Ground.data }, { on := 23, ground := Ground.guard }], guard := some (23, false) }) (v := .pointer (some ⟨g11, 36 * (len0 - 1), none⟩)) rfl (by kernel_rfl) (by kernel_rfl) (by kernel_rfl) (fun _ _ _ h => h) (Or.inl ⟨by rfl, by intro W hSw; have := ixn W; go_simp⟩) hHeld ?_
          try simp only [Act.put, List.setIfInBounds_toArray, List.set_cons_zero, List.set_cons_succ]
          refine wpAnyH_take (i := 39) (oi := { dst := some 197, op := Op.fieldAddr 38 (Operand.tmp 196) 3, type := 0, pos := "top07.go:51", after := #[{ on := 38, ground := Ground.data }, { on := 23, ground := Ground.guard }], guard := some (23, false) }) (v := .pointer (some ⟨g11, 36 * (len0 - 1) + 3, none⟩)) rfl (by kernel_rfl) (by kernel_rfl) (by kernel_rfl) (fun _ _ _ h => h) (Or.inl ⟨by rfl, by intro w hSw; go_simp⟩) hHeld ?_
          try simp only [Act.put, List.setIfInBounds_toArray, List.set_cons_zero, List.set_cons_succ]
          refine wpAnyH_take (i := 40) (oi := { dst := some 198, op := Op.load 30 (Operand.tmp 197), type := 30, pos := "top07.go:51", after := #[{ on := 39, ground := Ground.data }, { on := 23, ground := Ground.guard }], guard := some (23, false) }) (v := .agg R) rfl (by kernel_rfl) (by kernel_rfl) (by kernel_rfl) (fun _ _ _ h => h) (yieldsIf_mid (by rfl) 30 (.tmp 197) rfl g11 (36 * (len0 - 1) + 3) rfl R _ (fun W h => HRn.out W h.2.2.1) Tryd.underlying30 rfl HSR.out) hHeld ?_
          try simp only [Act.put, List.setIfInBounds_toArray, List.set_cons_zero, List.set_cons_succ]
          refine wpAnyH_take (i := 41) (oi := { dst := some 199, op := Op.move (Operand.tmp 28), type := 26, pos := "top07.go:51", after := #[{ on := 23, ground := Ground.guard }], guard := some (23, false) }) (v := .slice xq nq cq) rfl (by kernel_rfl) (by kernel_rfl) (by kernel_rfl) (fun _ _ _ h => h) (Or.inl ⟨by rfl, by intro w hSw; go_simp⟩) hHeld ?_
          try simp only [Act.put, List.setIfInBounds_toArray, List.set_cons_zero, List.set_cons_succ]
          refine wpAnyH_ready (rs := [42]) (by kernel_rfl) (by simp) ?_
          refine AllReadyH.cons (o := { dst := some 200, op := Op.call { callee := Callee.value (Operand.func 15), args := #[Operand.tmp 186, Operand.tmp 191, Operand.tmp 192, Operand.tmp 198, Operand.tmp 199], argTypes := #[3, 30, 3, 30, 26] }, type := 32, pos := "top07.go:51", after := #[{ on := 28, ground := Ground.data }, { on := 33, ground := Ground.data }, { on := 34, ground := Ground.data }, { on := 40, ground := Ground.data }, { on := 41, ground := Ground.data }, { on := 23, ground := Ground.chain }, { on := 23, ground := Ground.guard }], guard := some (23, false) }) rfl (fun K hK => ?_) AllReadyH.nil
          go_simp
          refine (CN.out _ _ _ _ i O R hlt HO HR hHeld.2.2.2.2 hHeld.1).mono ?_
          rintro e wn ⟨rfl, hbn⟩
          go_wp2_with fail
          refine hK.out _ _ ⟨hHeld.1.trans (hbn.mono hHeld.1.size), hHeld.2.1.keep hbn, own_below hHeld.2.2.1 hbn, hHeld.2.2.2.1.keep hbn, hHeld.2.2.2.2.keep hbn⟩ (fun hHeld => ?_)
          clear hK K
          try simp only [Act.put, List.setIfInBounds_toArray, List.set_cons_zero, List.set_cons_succ]
          refine wpAnyH_take (i := 43) (oi := { dst := some 201, op := Op.binOp BinOp.neq 32 (Operand.tmp 200) (Operand.const (Value.int IntKind.i64 0)) 32, type := 4, pos := "top07.go:51", after := #[{ on := 42, ground := Ground.data }, { on := 23, ground := Ground.guard }], guard := some (23, false) }) (v := .bool false) rfl (by kernel_rfl) (by kernel_rfl) (by kernel_rfl) (fun _ _ _ h => h) (Or.inl ⟨by rfl, by intro w hSw; go_simp⟩) hHeld ?_
          try simp only [Act.put, List.setIfInBounds_toArray, List.set_cons_zero, List.set_cons_succ]
          refine wpAnyH_take (i := 44) (oi := { dst := some 202, op := Op.pick (Operand.tmp 181) (Operand.const (Value.bool true)) (Operand.tmp 201), type := 4, pos := "top07.go:51", after := #[{ on := 23, ground := Ground.data }, { on := 43, ground := Ground.data }], guard := none }) (v := .bool false) rfl (by kernel_rfl) (by kernel_rfl) (by kernel_rfl) (fun _ _ _ h => h) (Or.inl ⟨by rfl, by intro w hSw; go_simp⟩) hHeld ?_
          try simp only [Act.put, List.setIfInBounds_toArray, List.set_cons_zero, List.set_cons_succ]
          refine wpAnyH_done (by kernel_rfl) ?_ _
          have HSd : Hid (Below w.heap.size w wn ∧ LReads wn (some ⟨g10, o10, none⟩) len0 c10 z0 ∧ wn.ownsRow (w.heap.size + 2) 38 36 (.slice (some ⟨g11, 0, none⟩) len0 c11) (hds9 a2 z0 len0).length (hdsC (hds9 a2 z0 len0))) := ⟨hHeld.1, hHeld.2.1, hHeld.2.2.1⟩
          clear hHeld HSc HRi HRn HRX ixi ixn ixl
          go_wp2_with fail
          go_roundw
          case rel => exact ⟨i + 1, by omega, by go_num, HSd⟩
          case measure => simp [intOf]; omega
        · obtain rfl : len0 = i := by omega
          have HB := hidk HS.out.1
          clear HS IN CO NC CN
          go_wp2_with fail
          refine (PV.out _ HB.out).mono ?_
          rintro e wz ⟨rfl, hbz⟩
          have HBz := hidk (HB.out.trans (hbz.mono HB.out.size))
          clear hbz HB PV
          go_wp2_with fail
          go_ret
          exact ⟨rfl, HBz.out⟩
theorem topSigned_of (hc : HeadC) (fr : FrontC) (ck : CheckC) (a0 : Option Addr) (len0 cap0 : Nat) (ss : List ByteArray) (z1 : List UInt8) (a2 a3 : Int) (w : World) (w0 : Texts w a0 len0 ss) (hl : len0 ≤ maxLen) (w1 : z1.length = 32) (hK : TabF w) :
    Calls Tryd.prog 3 #[.slice a0 len0 cap0, digV z1, .int .i64 a2, .int .i64 a3] w fun e w' => e = .returned (.bool true) ∧ Below w.heap.size w w' := by
  have hl' : len0 ≤ 9223372036854775807 := by unfold maxLen at hl; omega
  unfold digV
  by_cases h0 : 24 < len0
  · exact topSigned_bad hc ck a0 len0 cap0 a2 a3 w _ hl' hK.1 (.inl h0)
  by_cases h1 : a2 < 1
  · exact topSigned_bad hc ck a0 len0 cap0 a2 a3 w _ hl' hK.1 (.inr (.inl ⟨h0, h1⟩))
  by_cases h2 : 900000000 < a2
  · exact topSigned_bad hc ck a0 len0 cap0 a2 a3 w _ hl' hK.1 (.inr (.inr (.inl ⟨h0, h1, h2⟩)))
  by_cases h3 : a3 < 1
  · exact topSigned_bad hc ck a0 len0 cap0 a2 a3 w _ hl' hK.1 (.inr (.inr (.inr (.inl ⟨h0, h1, h2, h3⟩))))
  by_cases h4 : 3 < a3
  · exact topSigned_bad hc ck a0 len0 cap0 a2 a3 w _ hl' hK.1 (.inr (.inr (.inr (.inr ⟨h0, h1, h2, h3, h4⟩))))
  exact topSigned_good hc fr ck a0 len0 cap0 ss z1 a2 a3 w _ (hidk rfl) w0 w1 hK (by omega) (by omega) (by omega)
end Go.Proofs.YtdnhnjimhbbababDoor

/- A table of constants that is laid as the program's text lays it can be read; a digest that came in is 32 bytes. -/
namespace Go.Proofs.YtdnhnjimhbbababDoor
open Go.RowKit Sums
set_option maxRecDepth 100000
theorem table_reads {H : Type} {enc : TypeId × Value → H} {W : World} {sp : Nat → Bool} {held : Bool} {n : String} {g fuel base : Nat} {cs : Array Value} {p : List MemPlace} (hg : Tryd.prog.globalNamed n = some g) (hv : W.var? Tryd.prog n = some cs)
    (hd : DataW.trod enc Tryd.prog W base sp held fuel 138 cs.toList = some (.agg (kT.map fun z => .lit (.int .u32 z)), p)) : Table g W := by
  obtain ⟨xs, m, rfl, hx, hl, hxl, hall⟩ := DataW.trod_array Tryd.underlying138 hd
  have h1 : Tryd.prog.cellsOf 97 = 1 := by kernel_rfl
  have h64 : Tryd.prog.cellsOf 138 = 64 := by kernel_rfl
  rw [h64] at hl
  rw [h1] at hall
  simp only [Nat.mul_one] at hall
  simp only [Prod.mk.injEq, DataW.agg.injEq] at hx
  have cell : ∀ k, k < 64 → W.cell? ⟨g, k, none⟩ = some (.int .u32 (kT.getD k 0)) := by
    intro k hk
    have hkT : k < kT.length := hk
    have hk' := hall k hk
    rw [List.getElem?_eq_getElem (by omega)] at hk'
    obtain ⟨z, hz, he, _⟩ := DataW.trod_int Tryd.underlying97 hk'
    have e : (cs.toList.drop k).take 1 = [cs.toList[k]'(by omega)] := by
      rw [List.drop_eq_getElem_cons (by omega)]; rfl
    rw [e] at hz
    simp only [List.cons.injEq, and_true] at hz
    have hk2 : (kT.map fun z => (DataW.lit (.int .u32 z) : DataW H))[k]? = (xs.map (·.1))[k]? := by rw [hx.1]
    rw [List.getElem?_map, List.getElem?_map, List.getElem?_eq_getElem (show k < xs.length by omega), List.getElem?_eq_getElem hkT] at hk2
    simp only [Option.map_some, Option.some.injEq] at hk2
    rw [he] at hk2
    have hzk : kT[k]'hkT = z := (Lit.int.inj (DataW.lit.inj hk2)).2
    rw [World.var?_cell hg hv k]
    have : cs[k]? = some (cs.toList[k]'(by omega)) := by
      rw [← Array.getElem?_toList, List.getElem?_eq_getElem (by omega)]
    rw [this, hz, ← hzk]
    simp [List.getD, List.getElem?_eq_getElem hkT]
  refine ⟨World.block_lt_of_cell? _ _ (cell 0 (by decide)), cell⟩
end Go.Proofs.YtdnhnjimhbbababDoor

/- What HeadTurned says of any input, over what the calls of package head answer. -/
namespace Go.Proofs.YtdnhnjimhbbababDoor.P7
open Go.RowKit Sums Nums
set_option linter.unusedVariables false
set_option linter.unusedSimpArgs false
set_option maxRecDepth 100000
/-- A row stored in the midst of a variable. -/
theorem wpList_set_mid {P : Program} {ops : Array Oper} {rest : List Oper} {o : Oper} {a : Act} {w : World} {Q : Exit → Act → World → Prop} (hgd : o.guard = none) (ty : TypeId) (x y : Operand) (ho : o.op = .store ty x y)
    (g k : Nat) (D : Array Value) (hx : a.eval x = .pointer (some ⟨g, k, none⟩)) (hy : a.eval y = .agg D) (t' : TypeId) (Z : Array Value) (hg : w.heap[g]? = some (.cells Z t' (0, 0))) (hk : k + D.size ≤ Z.size) (hi : (P.info? ty).map (·.size) = some D.size) (h1 : D.all (·.oneCell') = true)
    (h : ∀ w', Hid (Wrote g (Z.toList.take k ++ D.toList ++ Z.toList.drop (k + D.size)).toArray t' w w') → wpList P ops Q rest (a.put o.dst undef) w') : wpList P ops Q (o :: rest) a w := by
  refine wpList_plain hgd fun K hK => ?_
  have hkk := hK _ _ (h _ (wrote_row hg))
  have h1' : ∀ v ∈ D.toList, v.oneCell' = true := by
    intro v hv
    rw [Array.all_eq_true'] at h1
    exact h1 v (by simpa using hv)
  have hst := run_storeCells_at P g k t' D.toList 0 Z w hg (by simpa using hk) h1'
  cases hq : P.info? ty with
  | none => simp [hq] at hi
  | some i =>
    have hs : i.size = D.size := by simpa [hq] using hi
    unfold Oper.wp execOp
    simp only [ho, hx, hy, Instr.storeAt, Instr.sureAddr, Sem.run_bind, Sem.run_pure, Result.andThen_ok]
    simp only [Nat.add_zero, Nat.zero_add] at hst
    simp [storeVar, sizeOf, typeInfo, hq, Value.cells, hs, hst]
    simp only [List.append_assoc] at hkk ⊢
    exact hkk
/-- A key and two heads that came in. -/
def CameT (w W : World) (M C X : Array Value) : Prop := Below w.heap.size w W ∧ W.heap[w.heap.size]? = some (.cells M 24 (0, 0)) ∧ W.heap[w.heap.size + 1]? = some (.cells C 38 (0, 0)) ∧ W.heap[w.heap.size + 2]? = some (.cells X 38 (0, 0))
theorem CameT.keep {w W W' : World} {M C X : Array Value} (h : CameT w W M C X) (hb : Below W.heap.size W W') : CameT w W' M C X :=
  ⟨h.1.trans (hb.mono h.1.size), (hb.block _ (heap_lt h.2.1)).trans h.2.1, (hb.block _ (heap_lt h.2.2.1)).trans h.2.2.1, (hb.block _ (heap_lt h.2.2.2)).trans h.2.2.2⟩
end Go.Proofs.YtdnhnjimhbbababDoor.P7

/- What a reader's own calls answer: what is left of a row, field by field. -/
namespace Go.Proofs.YtdnhnjimhbbababDoor.P7
open Go.RowKit Sums Nums
set_option linter.unusedVariables false
set_option linter.unusedSimpArgs false
set_option maxRecDepth 100000
theorem grownBy_set0 (W : World) (b : Nat) (v : Value) : W.grownBy (W.setCell ⟨b, 0, none⟩ v) (some b) :=
  ⟨rfl, rfl, rfl, by simp [World.setCell], fun k _ hk => Below.heap_setCell W ⟨b, 0, none⟩ v k (fun e => hk (by rw [e]))⟩
/-- The fields that are left of a row, by a reader's variable g; they lie in a block from lo on, below g. -/
def Rd (W : World) (lo g : Nat) (fs : List (Int × ByteArray)) : Prop :=
  ∃ a cap, W.heap[g]? = some (.cells #[.slice a fs.length cap] 73 (0, 0)) ∧ lo ≤ g ∧ fs.length ≤ cap ∧ cap ≤ 9223372036854775807 ∧ (∀ f ∈ fs, f.2.size ≤ maxLen) ∧
    (fs = [] ∨ ∃ b off, a = some ⟨b, off, none⟩ ∧ lo ≤ b ∧ b < g ∧ ∀ (i : Nat) (h : i < fs.length), W.cell? ⟨b, off + i * 2, none⟩ = some (.int .i64 fs[i].1) ∧ W.cell? ⟨b, off + i * 2 + 1, none⟩ = some (.string fs[i].2))
theorem Rd.keep {W W' : World} {lo g : Nat} {fs : List (Int × ByteArray)} (h : Rd W lo g fs) (hb : ∀ k, lo ≤ k → k ≤ g → W'.heap[k]? = W.heap[k]?) : Rd W' lo g fs := by
  obtain ⟨a, cap, h1, h2, h3, h4, h5, h6⟩ := h
  refine ⟨a, cap, (hb g h2 (Nat.le_refl _)).trans h1, h2, h3, h4, h5, ?_⟩
  rcases h6 with h6 | ⟨b, off, e, hl, hg, hc⟩
  · exact .inl h6
  · have hk := hb b hl (by omega)
    exact .inr ⟨b, off, e, hl, hg, fun i hi => ⟨(World.cell?_of_block (a := ⟨b, off + i * 2, none⟩) hk).trans (hc i hi).1, (World.cell?_of_block (a := ⟨b, off + i * 2 + 1, none⟩) hk).trans (hc i hi).2⟩⟩
theorem Rd.lt {W : World} {lo g : Nat} {fs : List (Int × ByteArray)} (h : Rd W lo g fs) : g < W.heap.size := by
  obtain ⟨a, cap, h1, _⟩ := h
  exact heap_lt h1
theorem Rd.below {W W' : World} {lo g : Nat} {fs : List (Int × ByteArray)} (h : Rd W lo g fs) (hb : Below W.heap.size W W') : Rd W' lo g fs :=
  h.keep fun k _ hk => hb.block k (Nat.lt_of_le_of_lt hk h.lt)
theorem Rd.wrote {W W' : World} {lo g k : Nat} {D : Array Value} {t : TypeId} {fs : List (Int × ByteArray)} (h : Rd W lo g fs) (hw : Wrote k D t W W') (hk : k < lo ∨ g < k) : Rd W' lo g fs :=
  h.keep fun i hi hg => hw.other i (by omega)
def tkD (tag : Int) (fs : List (Int × ByteArray)) : ByteArray := match fs with
  | f :: _ => if f.1 = tag then f.2 else ⟨#[]⟩
  | [] => ⟨#[]⟩
def tkB (tag : Int) (fs : List (Int × ByteArray)) : Bool := match fs with
  | f :: _ => decide (f.1 = tag)
  | [] => false
def tkR (tag : Int) (fs : List (Int × ByteArray)) : List (Int × ByteArray) := match fs with
  | f :: r => if f.1 = tag then r else f :: r
  | [] => []
theorem ended_any (W : World) (lo g : Nat) (fs : List (Int × ByteArray)) (h : Rd W lo g fs) (x : Bool) (hx : x = decide (fs.length = 0)) :
    Calls Tryd.prog 38 #[.pointer (some ⟨g, 0, none⟩)] W fun e w' => e = .returned (.bool x) ∧ w' = W := by
  obtain ⟨a, cap, h1, h2, h3, h4, h5, h6⟩ := h
  have hc : W.cell? ⟨g, 0, none⟩ = some (.slice a fs.length cap) := by rw [cell_of_row W g 0 _ _ (0, 0) h1]; rfl
  have hm : fs.length ≤ 9223372036854775807 := by omega
  subst hx
  cases fs with
  | nil =>
    clear h1 h2 h3 h5 h6
    simp only [List.length_nil] at hc
    go_enter Tryd.func38, Tryd.ntmps38
    go_wp2
    go_ret
    exact ⟨rfl, rfl⟩
  | cons f r =>
    clear h1 h2 h3 h5 h6
    simp only [List.length_cons] at hc hm
    go_enter Tryd.func38, Tryd.ntmps38
    go_wp2
    go_ret
    exact ⟨by simp; omega, rfl⟩
set_option maxHeartbeats 2000000 in
theorem data_any (W : World) (lo g : Nat) (fs : List (Int × ByteArray)) (tag : Int) (h : Rd W lo g fs) :
    Calls Tryd.prog 64 #[.pointer (some ⟨g, 0, none⟩), .int .i64 tag] W fun e w' => e = .returned (.tuple #[.string (tkD tag fs), .bool (tkB tag fs)]) ∧ W.grownBy w' (some g) ∧ Rd w' lo g (tkR tag fs) := by
  obtain ⟨x, hx⟩ : ∃ x, x = decide (fs.length = 0) := ⟨_, rfl⟩
  have E1 : Hid (Calls Tryd.prog 38 #[.pointer (some ⟨g, 0, none⟩)] W fun e w' => e = .returned (.bool x) ∧ w' = W) := ended_any W lo g fs h x hx
  have HR := hidk h
  obtain ⟨a, cap, h1, h2, h3, h4, h5, h6⟩ := h
  have hc : W.cell? ⟨g, 0, none⟩ = some (.slice a fs.length cap) := by rw [cell_of_row W g 0 _ _ (0, 0) h1]; rfl
  have hm : fs.length ≤ 9223372036854775807 := by omega
  cases fs with
  | nil =>
    obtain rfl : x = true := by rw [hx]; rfl
    clear h1 h2 h3 h5 h6 hx hc hm
    go_enter Tryd.func64, Tryd.ntmps64
    go_wp2_with fail
    refine E1.out.mono ?_
    rintro e w1 ⟨rfl, rfl⟩
    go_wp2
    go_ret2
    exact ⟨rfl, World.grownBy.refl _ _, HR.out⟩
  | cons f r =>
    obtain rfl : x = false := by rw [hx]; simp
    rcases h6 with h6 | ⟨b, off, rfl, hl, hg, hcs⟩
    · cases h6
    have c0 := (hcs 0 (by simp)).1
    have c1 := (hcs 0 (by simp)).2
    simp only [Nat.zero_mul, Nat.add_zero, List.getElem_cons_zero] at c0 c1
    simp only [List.length_cons] at hc hm h3
    have hfz : W.frozen? ⟨g, 0, none⟩ = false := frozen_of_row W g 0 _ _ h1
    by_cases ht : f.1 = tag
    · have HE : Hid (tkD tag (f :: r) = f.2 ∧ tkB tag (f :: r) = true ∧ tkR tag (f :: r) = r) := ⟨if_pos ht, by show decide _ = true; simpa using ht, if_pos ht⟩
      rw [HE.out.1, HE.out.2.1, HE.out.2.2]
      obtain ⟨d, hd⟩ : ∃ d, d = f.2 := ⟨_, rfl⟩
      rw [ht] at c0
      rw [← hd] at c1 ⊢
      clear HE ht hd
      by_cases hcap : cap = 1
      · obtain rfl : r = [] := List.eq_nil_of_length_eq_zero (by omega)
        subst hcap
        have HG := hidk (grownBy_set0 W g (.slice (some ⟨b, off, none⟩) 0 0))
        have HN : Hid (Rd (W.setCell ⟨g, 0, none⟩ (.slice (some ⟨b, off, none⟩) 0 0)) lo g []) :=
          ⟨some ⟨b, off, none⟩, 0, Go.heap_setCell_same W g 0 _ _ _ h1, h2, Nat.le_refl _, by omega, fun y hy => by simp at hy, .inl rfl⟩
        simp only [List.length_nil, Nat.zero_add] at hc
        clear h1 h2 h5 hx HR hcs h3 hm
        go_enter Tryd.func64, Tryd.ntmps64
        go_wp2_with fail
        refine E1.out.mono ?_
        rintro e w1 ⟨rfl, rfl⟩
        go_wp2
        go_ret2
        exact ⟨rfl, HG.out, HN.out⟩
      · have HG := hidk (grownBy_set0 W g (.slice (some ⟨b, off + 2, none⟩) r.length (cap - 1)))
        have HN : Hid (Rd (W.setCell ⟨g, 0, none⟩ (.slice (some ⟨b, off + 2, none⟩) r.length (cap - 1))) lo g r) := by
          refine ⟨some ⟨b, off + 2, none⟩, cap - 1, ?_, h2, by omega, by omega, fun y hy => h5 y (List.mem_cons_of_mem _ hy), .inr ⟨b, off + 2, rfl, hl, hg, fun i hi => ?_⟩⟩
          · exact Go.heap_setCell_same W g 0 _ _ _ h1
          · have hk := Below.heap_setCell W ⟨g, 0, none⟩ (.slice (some ⟨b, off + 2, none⟩) r.length (cap - 1)) b (by show b ≠ g; omega)
            have hh := hcs (i + 1) (by simpa using hi)
            rw [show off + (i + 1) * 2 = off + 2 + i * 2 by omega] at hh
            exact ⟨(World.cell?_of_block (a := ⟨b, off + 2 + i * 2, none⟩) hk).trans hh.1, (World.cell?_of_block (a := ⟨b, off + 2 + i * 2 + 1, none⟩) hk).trans hh.2⟩
        have hcap' : ¬ cap - 1 = 0 := by omega
        clear h1 h2 h5 hx HR hcs
        go_enter Tryd.func64, Tryd.ntmps64
        go_wp2_with fail
        refine E1.out.mono ?_
        rintro e w1 ⟨rfl, rfl⟩
        go_wp2
        go_ret2
        exact ⟨rfl, HG.out, HN.out⟩
    · have HE : Hid (tkD tag (f :: r) = ⟨#[]⟩ ∧ tkB tag (f :: r) = false ∧ tkR tag (f :: r) = f :: r) := ⟨if_neg ht, by show decide _ = false; simpa using ht, if_neg ht⟩
      rw [HE.out.1, HE.out.2.1, HE.out.2.2]
      obtain ⟨t, hd⟩ : ∃ d, d = f.1 := ⟨_, rfl⟩
      rw [← hd] at c0 ht
      clear h1 h2 h5 hx hcs HE hd c1
      go_enter Tryd.func64, Tryd.ntmps64
      go_wp2_with fail
      refine E1.out.mono ?_
      rintro e w1 ⟨rfl, rfl⟩
      go_wp2
      go_ret2
      exact ⟨rfl, World.grownBy.refl _ _, HR.out⟩
end Go.Proofs.YtdnhnjimhbbababDoor.P7

/- What the small calls of package head answer: within, Check, mayBe, numberField, digestField. -/
namespace Go.Proofs.YtdnhnjimhbbababDoor.P7
open Go.RowKit Sums Nums
set_option linter.unusedVariables false
set_option linter.unusedSimpArgs false
set_option maxRecDepth 100000
theorem hWithin_any (n a b : Int) (w : World) : Calls Tryd.prog 57 #[.int .i64 n, .int .i64 a, .int .i64 b] w fun e w' => e = .returned (.bool (decide (a ≤ n) && decide (n ≤ b))) ∧ w' = w := by
  by_cases h1 : a ≤ n
  · have d1 : decide (a ≤ n) = true := by rw [decide_eq_true_eq]; exact h1
    obtain ⟨x, hx⟩ : ∃ x, decide (n ≤ b) = x := ⟨_, rfl⟩
    rw [d1, hx]
    clear h1
    go_enter Tryd.func57, Tryd.ntmps57
    go_wp2
    go_ret
    exact ⟨rfl, rfl⟩
  · have d1 : decide (a ≤ n) = false := by rw [decide_eq_false_iff_not]; exact h1
    rw [d1]
    clear h1
    go_enter Tryd.func57, Tryd.ntmps57
    go_wp2
    go_ret
    exact ⟨rfl, rfl⟩
set_option maxHeartbeats 2000000 in
theorem hCheck_any (h : HdT) (hd : h.d.length = 32) (w : World) (C : Array Value) (HC : Hid (C = (hcells h).toArray)) :
    Calls Tryd.prog 56 #[.agg C] w fun e w' => e = .returned (.int .i64 (putE h)) ∧ Below w.heap.size w w' := by
  have HR := hrow_new w h hd C HC 38
  have HB : Hid (Below w.heap.size w (w.alloc (.cells C 38))) := (Below.refl _ _).alloc (Nat.le_refl _) _
  have c0 := HR.r
  have c1 := HR.e
  have c2 := HR.s
  have c4 := HR.t
  simp only [Nat.zero_add] at c1 c2 c4
  have hnot : ∀ (x : Bool) (w : World), (Op.unary .not (.bool x)).run Tryd.prog w = .ok (.bool (!x)) w := fun _ _ => rfl
  have WI : Hid (∀ (n a b : Int) (W : World), Calls Tryd.prog 57 #[.int .i64 n, .int .i64 a, .int .i64 b] W fun e w' => e = .returned (.bool (decide (a ≤ n) && decide (n ≤ b))) ∧ w' = W) := hWithin_any
  obtain ⟨b1, hb1⟩ : ∃ b, (decide (1 ≤ h.r) && decide (h.r ≤ 5)) = b := ⟨_, rfl⟩
  obtain ⟨b2, hb2⟩ : ∃ b, (decide (1 ≤ h.e) && decide (h.e ≤ 900000000)) = b := ⟨_, rfl⟩
  obtain ⟨b3, hb3⟩ : ∃ b, (decide (0 ≤ h.s) && decide (h.s ≤ 100000)) = b := ⟨_, rfl⟩
  obtain ⟨b4, hb4⟩ : ∃ b, (decide (0 ≤ h.t) && decide (h.t ≤ 900000000)) = b := ⟨_, rfl⟩
  have W1 := hidk (WI.out h.r 1 5)
  have W2 := hidk (WI.out h.e 1 900000000)
  have W3 := hidk (WI.out h.s 0 100000)
  have W4 := hidk (WI.out h.t 0 900000000)
  rw [hb1] at W1
  rw [hb2] at W2
  rw [hb3] at W3
  rw [hb4] at W4
  have hE : putE h = if (b1 && (b2 && (b3 && b4))) = true then 0 else 70 := by
    rw [← hb1, ← hb2, ← hb3, ← hb4]
    unfold putE rightH
    simp only [Bool.and_assoc]
  rw [hE]
  obtain ⟨r, hr⟩ : ∃ r, r = h.r := ⟨_, rfl⟩
  obtain ⟨e, he⟩ : ∃ r, r = h.e := ⟨_, rfl⟩
  obtain ⟨s, hs⟩ : ∃ r, r = h.s := ⟨_, rfl⟩
  obtain ⟨t, ht⟩ : ∃ r, r = h.t := ⟨_, rfl⟩
  rw [← hr] at c0 W1
  rw [← he] at c1 W2
  rw [← hs] at c2 W3
  rw [← ht] at c4 W4
  clear hE hb1 hb2 hb3 hb4 WI HR hr he hs ht HC
  cases b1
  · go_enter Tryd.func56, Tryd.ntmps56
    go_wp2_with fail
    refine (W1.out _).mono ?_
    rintro e w1 ⟨rfl, rfl⟩
    go_wp2
    go_ret
    exact ⟨rfl, HB.out⟩
  cases b2
  · go_enter Tryd.func56, Tryd.ntmps56
    go_wp2_with fail
    refine (W1.out _).mono ?_
    rintro e w1 ⟨rfl, rfl⟩
    go_wp2_with fail
    refine (W2.out _).mono ?_
    rintro e w1 ⟨rfl, rfl⟩
    go_wp2
    go_ret
    exact ⟨rfl, HB.out⟩
  cases b3
  · go_enter Tryd.func56, Tryd.ntmps56
    go_wp2_with fail
    refine (W1.out _).mono ?_
    rintro e w1 ⟨rfl, rfl⟩
    go_wp2_with fail
    refine (W2.out _).mono ?_
    rintro e w1 ⟨rfl, rfl⟩
    go_wp2_with fail
    refine (W3.out _).mono ?_
    rintro e w1 ⟨rfl, rfl⟩
    go_wp2
    go_ret
    exact ⟨rfl, HB.out⟩
  cases b4
  · go_enter Tryd.func56, Tryd.ntmps56
    go_wp2_with fail
    refine (W1.out _).mono ?_
    rintro e w1 ⟨rfl, rfl⟩
    go_wp2_with fail
    refine (W2.out _).mono ?_
    rintro e w1 ⟨rfl, rfl⟩
    go_wp2_with fail
    refine (W3.out _).mono ?_
    rintro e w1 ⟨rfl, rfl⟩
    go_wp2_with fail
    refine (W4.out _).mono ?_
    rintro e w1 ⟨rfl, rfl⟩
    go_wp2
    go_ret
    exact ⟨rfl, HB.out⟩
  · go_enter Tryd.func56, Tryd.ntmps56
    go_wp2_with fail
    refine (W1.out _).mono ?_
    rintro e w1 ⟨rfl, rfl⟩
    go_wp2_with fail
    refine (W2.out _).mono ?_
    rintro e w1 ⟨rfl, rfl⟩
    go_wp2_with fail
    refine (W3.out _).mono ?_
    rintro e w1 ⟨rfl, rfl⟩
    go_wp2_with fail
    refine (W4.out _).mono ?_
    rintro e w1 ⟨rfl, rfl⟩
    go_wp2
    go_ret
    exact ⟨rfl, HB.out⟩
theorem putE_ok (h : HdT) : putE h = 0 ∧ rightH h = true ∨ putE h = 70 ∧ rightH h = false := by
  unfold putE
  cases rightH h
  · exact .inr ⟨rfl, rfl⟩
  · exact .inl ⟨rfl, rfl⟩
set_option maxHeartbeats 2000000 in
theorem hMay_any (s : SgT) (hd : s.h.d.length = 32) (w : World) (C : Array Value) (HC : Hid (C = (scells s).toArray)) :
    Calls Tryd.prog 23 #[.agg C] w fun e w' => e = .returned (.bool (mayS s)) ∧ Below w.heap.size w w' := by
  have HR := hidk (srow_new w s hd C HC 40)
  have HB : Hid (Below w.heap.size w (w.alloc (.cells C 40))) := (Below.refl _ _).alloc (Nat.le_refl _) _
  obtain ⟨HCs, HHC, HSH, H36⟩ := head_row s.h hd
  have HRH : Hid ((w.alloc (.cells C 40)).rangeAt w.heap.size 0 HCs.toList) := by rw [HHC.out]; exact HR.out.h
  obtain ⟨n, Hn⟩ : ∃ n, Hid (n = s.n) := ⟨s.n, hidk rfl⟩
  obtain ⟨b2, hb2⟩ : ∃ b, (decide (1 ≤ n) && decide (n ≤ 3)) = b := ⟨_, rfl⟩
  obtain ⟨E, hE0⟩ : ∃ E, E = putE s.h := ⟨_, rfl⟩
  have R1 : Hid (∀ W, Calls Tryd.prog 56 #[.agg HCs] W fun e w' => e = .returned (.int .i64 E) ∧ Below W.heap.size W w') := fun W => by rw [hE0]; exact hCheck_any s.h hd W HCs HHC
  have W2 : Hid (∀ W, Calls Tryd.prog 57 #[.int .i64 n, .int .i64 1, .int .i64 3] W fun e w' => e = .returned (.bool b2) ∧ w' = W) := fun W => by rw [← hb2]; exact hWithin_any n 1 3 W
  have hM : mayS s = (rightH s.h && b2) := by
    rw [← hb2, Hn.out]
    unfold mayS
    rw [Bool.and_assoc]
  rw [hM]
  have hp := putE_ok s.h
  rw [← hE0] at hp
  clear hM hb2 HC hE0
  rcases hp with ⟨rfl, hr⟩ | ⟨rfl, hr⟩
  · rw [hr]
    clear hr
    go_enter Tryd.func23, Tryd.ntmps23
    go_wp2_with (first
      | (show wpList _ _ _ ({ dst := some 4, op := _, type := _, pos := _, after := _, guard := _ } :: _) _ _; refine wpList_mid rfl 38 (.tmp 3) rfl w.heap.size 0 rfl HCs _ HRH.out Tryd.underlying38 rfl HSH.out ?_; try simp only [Act.put, List.setIfInBounds_toArray, List.set_cons_zero, List.set_cons_succ])
      | fail)
    refine (R1.out _).mono ?_
    rintro e w1 ⟨rfl, hb⟩
    have HB1 := hidk (HB.out.trans (hb.mono HB.out.size))
    have hc := (HR.out.keep hb).n
    rw [← Hn.out, Nat.zero_add] at hc
    clear hb
    go_wp2_with fail
    refine (W2.out _).mono ?_
    rintro e w2 ⟨rfl, rfl⟩
    go_wp2
    go_ret
    exact ⟨rfl, HB1.out⟩
  · rw [hr]
    clear hr
    go_enter Tryd.func23, Tryd.ntmps23
    go_wp2_with (first
      | (show wpList _ _ _ ({ dst := some 4, op := _, type := _, pos := _, after := _, guard := _ } :: _) _ _; refine wpList_mid rfl 38 (.tmp 3) rfl w.heap.size 0 rfl HCs _ HRH.out Tryd.underlying38 rfl HSH.out ?_; try simp only [Act.put, List.setIfInBounds_toArray, List.set_cons_zero, List.set_cons_succ])
      | fail)
    refine (R1.out _).mono ?_
    rintro e w1 ⟨rfl, hb⟩
    have HB1 := hidk (HB.out.trans (hb.mono HB.out.size))
    clear hb
    go_wp2
    go_ret
    exact ⟨rfl, HB1.out⟩
set_option maxHeartbeats 2000000 in
theorem hNum_any (t n : Int) (w : World) : Calls Tryd.prog 29 #[.int .i64 t, .int .i64 n] w fun e w' => e = .returned (.agg #[.int .i64 t, .string (nOf n)]) ∧ Below w.heap.size w w' := by
  obtain ⟨x, Hx⟩ : ∃ x : ByteArray, Hid (x = nOf n) := ⟨nOf n, hidk rfl⟩
  obtain ⟨E, HE⟩ : ∃ E, Hid (E = neOf n) := ⟨_, hidk rfl⟩
  have N1 : Hid (∀ W, Calls Tryd.prog 62 #[.int .i64 n] W fun e w' => e = .returned (.tuple #[.string x, .int .i64 E]) ∧ Below W.heap.size W w') := fun W => by rw [Hx.out, HE.out]; exact number_any n W
  rw [← Hx.out]
  clear Hx HE
  go_enter Tryd.func29, Tryd.ntmps29
  go_wp2_with fail
  refine (N1.out _).mono ?_
  rintro e w1 ⟨rfl, hb1⟩
  have hlt : w.heap.size < w1.heap.size := by have := hb1.size; simp at this; omega
  have hg : w1.heap[w.heap.size]? = some (.cells #[.int .i64 0, .string ⟨#[]⟩] 69 (0, 0)) := (hb1.block _ (by simp)).trans (heap_alloc_new w _)
  have c0 : w1.cell? ⟨w.heap.size, 0, none⟩ = some (.int .i64 0) := by rw [cell_of_row w1 _ 0 _ 69 (0, 0) hg]; rfl
  have c1 : w1.cell? ⟨w.heap.size, 1, none⟩ = some (.string ⟨#[]⟩) := by rw [cell_of_row w1 _ 1 _ 69 (0, 0) hg]; rfl
  have HB : Hid (Below w.heap.size w w1) := ((Below.refl _ _).alloc (Nat.le_refl _) _).trans (hb1.mono (by simp))
  have f0 : w1.frozen? ⟨w.heap.size, 0, none⟩ = false := frozen_of_row w1 _ 0 _ _ hg
  have f1 : w1.frozen? ⟨w.heap.size, 1, none⟩ = false := frozen_of_row w1 _ 1 _ _ hg
  clear hb1
  have HG2 := hidk (Go.heap_setCell_same _ _ 1 _ _ (.string x) (Go.heap_setCell_same w1 _ 0 _ _ (.int .i64 t) hg))
  clear hg
  go_wp2
  refine bodyPost_ret (v := .agg #[.int .i64 t, .string x]) ?_ rfl ⟨rfl, (HB.out.setCell (Nat.le_refl _) _).setCell (Nat.le_refl _) _⟩
  exact results_cell_row (p := 4) (ty := 69) rfl _ _ w.heap.size 69 #[.int .i64 t, .string x] (0, 0) _ rfl HG2.out Tryd.underlying69 rfl (by kernel_rfl)
set_option maxHeartbeats 2000000 in
theorem hDig_any (t : Int) (d : List UInt8) (hd : d.length = 32) (w : World) (D : Array Value) (HD : Hid (D = (cellsOf d).toArray)) : Calls Tryd.prog 30 #[.int .i64 t, .agg D] w fun e w' => e = .returned (.agg #[.int .i64 t, .string (bA d)]) ∧ Below w.heap.size w w' := by
  obtain ⟨x, Hx⟩ : ∃ x : ByteArray, Hid (x = bA d) := ⟨bA d, hidk rfl⟩
  have HCV : Hid (∀ (W : World) (g : Nat), W.heap[g]? = some (.cells D 30 (0, 0)) → Sem.run Tryd.prog (convert 43 9 (.slice (some ⟨g, 0, none⟩) 32 32)) W = .ok (.string x) W) := fun W g h => by
    rw [Hx.out]
    refine conv_at W g 0 d hd fun j v hj => ?_
    rw [Nat.zero_add, cell_of_row W g j _ _ (0, 0) h, HD.out]
    simpa using hj
  have HSL := hidk slice_at
  rw [← Hx.out]
  clear Hx HD
  have hn0 : (w.alloc (.cells D 30)).heap[w.heap.size]? = some (.cells D 30 (0, 0)) := heap_alloc_new w _
  have hcv := HCV.out ((w.alloc (.cells D 30)).alloc (.cells #[.int .i64 0, .string ⟨#[]⟩] 69)) w.heap.size (heap_keep hn0)
  have hsl := HSL.out ((w.alloc (.cells D 30)).alloc (.cells #[.int .i64 0, .string ⟨#[]⟩] 69)) w.heap.size 0
  have hg := heap_alloc_new (w.alloc (.cells D 30)) (.cells #[.int .i64 0, .string ⟨#[]⟩] 69)
  rw [alloc_size] at hg
  have hg2 := heap_alloc_new (w.alloc (.cells D 30)) (.cells #[.int .i64 t, .string x] 69)
  rw [alloc_size] at hg2
  have HG2 := hidk hg2
  have HB : Hid (Below w.heap.size w ((w.alloc (.cells D 30)).alloc (.cells #[.int .i64 t, .string x] 69))) := ((Below.refl _ _).alloc (Nat.le_refl _) _).alloc (by simp) _
  clear HCV HSL hn0 hg hg2
  go_enter Tryd.func30, Tryd.ntmps30
  go_wp2
  refine bodyPost_ret (v := .agg #[.int .i64 t, .string x]) ?_ rfl ⟨rfl, HB.out⟩
  exact results_cell_row (p := 4) (ty := 69) rfl _ _ (w.heap.size + 1) 69 #[.int .i64 t, .string x] (0, 0) _ rfl HG2.out Tryd.underlying69 rfl (by kernel_rfl)
end Go.Proofs.YtdnhnjimhbbababDoor.P7

/- What a reader takes: numbers, digests; what fills a place by it. -/
namespace Go.Proofs.YtdnhnjimhbbababDoor.P7
open Go.RowKit Sums Nums
set_option linter.unusedVariables false
set_option linter.unusedSimpArgs false
set_option maxRecDepth 100000
theorem Rd.small {W : World} {lo g : Nat} {fs : List (Int × ByteArray)} (h : Rd W lo g fs) (tag : Int) : (tkD tag fs).size ≤ maxLen := by
  obtain ⟨a, cap, h1, h2, h3, h4, h5, h6⟩ := h
  cases fs with
  | nil => show (⟨#[]⟩ : ByteArray).size ≤ maxLen; unfold maxLen; decide
  | cons f r =>
    unfold tkD
    split
    · rename_i hh
      split
      · have := List.cons.inj hh
        rw [← this.1]
        exact h5 f (List.mem_cons_self ..)
      · show (⟨#[]⟩ : ByteArray).size ≤ maxLen; unfold maxLen; decide
    · show (⟨#[]⟩ : ByteArray).size ≤ maxLen; unfold maxLen; decide
theorem grown_trans {a b c : World} {r : Option Nat} (h : a.grownBy b r) (k : b.grownBy c r) : a.grownBy c r :=
  ⟨k.os.trans h.os, k.tape.trans h.tape, k.output.trans h.output, Nat.le_trans h.size k.size, fun i hi hr => (k.block i (Nat.lt_of_lt_of_le hi h.size) hr).trans (h.block i hi hr)⟩
theorem grown_below {a b : World} {r : Option Nat} (h : Below a.heap.size a b) : a.grownBy b r := ⟨h.os, h.tape, h.output, h.size, fun k hk _ => h.block k hk⟩
/-- A write above what was there. -/
theorem grown_wrote {a b c : World} {r : Option Nat} {g : Nat} {D : Array Value} {t : TypeId} (h : a.grownBy b r) (hw : Wrote g D t b c) (hg : a.heap.size ≤ g) : a.grownBy c r := by
  have hb : Below a.heap.size b c := hw.below a.heap.size b (Below.refl _ _) hg
  exact ⟨hb.os.trans h.os, hb.tape.trans h.tape, hb.output.trans h.output, Nat.le_trans h.size hb.size, fun i hi hr => (hb.block i hi).trans (h.block i hi hr)⟩
def nV (tag : Int) (fs : List (Int × ByteArray)) : Int := vOf (tkD tag fs).data.toList
def nB (tag : Int) (fs : List (Int × ByteArray)) : Bool := tkB tag fs && isNum (tkD tag fs).data.toList
set_option maxHeartbeats 2000000 in
theorem rnum_any (W : World) (lo g : Nat) (fs : List (Int × ByteArray)) (tag : Int) (h : Rd W lo g fs) :
    Calls Tryd.prog 35 #[.pointer (some ⟨g, 0, none⟩), .int .i64 tag] W fun e w' => e = .returned (.tuple #[.int .i64 (nV tag fs), .bool (nB tag fs)]) ∧ W.grownBy w' (some g) ∧ Rd w' lo g (tkR tag fs) := by
  have D1 := hidk (data_any W lo g fs tag h)
  have hs := h.small tag
  unfold nV nB
  obtain ⟨d, hd⟩ : ∃ d, d = tkD tag fs := ⟨_, rfl⟩
  obtain ⟨b, hb⟩ : ∃ b, b = tkB tag fs := ⟨_, rfl⟩
  obtain ⟨r, hr⟩ : ∃ r, r = tkR tag fs := ⟨_, rfl⟩
  rw [← hd] at hs ⊢
  rw [← hd, ← hb, ← hr] at D1
  rw [← hb, ← hr]
  obtain ⟨n, hn⟩ : ∃ n, n = vOf d.data.toList := ⟨_, rfl⟩
  obtain ⟨E, hE⟩ : ∃ n, n = eOf d.data.toList := ⟨_, rfl⟩
  have V1 : Hid (∀ W, Calls Tryd.prog 66 #[.string d] W fun e w' => e = .returned (.tuple #[.int .i64 n, .int .i64 E]) ∧ W = w') := fun W => by rw [hn, hE]; exact value_any d W hs
  rw [← hn]
  have hE2 : (E = 0 ∧ isNum d.data.toList = true) ∨ (E = 11 ∧ isNum d.data.toList = false) := by
    rw [hE]
    cases hq : isNum d.data.toList
    · exact .inr ⟨(v_no hq).2, rfl⟩
    · exact .inl ⟨(v_yes hq).2, rfl⟩
  clear hd hb hr hn hE hs h
  rcases hE2 with ⟨rfl, hq⟩ | ⟨rfl, hq⟩
  all_goals
    rw [hq]
    clear hq
    cases b
    all_goals
      go_enter Tryd.func35, Tryd.ntmps35
      go_wp2_with fail
      refine D1.out.mono ?_
      rintro e w1 ⟨rfl, hg1, hr1⟩
      have HG := hidk hg1
      have HR := hidk hr1
      clear hg1 hr1
      go_wp2_with fail
      refine (V1.out _).mono ?_
      rintro e w2 ⟨rfl, rfl⟩
      go_wp2
      go_ret2
      exact ⟨rfl, HG.out, HR.out⟩
/-- A digest's bytes copied out of a text. -/
theorem wpList_copy_text {ops : Array Oper} {rest : List Oper} {o : Oper} {a : Act} {w : World} {Q : Exit → Act → World → Prop} (hgd : o.guard = none) (s x : Operand) (hop : o.op = Op.call { callee := Callee.builtin Builtin.copy, args := #[s, x], argTypes := #[43, 9] })
    (g : Nat) (t : TypeId) (hs : a.eval s = .slice (some ⟨g, 0, none⟩) 32 32) (u : ByteArray) (hx : a.eval x = .string u) (hu : u.size = 32) (Z D : Array Value) (hZ : Z.size = 32) (HD : Hid (D = (cellsOf u.data.toList).toArray)) (hg : w.heap[g]? = some (.cells Z t (0, 0)))
    (h : ∀ w', Hid (Wrote g D t w w') → wpList Tryd.prog ops Q rest (a.put o.dst (.int .i64 32)) w') : wpList Tryd.prog ops Q (o :: rest) a w := by
  refine wpList_plain hgd fun K hK => ?_
  have hrun := Lib.run_copy_row_string (P := Tryd.prog) w 43 9 o.type 5 g 0 32 32 u Z t Tryd.underlying43 (by kernel_rfl) hg (by omega) (by omega)
  have e : (Z.toList.take 0 ++ Lib.byteCells u.data.toList ++ Z.toList.drop (0 + u.size)).toArray = D := by
    rw [HD.out, List.take_zero, List.nil_append, List.drop_of_length_le (by rw [Array.length_toList]; omega), List.append_nil]
    rfl
  rw [e, hu] at hrun
  unfold Oper.wp
  simp [execOp, hop, resolve, invoke, builtin, hs, hx, hrun, Result.andThen, goInt]
  exact hK _ _ (h _ (wrote_row hg))
def dB (tag : Int) (fs : List (Int × ByteArray)) : Bool := tkB tag fs && decide ((tkD tag fs).size = 32)
def dV (tag : Int) (fs : List (Int × ByteArray)) : List UInt8 := if dB tag fs = true then (tkD tag fs).data.toList else List.replicate 32 0
theorem dV_length (tag : Int) (fs : List (Int × ByteArray)) : (dV tag fs).length = 32 := by
  unfold dV
  split
  · rename_i h
    unfold dB at h
    simp only [Bool.and_eq_true, decide_eq_true_eq] at h
    exact h.2
  · rfl
set_option maxHeartbeats 4000000 in
theorem rdig_any (W : World) (lo g : Nat) (fs : List (Int × ByteArray)) (tag : Int) (h : Rd W lo g fs) (D : Array Value) (HD : Hid (D = (cellsOf (dV tag fs)).toArray)) :
    Calls Tryd.prog 37 #[.pointer (some ⟨g, 0, none⟩), .int .i64 tag] W fun e w' => e = .returned (.tuple #[.agg D, .bool (dB tag fs)]) ∧ W.grownBy w' (some g) ∧ Rd w' lo g (tkR tag fs) := by
  obtain ⟨Z, HZ, HA, HS, H1, H32⟩ := noughts27
  have HH := hidk h
  have D1 : Hid (∀ V, Rd V lo g fs → Calls Tryd.prog 64 #[.pointer (some ⟨g, 0, none⟩), .int .i64 tag] V fun e w' => e = .returned (.tuple #[.string (tkD tag fs), .bool (tkB tag fs)]) ∧ V.grownBy w' (some g) ∧ Rd w' lo g (tkR tag fs)) := fun V hV => data_any V lo g fs tag hV
  have hs := h.small tag
  have hlt := h.lt
  have HSD : Hid ((Tryd.prog.info? 30).map (·.size) = some D.size) := by show _ = _; rw [size23, HD.out]; simp [cellsOf_length, dV_length]
  have H1D : Hid (D.all (·.oneCell') = true) := by show _ = _; rw [HD.out]; exact cellsOf_all _
  have HZD : Hid (Z.size = D.size) := by show _ = _; rw [H32.out, HD.out]; simp [cellsOf_length, dV_length]
  have h32 : Z.size = 32 := H32.out
  have HSZ := HS
  have HDV : dB tag fs = true → Hid (D = (cellsOf (tkD tag fs).data.toList).toArray) := fun hq => by
    show _ = _
    rw [HD.out]; unfold dV; rw [if_pos hq]
  have HDZ : dB tag fs = false → Hid (D = Z) := fun hq => by
    show _ = _
    rw [HD.out, HZ.out]; unfold dV; rw [if_neg (by rw [hq]; simp)]
  have hnot : ∀ (x : Bool) (w : World), (Op.unary .not (.bool x)).run Tryd.prog w = .ok (.bool (!x)) w := fun _ _ => rfl
  unfold dB at HDV HDZ ⊢
  clear HD HZ
  obtain ⟨d, hd⟩ : ∃ d, d = tkD tag fs := ⟨_, rfl⟩
  obtain ⟨b, hb⟩ : ∃ b, b = tkB tag fs := ⟨_, rfl⟩
  obtain ⟨r, hr⟩ : ∃ r, r = tkR tag fs := ⟨_, rfl⟩
  rw [← hd] at hs
  simp only [← hd, ← hb, ← hr] at D1 HDV HDZ ⊢
  unfold maxLen at hs
  clear hd hb hr h
  cases b
  · obtain rfl := (HDZ rfl).out
    clear HDV HDZ
    go_enter Tryd.func37, Tryd.ntmps37
    go_wp2_with (first
      | (show wpList _ _ _ ({ dst := some 4, op := _, type := _, pos := _, after := _, guard := _ } :: _) _ _; refine wpList_new_var rfl 30 rfl D HA.out ?_; intro g4 w1 HM4; try simp only [Act.put, List.setIfInBounds_toArray, List.set_cons_zero, List.set_cons_succ])
      | (show wpList _ _ _ ({ dst := some 6, op := _, type := _, pos := _, after := _, guard := _ } :: _) _ _; refine wpList_new_var rfl 30 rfl D HA.out ?_; intro g6 w2 HM6; try simp only [Act.put, List.setIfInBounds_toArray, List.set_cons_zero, List.set_cons_succ])
      | fail)
    have HB2 : Hid (Below W.heap.size W w2) := HM4.out.below.trans (HM6.out.below.mono HM4.out.below.size)
    refine (D1.out w2 (HH.out.below HB2.out)).mono ?_
    rintro e w3 ⟨rfl, hg3, hr3⟩
    have HG3 := hidk (grown_trans (grown_below HB2.out) hg3)
    have HR3 := hidk hr3
    have h4 : W.heap.size ≤ g4 := Nat.le_of_eq HM4.out.new.symm
    have h6 : g4 < g6 := by have e1 := HM6.out.new; have := heap_lt HM4.out.row; omega
    have HR4 : Hid (w3.heap[g4]? = some (.cells D 30 (0, 0))) := by
      have q : w2.heap[g4]? = some (.cells D 30 (0, 0)) := (HM6.out.below.block _ (heap_lt HM4.out.row)).trans HM4.out.row
      exact (hg3.block _ (heap_lt q) (by intro e; cases e; omega)).trans q
    have HR6 : Hid (w3.heap[g6]? = some (.cells D 30 (0, 0))) := (hg3.block _ (heap_lt HM6.out.row) (by intro e; cases e; omega)).trans HM6.out.row
    clear HM4 HM6 HB2 hg3 hr3 D1 HH
    go_wp2_with (first
      | (show wpList _ _ _ ({ dst := some 22, op := _, type := _, pos := _, after := _, guard := _ } :: _) _ _; refine wpList_load_row rfl 30 (.tmp 6) rfl g6 rfl 30 D (0, 0) _ HR6.out Tryd.underlying30 rfl HSD.out ?_; try simp only [Act.put, List.setIfInBounds_toArray, List.set_cons_zero, List.set_cons_succ])
      | (refine wpList_set_var rfl 30 (.tmp 4) (.tmp 22) rfl g4 D rfl rfl 30 D HR4.out HSD.out rfl H1D.out ?_; intro w4 HW4; try simp only [Act.put, List.setIfInBounds_toArray, List.set_cons_zero, List.set_cons_succ])
      | fail)
    refine bodyPost_ret (v := .tuple #[.agg D, .bool false]) ?_ rfl ⟨rfl, ?_, HR3.out.wrote HW4.out (.inr (by omega))⟩
    · exact results_row_tmp (p := 4) (q := 5) (ty := 30) rfl _ _ g4 30 D (0, 0) _ rfl HW4.out.row Tryd.underlying30 rfl HSD.out
    · exact grown_wrote HG3.out HW4.out (by omega)
  · by_cases h2 : d.size = 32
    · have HDD := HDV (by simpa using h2)
      have hd : decide (d.size = 32) = true := by simpa using h2
      rw [hd]
      clear HDV HDZ hd
      go_enter Tryd.func37, Tryd.ntmps37
      go_wp2_with (first
        | (show wpList _ _ _ ({ dst := some 4, op := _, type := _, pos := _, after := _, guard := _ } :: _) _ _; refine wpList_new_var rfl 30 rfl Z HA.out ?_; intro g4 w1 HM4; try simp only [Act.put, List.setIfInBounds_toArray, List.set_cons_zero, List.set_cons_succ])
        | (show wpList _ _ _ ({ dst := some 6, op := _, type := _, pos := _, after := _, guard := _ } :: _) _ _; refine wpList_new_var rfl 30 rfl Z HA.out ?_; intro g6 w2 HM6; try simp only [Act.put, List.setIfInBounds_toArray, List.set_cons_zero, List.set_cons_succ])
        | fail)
      have HB2 : Hid (Below W.heap.size W w2) := HM4.out.below.trans (HM6.out.below.mono HM4.out.below.size)
      refine (D1.out w2 (HH.out.below HB2.out)).mono ?_
      rintro e w3 ⟨rfl, hg3, hr3⟩
      have HG3 := hidk (grown_trans (grown_below HB2.out) hg3)
      have HR3 := hidk hr3
      have h4 : W.heap.size ≤ g4 := Nat.le_of_eq HM4.out.new.symm
      have h6 : g4 < g6 := by have e1 := HM6.out.new; have := heap_lt HM4.out.row; omega
      have HR4 : Hid (w3.heap[g4]? = some (.cells Z 30 (0, 0))) := by
        have q : w2.heap[g4]? = some (.cells Z 30 (0, 0)) := (HM6.out.below.block _ (heap_lt HM4.out.row)).trans HM4.out.row
        exact (hg3.block _ (heap_lt q) (by intro e; cases e; omega)).trans q
      have HR6 : Hid (w3.heap[g6]? = some (.cells Z 30 (0, 0))) := (hg3.block _ (heap_lt HM6.out.row) (by intro e; cases e; omega)).trans HM6.out.row
      have hsl := slice_at w3 g6 0
      have hd2 : (d.size : Int) = 32 := by omega
      clear HM4 HM6 HB2 hg3 hr3 D1 HH hs
      go_wp2_with (first
        | (refine wpList_copy_text rfl (.tmp 23) (.tmp 24) rfl g6 30 rfl d rfl h2 Z D h32 HDD HR6.out ?_; intro w4 HW6; try simp only [Act.put, List.setIfInBounds_toArray, List.set_cons_zero, List.set_cons_succ])
        | (show wpList _ _ _ ({ dst := some 26, op := _, type := _, pos := _, after := _, guard := _ } :: _) _ _; refine wpList_load_row rfl 30 (.tmp 6) rfl g6 rfl 30 D (0, 0) _ HW6.out.row Tryd.underlying30 rfl HSD.out ?_; try simp only [Act.put, List.setIfInBounds_toArray, List.set_cons_zero, List.set_cons_succ])
        | (refine wpList_set_var rfl 30 (.tmp 4) (.tmp 26) rfl g4 D rfl rfl 30 Z ((HW6.out.other _ (by omega)).trans HR4.out) HSD.out HZD.out H1D.out ?_; intro w5 HW4; try simp only [Act.put, List.setIfInBounds_toArray, List.set_cons_zero, List.set_cons_succ])
        | fail)
      refine bodyPost_ret (v := .tuple #[.agg D, .bool true]) ?_ rfl ⟨rfl, ?_, (HR3.out.wrote HW6.out (.inr (by omega))).wrote HW4.out (.inr (by omega))⟩
      · exact results_row_tmp (p := 4) (q := 5) (ty := 30) rfl _ _ g4 30 D (0, 0) _ rfl HW4.out.row Tryd.underlying30 rfl HSD.out
      · exact grown_wrote (grown_wrote HG3.out HW6.out (by omega)) HW4.out (by omega)
    · have hd : decide (d.size = 32) = false := by simpa using h2
      rw [hd] at HDZ ⊢
      obtain rfl := (HDZ rfl).out
      clear HDV HDZ hd
      have hd2 : ¬ (d.size : Int) = 32 := by omega
      go_enter Tryd.func37, Tryd.ntmps37
      go_wp2_with (first
        | (show wpList _ _ _ ({ dst := some 4, op := _, type := _, pos := _, after := _, guard := _ } :: _) _ _; refine wpList_new_var rfl 30 rfl D HA.out ?_; intro g4 w1 HM4; try simp only [Act.put, List.setIfInBounds_toArray, List.set_cons_zero, List.set_cons_succ])
        | (show wpList _ _ _ ({ dst := some 6, op := _, type := _, pos := _, after := _, guard := _ } :: _) _ _; refine wpList_new_var rfl 30 rfl D HA.out ?_; intro g6 w2 HM6; try simp only [Act.put, List.setIfInBounds_toArray, List.set_cons_zero, List.set_cons_succ])
        | fail)
      have HB2 : Hid (Below W.heap.size W w2) := HM4.out.below.trans (HM6.out.below.mono HM4.out.below.size)
      refine (D1.out w2 (HH.out.below HB2.out)).mono ?_
      rintro e w3 ⟨rfl, hg3, hr3⟩
      have HG3 := hidk (grown_trans (grown_below HB2.out) hg3)
      have HR3 := hidk hr3
      have h4 : W.heap.size ≤ g4 := Nat.le_of_eq HM4.out.new.symm
      have h6 : g4 < g6 := by have e1 := HM6.out.new; have := heap_lt HM4.out.row; omega
      have HR4 : Hid (w3.heap[g4]? = some (.cells D 30 (0, 0))) := by
        have q : w2.heap[g4]? = some (.cells D 30 (0, 0)) := (HM6.out.below.block _ (heap_lt HM4.out.row)).trans HM4.out.row
        exact (hg3.block _ (heap_lt q) (by intro e; cases e; omega)).trans q
      have HR6 : Hid (w3.heap[g6]? = some (.cells D 30 (0, 0))) := (hg3.block _ (heap_lt HM6.out.row) (by intro e; cases e; omega)).trans HM6.out.row
      clear HM4 HM6 HB2 hg3 hr3 D1 HH h2
      go_wp2_with (first
        | (show wpList _ _ _ ({ dst := some 22, op := _, type := _, pos := _, after := _, guard := _ } :: _) _ _; refine wpList_load_row rfl 30 (.tmp 6) rfl g6 rfl 30 D (0, 0) _ HR6.out Tryd.underlying30 rfl HSD.out ?_; try simp only [Act.put, List.setIfInBounds_toArray, List.set_cons_zero, List.set_cons_succ])
        | (refine wpList_set_var rfl 30 (.tmp 4) (.tmp 22) rfl g4 D rfl rfl 30 D HR4.out HSD.out rfl H1D.out ?_; intro w4 HW4; try simp only [Act.put, List.setIfInBounds_toArray, List.set_cons_zero, List.set_cons_succ])
        | fail)
      refine bodyPost_ret (v := .tuple #[.agg D, .bool false]) ?_ rfl ⟨rfl, ?_, HR3.out.wrote HW4.out (.inr (by omega))⟩
      · exact results_row_tmp (p := 4) (q := 5) (ty := 30) rfl _ _ g4 30 D (0, 0) _ rfl HW4.out.row Tryd.underlying30 rfl HSD.out
      · exact grown_wrote HG3.out HW4.out (by omega)
end Go.Proofs.YtdnhnjimhbbababDoor.P7

/- A place that is filled by a reader's number or digest; a row that is opened. -/
namespace Go.Proofs.YtdnhnjimhbbababDoor.P7
open Go.RowKit Sums Nums
set_option linter.unusedVariables false
set_option linter.unusedSimpArgs false
set_option maxRecDepth 100000
/-- What is left as it was where one variable and a reader were written. -/
structure Went (gh g : Nat) (W W' : World) : Prop where
  below : ∀ B a, Below B a W → B ≤ gh → B ≤ g → Below B a W'
  other : ∀ k, k < W.heap.size → k ≠ gh → k ≠ g → W'.heap[k]? = W.heap[k]?
theorem went_of {gh g : Nat} {W W1 W' : World} {D : Array Value} {t : TypeId} (h : W.grownBy W1 (some g)) (hw : Wrote gh D t W1 W') (hg : g < W.heap.size) : Went gh g W W' :=
  ⟨fun B a hb h1 h2 => hw.below B a (hb.grown h (by omega) (by intro k hk; cases hk; exact h2)) h1,
   fun k hk h1 h2 => (hw.other k h1).trans (h.block k hk (by intro e; cases e; exact h2 rfl))⟩
/-- A number stored in a place of a variable. -/
theorem wpList_put64 {P : Program} {ops : Array Oper} {rest : List Oper} {o : Oper} {a : Act} {w : World} {Q : Exit → Act → World → Prop} (hgd : o.guard = none) (t : TypeId) (x y : Operand) (ho : o.op = .store t x y) (hs : ∀ w, (sizeOf t).run P w = .ok 1 w)
    (g i : Nat) (n : Int) (hx : a.eval x = .pointer (some ⟨g, i, none⟩)) (hy : a.eval y = .int .i64 n) (cs : Array Value) (t' : TypeId) (hg : w.heap[g]? = some (.cells cs t' (0, 0))) (hi : i < cs.size)
    (h : ∀ w', Hid (Wrote g (cs.setIfInBounds i (.int .i64 n)) t' w w') → wpList P ops Q rest (a.put o.dst undef) w') : wpList P ops Q (o :: rest) a w := by
  refine wpList_plain hgd fun K hK => ?_
  have hc : w.cell? ⟨g, i, none⟩ = some cs[i] := by rw [cell_of_row w g i cs t' (0, 0) hg, Array.getElem?_eq_getElem hi]
  have hf : w.frozen? ⟨g, i, none⟩ = false := frozen_of_row w g i cs t' hg
  have hrun : (Instr.storeAt t (.pointer (some ⟨g, i, none⟩)) (.int .i64 n)).run P w = .ok () (w.setCell ⟨g, i, none⟩ (.int .i64 n)) := by
    simp [go_sem, hc, hf, hs]
  unfold Oper.wp execOp
  simp only [ho, hx, hy, hrun, Sem.run_bind, Result.andThen_ok]
  exact hK _ _ (h _ (wrote_cell _ hg))
theorem sizeOf3 (w : World) : (sizeOf 3).run Tryd.prog w = .ok 1 w := by
  have h : (Tryd.prog.info? 3).map (·.size) = some 1 := by kernel_rfl
  cases hq : Tryd.prog.info? 3 with
  | none => rw [hq] at h; cases h
  | some i =>
    rw [hq] at h
    simp only [Option.map_some, Option.some.injEq] at h
    simp [sizeOf, typeInfo, hq, h]
set_option maxHeartbeats 2000000 in
theorem into_int (W : World) (lo g gh off : Nat) (fs : List (Int × ByteArray)) (tag : Int) (h : Rd W lo g fs) (C C' : Array Value) (t : TypeId) (hC : W.heap[gh]? = some (.cells C t (0, 0))) (ho : off < C.size) (hl : gh < lo) (HC' : Hid (C' = C.setIfInBounds off (.int .i64 (nV tag fs)))) :
    Calls Tryd.prog 34 #[.pointer (some ⟨gh, off, none⟩), .int .i64 tag, .func (.func 35) #[.pointer (some ⟨g, 0, none⟩)] #[]] W fun e w' =>
      e = .returned (.bool (nB tag fs)) ∧ w'.heap[gh]? = some (.cells C' t (0, 0)) ∧ Rd w' lo g (tkR tag fs) ∧ Went gh g W w' := by
  have N1 := hidk (rnum_any W lo g fs tag h)
  have hlt := h.lt
  have hgg : gh ≠ g := by obtain ⟨_, _, _, q, _⟩ := h; omega
  rw [HC'.out]
  have HC := hidk hC
  obtain ⟨n, hn⟩ : ∃ n, n = nV tag fs := ⟨_, rfl⟩
  obtain ⟨b, hb⟩ : ∃ n, n = nB tag fs := ⟨_, rfl⟩
  rw [← hn, ← hb] at N1
  rw [← hn, ← hb]
  clear HC' hn hb h hC
  go_enter Tryd.func34, Tryd.ntmps34
  go_wp2_with fail
  refine N1.out.mono ?_
  rintro e w1 ⟨rfl, hg1, hr1⟩
  have HG := hidk hg1
  have HR := hidk hr1
  have HC1 := hidk ((hg1.block _ (heap_lt HC.out) (by intro e; cases e; exact hgg rfl)).trans HC.out)
  clear hg1 hr1 HC
  go_wp2_with (first
    | (refine wpList_put64 rfl 3 (.tmp 17) (.tmp 16) rfl sizeOf3 gh off n rfl rfl C t HC1.out ho ?_; intro w2 HW; try simp only [Act.put, List.setIfInBounds_toArray, List.set_cons_zero, List.set_cons_succ])
    | fail)
  go_ret
  exact ⟨rfl, HW.out.row, HR.out.wrote HW.out (.inl hl), went_of HG.out HW.out hlt⟩
set_option maxHeartbeats 2000000 in
theorem into_dig (W : World) (lo g gh off : Nat) (fs : List (Int × ByteArray)) (tag : Int) (h : Rd W lo g fs) (C C' D : Array Value) (t : TypeId) (hC : W.heap[gh]? = some (.cells C t (0, 0))) (ho : off + 32 ≤ C.size) (hl : gh < lo) (HD : Hid (D = (cellsOf (dV tag fs)).toArray)) (HC' : Hid (C' = (C.toList.take off ++ D.toList ++ C.toList.drop (off + 32)).toArray)) :
    Calls Tryd.prog 36 #[.pointer (some ⟨gh, off, none⟩), .int .i64 tag, .func (.func 37) #[.pointer (some ⟨g, 0, none⟩)] #[]] W fun e w' =>
      e = .returned (.bool (dB tag fs)) ∧ w'.heap[gh]? = some (.cells C' t (0, 0)) ∧ Rd w' lo g (tkR tag fs) ∧ Went gh g W w' := by
  obtain ⟨Z, HZ, HA, HS, H1, H32⟩ := noughts27
  have N1 := hidk (rdig_any W lo g fs tag h D HD)
  have hlt := h.lt
  have HSD : Hid ((Tryd.prog.info? 30).map (·.size) = some D.size) := by show _ = _; rw [size23, HD.out]; simp [cellsOf_length, dV_length]
  have H1D : Hid (D.all (·.oneCell') = true) := by show _ = _; rw [HD.out]; exact cellsOf_all _
  have HZD : Hid (Z.size = D.size) := by show _ = _; rw [H32.out, HD.out]; simp [cellsOf_length, dV_length]
  have HD32 : Hid (D.size = 32) := by show _ = _; rw [HD.out]; simp [cellsOf_length, dV_length]
  have hgg : gh ≠ g := by obtain ⟨_, _, _, q, _⟩ := h; omega
  have HCC : Hid (C' = (C.toList.take off ++ D.toList ++ C.toList.drop (off + D.size)).toArray) := by show _ = _; rw [HD32.out, HC'.out]
  have HOO : Hid (off + D.size ≤ C.size) := by show _ ≤ _; rw [HD32.out]; exact ho
  have HC := hidk hC
  obtain ⟨b, hb⟩ : ∃ n, n = dB tag fs := ⟨_, rfl⟩
  rw [← hb] at N1
  rw [← hb]
  clear HC' hb hC HD HD32 HZ ho
  go_enter Tryd.func36, Tryd.ntmps36
  go_wp2_with fail
  refine N1.out.mono ?_
  rintro e w1 ⟨rfl, hg1, hr1⟩
  have HG := hidk hg1
  have HR := hidk hr1
  have HC1 := hidk ((hg1.block _ (heap_lt HC.out) (by intro e; cases e; exact hgg rfl)).trans HC.out)
  have hs1 := hg1.size
  clear hg1 hr1 h
  go_wp2_with (first
    | (show wpList _ _ _ ({ dst := some 7, op := _, type := _, pos := _, after := _, guard := _ } :: _) _ _; refine wpList_new_var rfl 30 rfl Z HA.out ?_; intro g7 w2 HM7; try simp only [Act.put, List.setIfInBounds_toArray, List.set_cons_zero, List.set_cons_succ])
    | (refine wpList_set_var rfl 30 (.tmp 7) (.tmp 13) rfl g7 D rfl rfl 30 Z HM7.out.row HSD.out HZD.out H1D.out ?_; intro w3 HW7; try simp only [Act.put, List.setIfInBounds_toArray, List.set_cons_zero, List.set_cons_succ])
    | (show wpList _ _ _ ({ dst := some 16, op := _, type := _, pos := _, after := _, guard := _ } :: _) _ _; refine wpList_load_row rfl 30 (.tmp 7) rfl g7 rfl 30 D (0, 0) _ HW7.out.row Tryd.underlying30 rfl HSD.out ?_; try simp only [Act.put, List.setIfInBounds_toArray, List.set_cons_zero, List.set_cons_succ])
    | (refine wpList_set_mid rfl 30 (.tmp 17) (.tmp 16) rfl gh off D rfl rfl t C ((HW7.out.other _ (by have e1 := HM7.out.new; have := heap_lt HC1.out; omega)).trans ((HM7.out.below.block _ (heap_lt HC1.out)).trans HC1.out)) HOO.out HSD.out H1D.out ?_; intro w4 HW; try simp only [Act.put, List.setIfInBounds_toArray, List.set_cons_zero, List.set_cons_succ])
    | fail)
  have h7 : w1.heap.size ≤ g7 := Nat.le_of_eq HM7.out.new.symm
  have HG2 := hidk (grown_wrote (grown_trans HG.out (grown_below HM7.out.below)) HW7.out (Nat.le_trans HG.out.size h7))
  have hb1 := HR.out.lt
  go_ret
  refine ⟨rfl, ?_, ((HR.out.below HM7.out.below).wrote HW7.out (.inr (by omega))).wrote HW.out (.inl hl), went_of HG2.out HW.out hlt⟩
  rw [HCC.out]
  exact HW.out.row
/-- A row that is opened: its fields lie in a new block. -/
def Lie (W : World) (lo : Nat) (a : Option Addr) (cap : Nat) (fs : List (Int × ByteArray)) : Prop :=
  fs.length ≤ cap ∧ cap ≤ 9223372036854775807 ∧ (∀ f ∈ fs, f.2.size ≤ maxLen) ∧
    (fs = [] ∨ ∃ b off, a = some ⟨b, off, none⟩ ∧ lo ≤ b ∧ b < W.heap.size ∧ ∀ (i : Nat) (h : i < fs.length), W.cell? ⟨b, off + i * 2, none⟩ = some (.int .i64 fs[i].1) ∧ W.cell? ⟨b, off + i * 2 + 1, none⟩ = some (.string fs[i].2))
theorem rd_new {W : World} {lo : Nat} {a : Option Addr} {cap : Nat} {fs : List (Int × ByteArray)} (h : Lie W lo a cap fs) (hl : lo ≤ W.heap.size) : Rd (W.alloc (.cells #[.slice a fs.length cap] 73)) lo W.heap.size fs := by
  obtain ⟨h1, h2, h3, h4⟩ := h
  refine ⟨a, cap, heap_alloc_new W _, hl, h1, h2, h3, ?_⟩
  rcases h4 with h4 | ⟨b, off, e, hlo, hlt, hc⟩
  · exact .inl h4
  · have hk := Below.heap_alloc W (.cells #[.slice a fs.length cap] 73) b hlt
    exact .inr ⟨b, off, e, hlo, hlt, fun i hi => ⟨(World.cell?_of_block (a := ⟨b, off + i * 2, none⟩) hk).trans (hc i hi).1, (World.cell?_of_block (a := ⟨b, off + i * 2 + 1, none⟩) hk).trans (hc i hi).2⟩⟩
theorem lie_own {w : World} {B : Nat} {v : Value} {fs : List (Int × ByteArray)} (h : w.ownsRow B 69 2 v fs.length (fcells fs)) (hm : ∀ f ∈ fs, f.2.size ≤ maxLen) : ∃ a cap, v = .slice a fs.length cap ∧ Lie w B a cap fs := by
  obtain ⟨a, cap, rfl, h1, h2, h3, h4, h5⟩ := freads_own h hm
  refine ⟨a, cap, rfl, h2, h3, hm, ?_⟩
  cases fs with
  | nil => exact .inl rfl
  | cons f r =>
    rcases h5 with ⟨rfl, e⟩ | ⟨ad, rfl, e⟩ | ⟨b, off, rfl, hlt, hc⟩
    · simp at h2; omega
    · simp at e
    · refine .inr ⟨b, off, rfl, ?_, hlt, hc⟩
      rcases h.2 with ⟨e, h0⟩ | ⟨g, cap', cur, e, hb, _⟩
      · simp at h0
      · cases e; exact hb
set_option maxHeartbeats 2000000 in
theorem open_any (a : Option Addr) (len cap : Nat) (bs : List UInt8) (w : World) (hR : Reads w a len cap bs) (hl : len ≤ 1000000) :
    Calls Tryd.prog 31 #[.slice a len cap] w fun e w' => ∃ x c, e = .returned (.slice x (readF bs).length c) ∧ Lie w' w.heap.size x c (readF bs) ∧ Below w.heap.size w w' := by
  have R1 : Hid (Calls Tryd.prog 63 #[.slice a len cap] w fun e W' => ∃ x c, e = .returned (.tuple #[.slice x (readF bs).length c, .int .i64 (readE bs)]) ∧ Lie W' w.heap.size x c (readF bs) ∧ Below w.heap.size w W') := by
    refine (read_any a len cap bs w hR hl).mono ?_
    rintro e W' ⟨v, rfl, hown, hb⟩
    obtain ⟨x, c, rfl, hlie⟩ := lie_own hown (readF_small bs)
    exact ⟨x, c, rfl, hlie, hb⟩
  obtain ⟨fs, hfs⟩ : ∃ fs, fs = readF bs := ⟨_, rfl⟩
  obtain ⟨E, hE⟩ : ∃ E : Int, E = readE bs := ⟨_, rfl⟩
  rw [← hfs, ← hE] at R1
  rw [← hfs]
  clear hfs hE hR
  go_enter Tryd.func31, Tryd.ntmps31
  go_wp2_with fail
  refine R1.out.mono ?_
  rintro e w1 ⟨x, c, rfl, hl1, hb1⟩
  have HL := hidk hl1
  have HB := hidk hb1
  clear hl1 hb1
  go_wp2
  go_ret
  exact ⟨x, c, rfl, HL.out, HB.out⟩
end Go.Proofs.YtdnhnjimhbbababDoor.P7

/- What head.Get answers. -/
namespace Go.Proofs.YtdnhnjimhbbababDoor.P7
open Go.RowKit Sums Nums
set_option linter.unusedVariables false
set_option linter.unusedSimpArgs false
set_option maxRecDepth 100000
theorem tk_shape {tag : Int} {fs : List (Int × ByteArray)} (h : tkB tag fs = true) : fs = (tag, tkD tag fs) :: tkR tag fs := by
  cases fs with
  | nil => cases h
  | cons f r =>
    have e : f.1 = tag := by simpa [tkB] using h
    have e1 : tkD tag (f :: r) = f.2 := if_pos e
    have e2 : tkR tag (f :: r) = r := if_pos e
    rw [e1, e2, ← e]
theorem tkB_hit (tag : Int) (d : ByteArray) (r : List (Int × ByteArray)) : tkB tag ((tag, d) :: r) = true := by simp [tkB]
theorem tkD_hit (tag : Int) (d : ByteArray) (r : List (Int × ByteArray)) : tkD tag ((tag, d) :: r) = d := if_pos rfl
theorem tkR_hit (tag : Int) (d : ByteArray) (r : List (Int × ByteArray)) : tkR tag ((tag, d) :: r) = r := if_pos rfl
theorem nB_hit (tag : Int) (d : ByteArray) (r : List (Int × ByteArray)) : nB tag ((tag, d) :: r) = isNum d.data.toList := by unfold nB; rw [tkB_hit, tkD_hit, Bool.true_and]
theorem nV_hit (tag : Int) (d : ByteArray) (r : List (Int × ByteArray)) : nV tag ((tag, d) :: r) = vOf d.data.toList := by unfold nV; rw [tkD_hit]
theorem dB_hit (tag : Int) (d : ByteArray) (r : List (Int × ByteArray)) : dB tag ((tag, d) :: r) = decide (d.size = 32) := by unfold dB; rw [tkB_hit, tkD_hit, Bool.true_and]
theorem nB_tk {tag : Int} {fs : List (Int × ByteArray)} (h : nB tag fs = true) : tkB tag fs = true ∧ isNum (tkD tag fs).data.toList = true := by unfold nB at h; simpa using h
theorem dB_tk {tag : Int} {fs : List (Int × ByteArray)} (h : dB tag fs = true) : tkB tag fs = true ∧ (tkD tag fs).size = 32 := by unfold dB at h; simpa using h
theorem nV_val {tag : Int} {fs : List (Int × ByteArray)} (h : nB tag fs = true) : nV tag fs = valO (tkD tag fs).data.toList := by
  unfold nV vOf valO
  rw [if_pos (nB_tk h).2, if_pos (nB_tk h).2]
theorem valO_num {l : List UInt8} (h : 0 ≤ valO l) : isNum l = true := by
  unfold valO at h
  split at h
  · assumption
  · omega
theorem dV_yes {tag : Int} {fs : List (Int × ByteArray)} (h : dB tag fs = true) : dV tag fs = (tkD tag fs).data.toList := if_pos h
theorem readF_none {bs : List UInt8} (h : readE bs ≠ 0) : readF bs = [] := by unfold readF; rw [if_neg h]
theorem partsO_fields {bs : List UInt8} {n : Nat} {l : List ByteArray} (h : partsO bs n = some l) : readE bs = 0 ∧ readF bs = fieldsN l ∧ l.length = n := by
  obtain ⟨h1, _, _⟩ := row_parts h
  unfold partsO at h
  split at h
  · rename_i hh
    have hl : (readF bs).map (·.2) = l := Option.some.inj h
    refine ⟨hh.1, ?_, h1⟩
    unfold fieldsN
    rw [h1, ← hh.2, ← hl, zip_fst_snd]
  · cases h
theorem partsO_of {bs : List UInt8} {l : List ByteArray} (h : readE bs = 0) (hf : readF bs = fieldsN l) : partsO bs l.length = some l := by
  unfold partsO
  rw [hf, if_pos ⟨h, fieldsN_fst l⟩, fieldsN_snd]
/-- What is filled in, one behind the other. -/
def seqH (f0 : List (Int × ByteArray)) : HdT := ⟨nV 1 f0, nV 2 (tkR 1 f0), nV 3 (tkR 2 (tkR 1 f0)), dV 4 (tkR 3 (tkR 2 (tkR 1 f0))), nV 5 (tkR 4 (tkR 3 (tkR 2 (tkR 1 f0))))⟩
def allH (f0 : List (Int × ByteArray)) : Bool := nB 1 f0 && (nB 2 (tkR 1 f0) && (nB 3 (tkR 2 (tkR 1 f0)) && (dB 4 (tkR 3 (tkR 2 (tkR 1 f0))) && (nB 5 (tkR 4 (tkR 3 (tkR 2 (tkR 1 f0)))) && (decide ((tkR 5 (tkR 4 (tkR 3 (tkR 2 (tkR 1 f0))))).length = 0) && rightH (seqH f0))))))
theorem get_seq (bs : List UInt8) : getO bs = if allH (readF bs) = true then some (seqH (readF bs)) else none := by
  by_cases h0 : readE bs = 0
  · by_cases ha : allH (readF bs) = true
    · rw [if_pos ha]
      obtain ⟨f0, hf0⟩ : ∃ f, f = readF bs := ⟨_, rfl⟩
      rw [← hf0] at ha ⊢
      have ha' := ha
      unfold allH at ha
      simp only [Bool.and_eq_true, decide_eq_true_eq] at ha
      obtain ⟨a1, a2, a3, a4, a5, a6, a7⟩ := ha
      have s1 := tk_shape (nB_tk a1).1
      have s2 := tk_shape (nB_tk a2).1
      have s3 := tk_shape (nB_tk a3).1
      have s4 := tk_shape (dB_tk a4).1
      have s5 := tk_shape (nB_tk a5).1
      have s6 := List.eq_nil_of_length_eq_zero a6
      have hh : seqH f0 = headOf (tkD 1 f0) (tkD 2 (tkR 1 f0)) (tkD 3 (tkR 2 (tkR 1 f0))) (tkD 4 (tkR 3 (tkR 2 (tkR 1 f0)))) (tkD 5 (tkR 4 (tkR 3 (tkR 2 (tkR 1 f0))))) := by
        unfold seqH headOf
        rw [nV_val a1, nV_val a2, nV_val a3, nV_val a5, dV_yes a4]
      have hx := (dB_tk a4).2
      obtain ⟨x1, e1⟩ : ∃ x, x = tkD 1 f0 := ⟨_, rfl⟩
      obtain ⟨x2, e2⟩ : ∃ x, x = tkD 2 (tkR 1 f0) := ⟨_, rfl⟩
      obtain ⟨x3, e3⟩ : ∃ x, x = tkD 3 (tkR 2 (tkR 1 f0)) := ⟨_, rfl⟩
      obtain ⟨x4, e4⟩ : ∃ x, x = tkD 4 (tkR 3 (tkR 2 (tkR 1 f0))) := ⟨_, rfl⟩
      obtain ⟨x5, e5⟩ : ∃ x, x = tkD 5 (tkR 4 (tkR 3 (tkR 2 (tkR 1 f0)))) := ⟨_, rfl⟩
      rw [← e1, ← e2, ← e3, ← e4, ← e5] at hh
      rw [← e4] at hx
      have hs : readF bs = fieldsN [x1, x2, x3, x4, x5] := by
        rw [s6, ← e5] at s5
        rw [s5, ← e4] at s4
        rw [s4, ← e3] at s3
        rw [s3, ← e2] at s2
        rw [s2, ← e1] at s1
        rw [← hf0, s1]
        rfl
      have hp : partsO bs 5 = some [x1, x2, x3, x4, x5] := partsO_of h0 hs
      unfold getO
      rw [hp]
      show (if x4.size = 32 ∧ rightH (headOf x1 x2 x3 x4 x5) = true then some (headOf x1 x2 x3 x4 x5) else none) = _
      rw [← hh, if_pos ⟨hx, a7⟩]
    · rw [if_neg ha]
      cases hg : getO bs with
      | none => rfl
      | some h =>
        exfalso
        apply ha
        unfold getO at hg
        split at hg
        · rename_i x1 x2 x3 x4 x5 hp
          split at hg
          · rename_i hh
            have hr := (rightH_iff _).1 hh.2
            have hf := (partsO_fields hp).2.1
            rw [hf]
            unfold headOf at hr
            simp only at hr
            have n1 := valO_num (l := x1.data.toList) (by omega)
            have n2 := valO_num (l := x2.data.toList) (by omega)
            have n3 := valO_num (l := x3.data.toList) (by omega)
            have n5 := valO_num (l := x5.data.toList) (by omega)
            have hq : seqH (fieldsN [x1, x2, x3, x4, x5]) = headOf x1 x2 x3 x4 x5 := by
              show seqH [((1 : Int), x1), (2, x2), (3, x3), (4, x4), (5, x5)] = _
              unfold seqH headOf
              simp only [tkR_hit, nV_hit]
              rw [dV_yes (by rw [dB_hit]; simpa using hh.1), tkD_hit]
              unfold vOf valO
              rw [if_pos n1, if_pos n2, if_pos n3, if_pos n5, if_pos n1, if_pos n2, if_pos n3, if_pos n5]
            show allH [((1 : Int), x1), (2, x2), (3, x3), (4, x4), (5, x5)] = true
            have hq' : seqH [((1 : Int), x1), (2, x2), (3, x3), (4, x4), (5, x5)] = headOf x1 x2 x3 x4 x5 := hq
            unfold allH
            rw [hq']
            simp only [tkR_hit, nB_hit, dB_hit, n1, n2, n3, n5, hh.2, List.length_nil, Bool.true_and, Bool.and_true, decide_true]
            simpa using hh.1
          · cases hg
        · cases hg
  · have hf := readF_none h0
    have hg : getO bs = none := by
      cases hg : partsO bs 5 with
      | none => unfold getO; rw [hg]
      | some l => exact absurd (partsO_fields hg).1 h0
    rw [hg, hf, if_neg]
    intro h
    cases h
/-- What a walk of Get keeps: the answer's variable, the variable that is filled, the reader. -/
structure GtS (w W : World) (g2 g4 g5 lo : Nat) (Z C : Array Value) (T : TypeId) (fs : List (Int × ByteArray)) : Prop where
  below : Below w.heap.size w W
  r2 : W.heap[g2]? = some (.cells Z T (0, 0))
  r4 : W.heap[g4]? = some (.cells C T (0, 0))
  rd : Rd W lo g5 fs
  o2 : w.heap.size ≤ g2
  o4 : g2 < g4
  ol : g4 < lo
  o5 : lo ≤ g5
theorem GtS.went {w W W' : World} {g2 g4 g5 lo : Nat} {Z C C' : Array Value} {T : TypeId} {fs fs' : List (Int × ByteArray)} (h : GtS w W g2 g4 g5 lo Z C T fs) (hr : W'.heap[g4]? = some (.cells C' T (0, 0))) (hd : Rd W' lo g5 fs') (hw : Went g4 g5 W W') : GtS w W' g2 g4 g5 lo Z C' T fs' := by
  have := h.o2
  have := h.o4
  have := h.ol
  have := h.o5
  exact ⟨hw.below _ _ h.below (by omega) (by omega), (hw.other _ (heap_lt h.r2) (by omega) (by omega)).trans h.r2, hr, hd, h.o2, h.o4, h.ol, h.o5⟩
theorem GtS.keep {w W W' : World} {g2 g4 g5 lo : Nat} {Z C : Array Value} {T : TypeId} {fs : List (Int × ByteArray)} (h : GtS w W g2 g4 g5 lo Z C T fs) (hb : Below W.heap.size W W') : GtS w W' g2 g4 g5 lo Z C T fs :=
  ⟨h.below.trans (hb.mono h.below.size), (hb.block _ (heap_lt h.r2)).trans h.r2, (hb.block _ (heap_lt h.r4)).trans h.r4, h.rd.below hb, h.o2, h.o4, h.ol, h.o5⟩
theorem gt_int {w W : World} {g2 g4 g5 lo : Nat} {Z C C' : Array Value} {T : TypeId} {fs fs' : List (Int × ByteArray)} (tag : Int) (off : Nat) (b : Bool) (h : GtS w W g2 g4 g5 lo Z C T fs) (ho : off < C.size) (hC : C' = C.setIfInBounds off (.int .i64 (nV tag fs))) (hb : b = nB tag fs) (hf : fs' = tkR tag fs) :
    Calls Tryd.prog 34 #[.pointer (some ⟨g4, off, none⟩), .int .i64 tag, .func (.func 35) #[.pointer (some ⟨g5, 0, none⟩)] #[]] W fun e w' => e = .returned (.bool b) ∧ GtS w w' g2 g4 g5 lo Z C' T fs' := by
  subst hb hf
  refine (into_int W lo g5 g4 off fs tag h.rd C C' T h.r4 ho h.ol hC).mono ?_
  rintro e w' ⟨rfl, h1, h2, h3⟩
  exact ⟨rfl, h.went h1 h2 h3⟩
theorem gt_dig {w W : World} {g2 g4 g5 lo : Nat} {Z C C' : Array Value} {T : TypeId} {fs fs' : List (Int × ByteArray)} (tag : Int) (off : Nat) (b : Bool) (h : GtS w W g2 g4 g5 lo Z C T fs) (ho : off + 32 ≤ C.size) (hC : C' = (C.toList.take off ++ cellsOf (dV tag fs) ++ C.toList.drop (off + 32)).toArray) (hb : b = dB tag fs) (hf : fs' = tkR tag fs) :
    Calls Tryd.prog 36 #[.pointer (some ⟨g4, off, none⟩), .int .i64 tag, .func (.func 37) #[.pointer (some ⟨g5, 0, none⟩)] #[]] W fun e w' => e = .returned (.bool b) ∧ GtS w w' g2 g4 g5 lo Z C' T fs' := by
  subst hb hf
  refine (into_dig W lo g5 g4 off fs tag h.rd C C' (cellsOf (dV tag fs)).toArray T h.r4 ho h.ol (hidk rfl) (by show _ = _; rw [hC])).mono ?_
  rintro e w' ⟨rfl, h1, h2, h3⟩
  exact ⟨rfl, h.went h1 h2 h3⟩
theorem gt_ended {w W : World} {g2 g4 g5 lo : Nat} {Z C : Array Value} {T : TypeId} {fs : List (Int × ByteArray)} (b : Bool) (h : GtS w W g2 g4 g5 lo Z C T fs) (hb : b = decide (fs.length = 0)) :
    Calls Tryd.prog 38 #[.pointer (some ⟨g5, 0, none⟩)] W fun e w' => e = .returned (.bool b) ∧ GtS w w' g2 g4 g5 lo Z C T fs := by
  refine (ended_any W lo g5 fs h.rd b hb).mono ?_
  rintro e w' ⟨rfl, rfl⟩
  exact ⟨rfl, h⟩
/-! A head's cells, filled in one by one. -/
theorem cells_r (h : HdT) (v : Int) : (hcells h).toArray.setIfInBounds 0 (.int .i64 v) = (hcells ⟨v, h.e, h.s, h.d, h.t⟩).toArray := rfl
theorem cells_e (h : HdT) (v : Int) : (hcells h).toArray.setIfInBounds 1 (.int .i64 v) = (hcells ⟨h.r, v, h.s, h.d, h.t⟩).toArray := rfl
theorem cells_s (h : HdT) (v : Int) : (hcells h).toArray.setIfInBounds 2 (.int .i64 v) = (hcells ⟨h.r, h.e, v, h.d, h.t⟩).toArray := rfl
theorem cells_d (h : HdT) (d : List UInt8) (hd : h.d.length = 32) : ((hcells h).toArray.toList.take 3 ++ cellsOf d ++ (hcells h).toArray.toList.drop (3 + 32)).toArray = (hcells ⟨h.r, h.e, h.s, d, h.t⟩).toArray := by
  unfold hcells
  congr 1
  simp [List.drop_append, cellsOf_length, hd]
theorem cells_t (h : HdT) (v : Int) (hd : h.d.length = 32) : (hcells h).toArray.setIfInBounds 35 (.int .i64 v) = (hcells ⟨h.r, h.e, h.s, h.d, v⟩).toArray := by
  unfold hcells
  rw [List.setIfInBounds_toArray]
  congr 1
  rw [List.set_append_right _ _ (by simp [cellsOf_length, hd])]
  simp [cellsOf_length, hd]
set_option maxHeartbeats 8000000 in
theorem hGet_any (a : Option Addr) (len cap : Nat) (bs : List UInt8) (w : World) (hR : Reads w a len cap bs) (hl : len ≤ 1000000) (R : Array Value) (HR : Hid (R = (hcells (getHO bs)).toArray)) :
    Calls Tryd.prog 65 #[.slice a len cap] w fun e w' => e = .returned (.tuple #[.agg R, .int .i64 (getHE bs)]) ∧ Below w.heap.size w w' := by
  obtain ⟨Z, HZ, HA, HBZ, H36⟩ := noughtsH
  have HSZ : Hid ((Tryd.prog.info? 38).map (·.size) = some Z.size) := by show _ = _; rw [sizeH, H36.out]
  have H1Z : Hid (Z.all (·.oneCell') = true) := by show _ = _; rw [HZ.out]; exact one_cells _
  have hnot : ∀ (x : Bool) (w : World), (Op.unary .not (.bool x)).run Tryd.prog w = .ok (.bool (!x)) w := fun _ _ => rfl
  obtain ⟨f0, hf0⟩ : ∃ f, f = readF bs := ⟨_, rfl⟩
  obtain ⟨f1, hf1⟩ : ∃ f, f = tkR 1 f0 := ⟨_, rfl⟩
  obtain ⟨f2, hf2⟩ : ∃ f, f = tkR 2 f1 := ⟨_, rfl⟩
  obtain ⟨f3, hf3⟩ : ∃ f, f = tkR 3 f2 := ⟨_, rfl⟩
  obtain ⟨f4, hf4⟩ : ∃ f, f = tkR 4 f3 := ⟨_, rfl⟩
  obtain ⟨f5, hf5⟩ : ∃ f, f = tkR 5 f4 := ⟨_, rfl⟩
  obtain ⟨C1, hC1⟩ : ∃ C, C = (hcells ⟨(nV 1 f0), 0, 0, (List.replicate 32 0), 0⟩).toArray := ⟨_, rfl⟩
  obtain ⟨C2, hC2⟩ : ∃ C, C = (hcells ⟨(nV 1 f0), (nV 2 f1), 0, (List.replicate 32 0), 0⟩).toArray := ⟨_, rfl⟩
  obtain ⟨C3, hC3⟩ : ∃ C, C = (hcells ⟨(nV 1 f0), (nV 2 f1), (nV 3 f2), (List.replicate 32 0), 0⟩).toArray := ⟨_, rfl⟩
  obtain ⟨C4, hC4⟩ : ∃ C, C = (hcells ⟨(nV 1 f0), (nV 2 f1), (nV 3 f2), (dV 4 f3), 0⟩).toArray := ⟨_, rfl⟩
  obtain ⟨C5, hC5⟩ : ∃ C, C = (hcells ⟨(nV 1 f0), (nV 2 f1), (nV 3 f2), (dV 4 f3), (nV 5 f4)⟩).toArray := ⟨_, rfl⟩
  obtain ⟨b1, hb1⟩ : ∃ b, b = nB 1 f0 := ⟨_, rfl⟩
  obtain ⟨b2, hb2⟩ : ∃ b, b = nB 2 f1 := ⟨_, rfl⟩
  obtain ⟨b3, hb3⟩ : ∃ b, b = nB 3 f2 := ⟨_, rfl⟩
  obtain ⟨b4, hb4⟩ : ∃ b, b = dB 4 f3 := ⟨_, rfl⟩
  obtain ⟨b5, hb5⟩ : ∃ b, b = nB 5 f4 := ⟨_, rfl⟩
  obtain ⟨b6, hb6⟩ : ∃ b, b = decide (f5.length = 0) := ⟨_, rfl⟩
  obtain ⟨br, hbr⟩ : ∃ b, b = rightH (seqH f0) := ⟨_, rfl⟩
  have hq : seqH f0 = ⟨(nV 1 f0), (nV 2 f1), (nV 3 f2), (dV 4 f3), (nV 5 f4)⟩ := by unfold seqH; rw [hf4, hf3, hf2, hf1]
  have hall : allH f0 = (b1 && (b2 && (b3 && (b4 && (b5 && (b6 && br)))))) := by
    unfold allH
    rw [hb1, hb2, hb3, hb4, hb5, hb6, hbr, hf5, hf4, hf3, hf2, hf1]
  have hget := get_seq bs
  rw [← hf0, hall] at hget
  obtain ⟨K, hKK⟩ : ∃ K, K = getHE bs := ⟨_, rfl⟩
  rw [← hKK]
  have HF : Hid ((b1 && (b2 && (b3 && (b4 && (b5 && (b6 && br)))))) = false → R = Z ∧ K = 70) := fun hh => by
    rw [hh] at hget
    have hget : getO bs = none := hget
    rw [HR.out, HZ.out, hKK]
    unfold getHO getHE
    rw [hget]
    exact ⟨rfl, rfl⟩
  have HT : Hid ((b1 && (b2 && (b3 && (b4 && (b5 && (b6 && br)))))) = true → R = C5 ∧ K = 0) := fun hh => by
    rw [hh] at hget
    have hget : getO bs = some (seqH f0) := hget
    rw [HR.out, hC5, hKK]
    unfold getHO getHE
    rw [hget, hq]
    exact ⟨rfl, rfl⟩
  have O1 : Hid (∀ W, Below w.heap.size w W → Calls Tryd.prog 31 #[.slice a len cap] W fun e w' => ∃ x c, e = .returned (.slice x f0.length c) ∧ Lie w' W.heap.size x c f0 ∧ Below W.heap.size W w') := fun W hb => by rw [hf0]; exact open_any a len cap bs W (hR.below hb) hl
  have I1 : Hid (∀ W g2 g4 g5 lo, GtS w W g2 g4 g5 lo Z Z 38 f0 → Calls Tryd.prog 34 #[.pointer (some ⟨g4, 0, none⟩), .int .i64 1, .func (.func 35) #[.pointer (some ⟨g5, 0, none⟩)] #[]] W fun e w' => e = .returned (.bool b1) ∧ GtS w w' g2 g4 g5 lo Z C1 38 f1) := fun W g2 g4 g5 lo hs => gt_int 1 0 b1 hs (by rw [HZ.out]; show 0 < (hcells _).toArray.size; rw [List.size_toArray, hcells_length _ rfl]; omega) (by rw [HZ.out, hC1]; exact (cells_r zeroH (nV 1 f0)).symm) hb1 hf1
  have I2 : Hid (∀ W g2 g4 g5 lo, GtS w W g2 g4 g5 lo Z C1 38 f1 → Calls Tryd.prog 34 #[.pointer (some ⟨g4, 1, none⟩), .int .i64 2, .func (.func 35) #[.pointer (some ⟨g5, 0, none⟩)] #[]] W fun e w' => e = .returned (.bool b2) ∧ GtS w w' g2 g4 g5 lo Z C2 38 f2) := fun W g2 g4 g5 lo hs => gt_int 2 1 b2 hs (by rw [hC1]; show 1 < (hcells _).toArray.size; rw [List.size_toArray, hcells_length _ rfl]; omega) (by rw [hC1, hC2]; exact (cells_e ⟨(nV 1 f0), 0, 0, (List.replicate 32 0), 0⟩ (nV 2 f1)).symm) hb2 hf2
  have I3 : Hid (∀ W g2 g4 g5 lo, GtS w W g2 g4 g5 lo Z C2 38 f2 → Calls Tryd.prog 34 #[.pointer (some ⟨g4, 2, none⟩), .int .i64 3, .func (.func 35) #[.pointer (some ⟨g5, 0, none⟩)] #[]] W fun e w' => e = .returned (.bool b3) ∧ GtS w w' g2 g4 g5 lo Z C3 38 f3) := fun W g2 g4 g5 lo hs => gt_int 3 2 b3 hs (by rw [hC2]; show 2 < (hcells _).toArray.size; rw [List.size_toArray, hcells_length _ rfl]; omega) (by rw [hC2, hC3]; exact (cells_s ⟨(nV 1 f0), (nV 2 f1), 0, (List.replicate 32 0), 0⟩ (nV 3 f2)).symm) hb3 hf3
  have I4 : Hid (∀ W g2 g4 g5 lo, GtS w W g2 g4 g5 lo Z C3 38 f3 → Calls Tryd.prog 36 #[.pointer (some ⟨g4, 3, none⟩), .int .i64 4, .func (.func 37) #[.pointer (some ⟨g5, 0, none⟩)] #[]] W fun e w' => e = .returned (.bool b4) ∧ GtS w w' g2 g4 g5 lo Z C4 38 f4) := fun W g2 g4 g5 lo hs => gt_dig 4 3 b4 hs (by rw [hC3]; show 3 + 32 ≤ (hcells _).toArray.size; rw [List.size_toArray, hcells_length _ rfl]; omega) (by rw [hC3, hC4]; exact (cells_d ⟨(nV 1 f0), (nV 2 f1), (nV 3 f2), (List.replicate 32 0), 0⟩ (dV 4 f3) rfl).symm) hb4 hf4
  have I5 : Hid (∀ W g2 g4 g5 lo, GtS w W g2 g4 g5 lo Z C4 38 f4 → Calls Tryd.prog 34 #[.pointer (some ⟨g4, 35, none⟩), .int .i64 5, .func (.func 35) #[.pointer (some ⟨g5, 0, none⟩)] #[]] W fun e w' => e = .returned (.bool b5) ∧ GtS w w' g2 g4 g5 lo Z C5 38 f5) := fun W g2 g4 g5 lo hs => gt_int 5 35 b5 hs (by rw [hC4]; show 35 < (hcells _).toArray.size; rw [List.size_toArray, hcells_length _ (dV_length _ _)]; omega) (by rw [hC4, hC5]; exact (cells_t ⟨(nV 1 f0), (nV 2 f1), (nV 3 f2), (dV 4 f3), 0⟩ (nV 5 f4) (dV_length _ _)).symm) hb5 hf5
  have I6 : Hid (∀ W g2 g4 g5 lo, GtS w W g2 g4 g5 lo Z C5 38 f5 → Calls Tryd.prog 38 #[.pointer (some ⟨g5, 0, none⟩)] W fun e w' => e = .returned (.bool b6) ∧ GtS w w' g2 g4 g5 lo Z C5 38 f5) := fun W g2 g4 g5 lo hs => gt_ended b6 hs hb6
  obtain ⟨E, hE⟩ : ∃ E, E = putE (seqH f0) := ⟨_, rfl⟩
  have hd5 : (seqH f0).d.length = 32 := dV_length _ _
  have K1 : Hid (∀ W, Calls Tryd.prog 56 #[.agg C5] W fun e w' => e = .returned (.int .i64 E) ∧ Below W.heap.size W w') := fun W => by rw [hE]; exact hCheck_any (seqH f0) hd5 W C5 (by rw [hC5, hq]; exact hidk rfl)
  have hK : (E = 0 ∧ br = true) ∨ (E = 70 ∧ br = false) := by rw [hE, hbr]; exact putE_ok _
  have hc36 : C5.size = 36 := by rw [hC5, List.size_toArray]; exact hcells_length _ (dV_length 4 f3)
  have HSC : Hid ((Tryd.prog.info? 38).map (·.size) = some C5.size) := by show _ = _; rw [sizeH, hc36]
  have H1C : Hid (C5.all (·.oneCell') = true) := by show _ = _; rw [hC5]; exact one_cells _
  have HZC : Hid (Z.size = C5.size) := by show _ = _; rw [H36.out, hc36]
  clear hf0 hf1 hf2 hf3 hf4 hf5 hC1 hC2 hC3 hC4 hC5 hb1 hb2 hb3 hb4 hb5 hb6 hbr hq hall hget hKK hE hd5 HR H36 hc36
  clear HZ hR
  go_enter Tryd.func65, Tryd.ntmps65
  go_wp2_with (first
    | (show wpList _ _ _ ({ dst := some 2, op := _, type := _, pos := _, after := _, guard := _ } :: _) _ _; refine wpList_new_var rfl 38 rfl Z HA.out ?_; intro g2 w1 HM2; try simp only [Act.put, List.setIfInBounds_toArray, List.set_cons_zero, List.set_cons_succ])
    | (show wpList _ _ _ ({ dst := some 4, op := _, type := _, pos := _, after := _, guard := _ } :: _) _ _; refine wpList_new_var rfl 38 rfl Z HA.out ?_; intro g4 w2 HM4; try simp only [Act.put, List.setIfInBounds_toArray, List.set_cons_zero, List.set_cons_succ])
    | fail)
  have HB2 : Hid (Below w.heap.size w w2) := HM2.out.below.trans (HM4.out.below.mono HM2.out.below.size)
  refine (O1.out w2 HB2.out).mono ?_
  rintro e w3 ⟨x, c, rfl, hl3, hb3⟩
  have HS0 : Hid (GtS w (w3.alloc (.cells #[.slice x f0.length c] 73)) g2 g4 w3.heap.size w2.heap.size Z Z 38 f0) := by
    have hbb := HB2.out.trans (hb3.mono HB2.out.size)
    have q2 : w2.heap[g2]? = some (.cells Z 38 (0, 0)) := (HM4.out.below.block _ (heap_lt HM2.out.row)).trans HM2.out.row
    refine ⟨hbb.alloc hbb.size _, heap_keep ((hb3.block _ (heap_lt q2)).trans q2), heap_keep ((hb3.block _ (heap_lt HM4.out.row)).trans HM4.out.row), rd_new hl3 hb3.size, Nat.le_of_eq HM2.out.new.symm, ?_, heap_lt HM4.out.row, hb3.size⟩
    rw [HM4.out.new]; exact heap_lt HM2.out.row
  obtain ⟨g5, hg5⟩ : ∃ g, g = w3.heap.size := ⟨_, rfl⟩
  obtain ⟨lo, hlo⟩ : ∃ g, g = w2.heap.size := ⟨_, rfl⟩
  rw [← hg5, ← hlo] at HS0
  clear HM2 HM4 HB2 hb3 hl3 O1 hlo
  go_wp2_with fail
  rw [← hg5]
  clear hg5
  refine (I1.out _ _ _ _ _ HS0.out).mono ?_
  rintro e v1 ⟨rfl, hs1⟩
  have HS1 := hidk hs1
  clear hs1 HS0 I1
  cases b1
  · skip
    go_wp2_with (first
      | (show wpList _ _ _ ({ dst := some 42, op := _, type := _, pos := _, after := _, guard := _ } :: _) _ _; refine wpList_build_none rfl 38 rfl Z HBZ.out ?_; try simp only [Act.put, List.setIfInBounds_toArray, List.set_cons_zero, List.set_cons_succ])
      | (refine wpList_set_var rfl 38 (.tmp 2) (.tmp 42) rfl g2 Z rfl rfl 38 Z HS1.out.r2 HSZ.out rfl H1Z.out ?_; intro wz HWz; try simp only [Act.put, List.setIfInBounds_toArray, List.set_cons_zero, List.set_cons_succ])
      | fail)
    refine bodyPost_ret (v := .tuple #[.agg R, .int .i64 K]) ?_ rfl ⟨rfl, HWz.out.below w.heap.size w HS1.out.below HS1.out.o2⟩
    rw [(HF.out rfl).1, (HF.out rfl).2]
    exact results_row_tmp (p := 2) (q := 3) (ty := 38) rfl _ _ g2 38 Z (0, 0) _ rfl HWz.out.row Tryd.underlying38 rfl HSZ.out
  go_wp2_with fail
  refine (I2.out _ _ _ _ _ HS1.out).mono ?_
  rintro e v2 ⟨rfl, hs2⟩
  have HS2 := hidk hs2
  clear hs2 HS1 I2
  cases b2
  · skip
    go_wp2_with (first
      | (show wpList _ _ _ ({ dst := some 42, op := _, type := _, pos := _, after := _, guard := _ } :: _) _ _; refine wpList_build_none rfl 38 rfl Z HBZ.out ?_; try simp only [Act.put, List.setIfInBounds_toArray, List.set_cons_zero, List.set_cons_succ])
      | (refine wpList_set_var rfl 38 (.tmp 2) (.tmp 42) rfl g2 Z rfl rfl 38 Z HS2.out.r2 HSZ.out rfl H1Z.out ?_; intro wz HWz; try simp only [Act.put, List.setIfInBounds_toArray, List.set_cons_zero, List.set_cons_succ])
      | fail)
    refine bodyPost_ret (v := .tuple #[.agg R, .int .i64 K]) ?_ rfl ⟨rfl, HWz.out.below w.heap.size w HS2.out.below HS2.out.o2⟩
    rw [(HF.out rfl).1, (HF.out rfl).2]
    exact results_row_tmp (p := 2) (q := 3) (ty := 38) rfl _ _ g2 38 Z (0, 0) _ rfl HWz.out.row Tryd.underlying38 rfl HSZ.out
  go_wp2_with fail
  refine (I3.out _ _ _ _ _ HS2.out).mono ?_
  rintro e v3 ⟨rfl, hs3⟩
  have HS3 := hidk hs3
  clear hs3 HS2 I3
  cases b3
  · skip
    go_wp2_with (first
      | (show wpList _ _ _ ({ dst := some 42, op := _, type := _, pos := _, after := _, guard := _ } :: _) _ _; refine wpList_build_none rfl 38 rfl Z HBZ.out ?_; try simp only [Act.put, List.setIfInBounds_toArray, List.set_cons_zero, List.set_cons_succ])
      | (refine wpList_set_var rfl 38 (.tmp 2) (.tmp 42) rfl g2 Z rfl rfl 38 Z HS3.out.r2 HSZ.out rfl H1Z.out ?_; intro wz HWz; try simp only [Act.put, List.setIfInBounds_toArray, List.set_cons_zero, List.set_cons_succ])
      | fail)
    refine bodyPost_ret (v := .tuple #[.agg R, .int .i64 K]) ?_ rfl ⟨rfl, HWz.out.below w.heap.size w HS3.out.below HS3.out.o2⟩
    rw [(HF.out rfl).1, (HF.out rfl).2]
    exact results_row_tmp (p := 2) (q := 3) (ty := 38) rfl _ _ g2 38 Z (0, 0) _ rfl HWz.out.row Tryd.underlying38 rfl HSZ.out
  go_wp2_with fail
  refine (I4.out _ _ _ _ _ HS3.out).mono ?_
  rintro e v4 ⟨rfl, hs4⟩
  have HS4 := hidk hs4
  clear hs4 HS3 I4
  cases b4
  · skip
    go_wp2_with (first
      | (show wpList _ _ _ ({ dst := some 42, op := _, type := _, pos := _, after := _, guard := _ } :: _) _ _; refine wpList_build_none rfl 38 rfl Z HBZ.out ?_; try simp only [Act.put, List.setIfInBounds_toArray, List.set_cons_zero, List.set_cons_succ])
      | (refine wpList_set_var rfl 38 (.tmp 2) (.tmp 42) rfl g2 Z rfl rfl 38 Z HS4.out.r2 HSZ.out rfl H1Z.out ?_; intro wz HWz; try simp only [Act.put, List.setIfInBounds_toArray, List.set_cons_zero, List.set_cons_succ])
      | fail)
    refine bodyPost_ret (v := .tuple #[.agg R, .int .i64 K]) ?_ rfl ⟨rfl, HWz.out.below w.heap.size w HS4.out.below HS4.out.o2⟩
    rw [(HF.out rfl).1, (HF.out rfl).2]
    exact results_row_tmp (p := 2) (q := 3) (ty := 38) rfl _ _ g2 38 Z (0, 0) _ rfl HWz.out.row Tryd.underlying38 rfl HSZ.out
  go_wp2_with fail
  refine (I5.out _ _ _ _ _ HS4.out).mono ?_
  rintro e v5 ⟨rfl, hs5⟩
  have HS5 := hidk hs5
  clear hs5 HS4 I5
  cases b5
  · skip
    go_wp2_with (first
      | (show wpList _ _ _ ({ dst := some 42, op := _, type := _, pos := _, after := _, guard := _ } :: _) _ _; refine wpList_build_none rfl 38 rfl Z HBZ.out ?_; try simp only [Act.put, List.setIfInBounds_toArray, List.set_cons_zero, List.set_cons_succ])
      | (refine wpList_set_var rfl 38 (.tmp 2) (.tmp 42) rfl g2 Z rfl rfl 38 Z HS5.out.r2 HSZ.out rfl H1Z.out ?_; intro wz HWz; try simp only [Act.put, List.setIfInBounds_toArray, List.set_cons_zero, List.set_cons_succ])
      | fail)
    refine bodyPost_ret (v := .tuple #[.agg R, .int .i64 K]) ?_ rfl ⟨rfl, HWz.out.below w.heap.size w HS5.out.below HS5.out.o2⟩
    rw [(HF.out rfl).1, (HF.out rfl).2]
    exact results_row_tmp (p := 2) (q := 3) (ty := 38) rfl _ _ g2 38 Z (0, 0) _ rfl HWz.out.row Tryd.underlying38 rfl HSZ.out
  go_wp2_with fail
  refine (I6.out _ _ _ _ _ HS5.out).mono ?_
  rintro e v6 ⟨rfl, hs6⟩
  have HS6 := hidk hs6
  clear hs6 HS5 I6
  cases b6
  · skip
    go_wp2_with (first
      | (show wpList _ _ _ ({ dst := some 42, op := _, type := _, pos := _, after := _, guard := _ } :: _) _ _; refine wpList_build_none rfl 38 rfl Z HBZ.out ?_; try simp only [Act.put, List.setIfInBounds_toArray, List.set_cons_zero, List.set_cons_succ])
      | (refine wpList_set_var rfl 38 (.tmp 2) (.tmp 42) rfl g2 Z rfl rfl 38 Z HS6.out.r2 HSZ.out rfl H1Z.out ?_; intro wz HWz; try simp only [Act.put, List.setIfInBounds_toArray, List.set_cons_zero, List.set_cons_succ])
      | fail)
    refine bodyPost_ret (v := .tuple #[.agg R, .int .i64 K]) ?_ rfl ⟨rfl, HWz.out.below w.heap.size w HS6.out.below HS6.out.o2⟩
    rw [(HF.out rfl).1, (HF.out rfl).2]
    exact results_row_tmp (p := 2) (q := 3) (ty := 38) rfl _ _ g2 38 Z (0, 0) _ rfl HWz.out.row Tryd.underlying38 rfl HSZ.out
  go_wp2_with (first
    | (show wpList _ _ _ ({ dst := some 38, op := _, type := _, pos := _, after := _, guard := _ } :: _) _ _; refine wpList_load_row_w (by rfl) 38 (.tmp 4) rfl g4 rfl 38 C5 (0, 0) _ HS6.out.r4 Tryd.underlying38 rfl HSC.out ?_; try simp only [Act.put, List.setIfInBounds_toArray, List.set_cons_zero, List.set_cons_succ])
    | fail)
  refine (K1.out _).mono ?_
  rintro e vk ⟨rfl, hbk⟩
  have HSk := hidk (HS6.out.keep hbk)
  clear hbk HS6 K1
  rcases hK with ⟨rfl, rfl⟩ | ⟨rfl, rfl⟩
  · go_wp2_with (first
      | (show wpList _ _ _ ({ dst := some 43, op := _, type := _, pos := _, after := _, guard := _ } :: _) _ _; refine wpList_load_row rfl 38 (.tmp 4) rfl g4 rfl 38 C5 (0, 0) _ HSk.out.r4 Tryd.underlying38 rfl HSC.out ?_; try simp only [Act.put, List.setIfInBounds_toArray, List.set_cons_zero, List.set_cons_succ])
      | (refine wpList_set_var rfl 38 (.tmp 2) (.tmp 43) rfl g2 C5 rfl rfl 38 Z HSk.out.r2 HSC.out HZC.out H1C.out ?_; intro wz HWz; try simp only [Act.put, List.setIfInBounds_toArray, List.set_cons_zero, List.set_cons_succ])
      | fail)
    refine bodyPost_ret (v := .tuple #[.agg R, .int .i64 K]) ?_ rfl ⟨rfl, HWz.out.below w.heap.size w HSk.out.below HSk.out.o2⟩
    rw [(HT.out rfl).1, (HT.out rfl).2]
    exact results_row_tmp (p := 2) (q := 3) (ty := 38) rfl _ _ g2 38 C5 (0, 0) _ rfl HWz.out.row Tryd.underlying38 rfl HSC.out
  · skip
    go_wp2_with (first
      | (show wpList _ _ _ ({ dst := some 42, op := _, type := _, pos := _, after := _, guard := _ } :: _) _ _; refine wpList_build_none rfl 38 rfl Z HBZ.out ?_; try simp only [Act.put, List.setIfInBounds_toArray, List.set_cons_zero, List.set_cons_succ])
      | (refine wpList_set_var rfl 38 (.tmp 2) (.tmp 42) rfl g2 Z rfl rfl 38 Z HSk.out.r2 HSZ.out rfl H1Z.out ?_; intro wz HWz; try simp only [Act.put, List.setIfInBounds_toArray, List.set_cons_zero, List.set_cons_succ])
      | fail)
    refine bodyPost_ret (v := .tuple #[.agg R, .int .i64 K]) ?_ rfl ⟨rfl, HWz.out.below w.heap.size w HSk.out.below HSk.out.o2⟩
    rw [(HF.out rfl).1, (HF.out rfl).2]
    exact results_row_tmp (p := 2) (q := 3) (ty := 38) rfl _ _ g2 38 Z (0, 0) _ rfl HWz.out.row Tryd.underlying38 rfl HSZ.out
end Go.Proofs.YtdnhnjimhbbababDoor.P7

/- What head.Put answers; a right head's bytes as a text, and what is signed of it. -/
namespace Go.Proofs.YtdnhnjimhbbababDoor.P7
open Go.RowKit Sums Nums
set_option linter.unusedVariables false
set_option linter.unusedSimpArgs false
set_option maxRecDepth 100000
theorem reads_no (w : World) : Reads w none 0 0 [] := ⟨rfl, Nat.le_refl _, by decide, .inl ⟨rfl, rfl⟩⟩
theorem bytes_no (w : World) (E : Int) : BytesE [] E (.returned (.tuple #[.slice none 0 0, .int .i64 E])) w := ⟨none, 0, rfl, reads_no w⟩
theorem rowOf_ok {fs : List (Int × ByteArray)} (h : layE 0 fs = 0) : rowOf fs = rowB fs := by unfold rowOf; rw [if_pos h]
set_option maxHeartbeats 2000000 in
theorem hPut_no (h : HdT) (hd : h.d.length = 32) (hr : rightH h = false) (w : World) (C : Array Value) (HC : Hid (C = (hcells h).toArray)) :
    Calls Tryd.prog 61 #[.agg C] w fun e w' => BytesE [] 70 e w' ∧ Below w.heap.size w w' := by
  have HSC : Hid ((Tryd.prog.info? 38).map (·.size) = some C.size) := by show _ = _; rw [sizeH, HC.out]; simp [hcells_length h hd]
  have HR : Hid ((w.alloc (.cells C 38)).heap[w.heap.size]? = some (.cells C 38 (0, 0))) := heap_alloc_new w _
  have HB : Hid (Below w.heap.size w (w.alloc (.cells C 38))) := (Below.refl _ _).alloc (Nat.le_refl _) _
  have K1 : Hid (∀ W, Calls Tryd.prog 56 #[.agg C] W fun e w' => e = .returned (.int .i64 70) ∧ Below W.heap.size W w') := fun W => by
    have := hCheck_any h hd W C HC
    rwa [show putE h = 70 by unfold putE; rw [hr]; rfl] at this
  clear HC hr
  go_enter Tryd.func61, Tryd.ntmps61
  go_wp2_with (first
    | (show wpList _ _ _ ({ dst := some 5, op := _, type := _, pos := _, after := _, guard := _ } :: _) _ _; refine wpList_load_row rfl 38 (.tmp 1) rfl w.heap.size rfl 38 C (0, 0) _ HR.out Tryd.underlying38 rfl HSC.out ?_; try simp only [Act.put, List.setIfInBounds_toArray, List.set_cons_zero, List.set_cons_succ])
    | fail)
  refine (K1.out _).mono ?_
  rintro e w1 ⟨rfl, hb1⟩
  have HB1 := hidk (HB.out.trans (hb1.mono HB.out.size))
  clear hb1
  go_wp2
  go_ret2
  exact ⟨bytes_no _ _, HB1.out⟩
set_option maxHeartbeats 8000000 in
theorem hPut_yes (h : HdT) (hd : h.d.length = 32) (hr : rightH h = true) (w : World) (C : Array Value) (HC : Hid (C = (hcells h).toArray)) :
    Calls Tryd.prog 61 #[.agg C] w fun e w' => BytesE (headB h) 0 e w' ∧ Below w.heap.size w w' := by
  have HSC : Hid ((Tryd.prog.info? 38).map (·.size) = some C.size) := by show _ = _; rw [sizeH, HC.out]; simp [hcells_length h hd]
  have HRW : Hid ((w.alloc (.cells C 38)).heap[w.heap.size]? = some (.cells C 38 (0, 0))) := heap_alloc_new w _
  have K1 : Hid (∀ W, Calls Tryd.prog 56 #[.agg C] W fun e w' => e = .returned (.int .i64 0) ∧ Below W.heap.size W w') := fun W => by
    have := hCheck_any h hd W C HC
    rwa [show putE h = 0 by unfold putE; rw [hr]; rfl] at this
  obtain ⟨r, Hr⟩ : ∃ r, Hid (r = h.r) := ⟨h.r, hidk rfl⟩
  obtain ⟨e, He⟩ : ∃ r, Hid (r = h.e) := ⟨h.e, hidk rfl⟩
  obtain ⟨s, Hs⟩ : ∃ r, Hid (r = h.s) := ⟨h.s, hidk rfl⟩
  obtain ⟨t, Ht⟩ : ∃ r, Hid (r = h.t) := ⟨h.t, hidk rfl⟩
  obtain ⟨n1, Hn1⟩ : ∃ s : ByteArray, Hid (s = nOf r) := ⟨nOf r, hidk rfl⟩
  obtain ⟨n2, Hn2⟩ : ∃ s : ByteArray, Hid (s = nOf e) := ⟨nOf e, hidk rfl⟩
  obtain ⟨n3, Hn3⟩ : ∃ x : ByteArray, Hid (x = nOf s) := ⟨nOf s, hidk rfl⟩
  obtain ⟨n5, Hn5⟩ : ∃ s : ByteArray, Hid (s = nOf t) := ⟨nOf t, hidk rfl⟩
  obtain ⟨x4, HX⟩ : ∃ x : ByteArray, Hid (x = bA h.d) := ⟨bA h.d, hidk rfl⟩
  obtain ⟨l, Hl⟩ : ∃ l, Hid (l = headB h) := ⟨headB h, hidk rfl⟩
  obtain ⟨D, HD, HSD, H1D, H32D⟩ := dig_row' h.d hd
  have N1 : Hid (∀ W, Calls Tryd.prog 29 #[.int .i64 1, .int .i64 r] W fun e w' => e = .returned (.agg #[.int .i64 1, .string n1]) ∧ Below W.heap.size W w') := fun W => by rw [Hn1.out]; exact hNum_any 1 r W
  have N2 : Hid (∀ W, Calls Tryd.prog 29 #[.int .i64 2, .int .i64 e] W fun e w' => e = .returned (.agg #[.int .i64 2, .string n2]) ∧ Below W.heap.size W w') := fun W => by rw [Hn2.out]; exact hNum_any 2 e W
  have N3 : Hid (∀ W, Calls Tryd.prog 29 #[.int .i64 3, .int .i64 s] W fun e w' => e = .returned (.agg #[.int .i64 3, .string n3]) ∧ Below W.heap.size W w') := fun W => by rw [Hn3.out]; exact hNum_any 3 s W
  have N5 : Hid (∀ W, Calls Tryd.prog 29 #[.int .i64 5, .int .i64 t] W fun e w' => e = .returned (.agg #[.int .i64 5, .string n5]) ∧ Below W.heap.size W w') := fun W => by rw [Hn5.out]; exact hNum_any 5 t W
  have X4 : Hid (∀ W, Calls Tryd.prog 30 #[.int .i64 4, .agg D] W fun e w' => e = .returned (.agg #[.int .i64 4, .string x4]) ∧ Below W.heap.size W w') := fun W => by rw [HX.out]; exact hDig_any 4 h.d hd W D HD
  have hL5 : fieldsN (hL h) = [(1, n1), (2, n2), (3, n3), (4, x4), (5, n5)] := by rw [Hn1.out, Hn2.out, Hn3.out, Hn5.out, HX.out, Hr.out, He.out, Hs.out, Ht.out]; rfl
  have LY : Hid (∀ W, Calls Tryd.prog 27 #[.slice (some ⟨W.heap.size, 0, none⟩) 5 5] (W.alloc (.cells #[.int .i64 1, .string n1, .int .i64 2, .string n2, .int .i64 3, .string n3, .int .i64 4, .string x4, .int .i64 5, .string n5] 69)) fun e w' => ∃ a c, e = .returned (.tuple #[.slice a l.length c, .int .i64 0]) ∧ Reads w' a l.length c l ∧ Below W.heap.size W w') := fun W => by
    have hk := layE_hL h hd
    have hrw := rowOf_ok hk
    rw [hL5] at hk hrw
    have hm : ∀ f ∈ [((1 : Int), n1), (2, n2), (3, n3), (4, x4), (5, n5)], f.2.size ≤ maxLen := fun y hy => by
      simp only [List.mem_cons, List.not_mem_nil, or_false] at hy
      unfold maxLen
      rcases hy with rfl | rfl | rfl | rfl | rfl
      · have := nOf_size r; rw [← Hn1.out] at this; show n1.size ≤ _; omega
      · have := nOf_size e; rw [← Hn2.out] at this; show n2.size ≤ _; omega
      · have := nOf_size s; rw [← Hn3.out] at this; show n3.size ≤ _; omega
      · have := bA_size h.d; rw [← HX.out] at this; show x4.size ≤ _; omega
      · have := nOf_size t; rw [← Hn5.out] at this; show n5.size ≤ _; omega
    have hF := freads_lit W #[.int .i64 1, .string n1, .int .i64 2, .string n2, .int .i64 3, .string n3, .int .i64 4, .string x4, .int .i64 5, .string n5] (0, 0) [((1 : Int), n1), (2, n2), (3, n3), (4, x4), (5, n5)] rfl (by show 5 ≤ 1048576; decide) hm
    rw [← alloc_size W (.cells #[.int .i64 1, .string n1, .int .i64 2, .string n2, .int .i64 3, .string n3, .int .i64 4, .string x4, .int .i64 5, .string n5] 69)] at hF
    refine (lay_reads (some ⟨W.heap.size, 0, none⟩) 5 5 [((1 : Int), n1), (2, n2), (3, n3), (4, x4), (5, n5)] _ hF (by decide) (k := 0) (l := l) hk (by rw [hrw, Hl.out, ← hL5]; rfl)).mono ?_
    rintro e w' ⟨a, c, he, hrd, hb⟩
    exact ⟨a, c, he, hrd, ((Below.refl _ _).alloc (Nat.le_refl _) _).trans (hb.mono (by simp))⟩
  have HR := hidk (hrow_new w h hd C HC 38)
  have HB : Hid (Below w.heap.size w (w.alloc (.cells C 38))) := (Below.refl _ _).alloc (Nat.le_refl _) _
  have HDL : Hid (D.toList = cellsOf h.d) := by show _ = _; rw [HD.out]
  rw [← Hl.out]
  clear HC HX hL5 HD Hn1 Hn2 Hn3 Hn5 Hl hr
  go_enter Tryd.func61, Tryd.ntmps61
  go_wp2_with (first
    | (show wpList _ _ _ ({ dst := some 5, op := _, type := _, pos := _, after := _, guard := _ } :: _) _ _; refine wpList_load_row rfl 38 (.tmp 1) rfl w.heap.size rfl 38 C (0, 0) _ HRW.out Tryd.underlying38 rfl HSC.out ?_; try simp only [Act.put, List.setIfInBounds_toArray, List.set_cons_zero, List.set_cons_succ])
    | fail)
  refine (K1.out _).mono ?_
  rintro e w0 ⟨rfl, hb0⟩
  have HB0 := hidk (HB.out.trans (hb0.mono HB.out.size))
  have HR0 := hidk (HR.out.keep hb0)
  clear hb0 HB HR HRW K1
  go_wp2
  refine wp_region_held_drew (S := (fun W => HRow W w.heap.size 0 h)) (by kernel_rfl) (show HRow w0.drew w.heap.size 0 h from HR0.out.keep (Below.refl _ _).drew) (fun hHeld => ?_)
  refine wpAnyH_take (i := 0) (oi := { dst := some 10, op := Op.fieldAddr 38 (Operand.tmp 1) 0, type := 0, pos := "head.go:46", after := #[], guard := none }) (v := .pointer (some ⟨w.heap.size, 0, none⟩)) rfl (by kernel_rfl) (by kernel_rfl) (by kernel_rfl) (fun _ _ _ h => h) (Or.inl ⟨by rfl, by intro W hSw; go_simp⟩) hHeld ?_
  try simp only [Act.put, List.setIfInBounds_toArray, List.set_cons_zero, List.set_cons_succ]
  refine wpAnyH_take (i := 1) (oi := { dst := some 11, op := Op.load 3 (Operand.tmp 10), type := 3, pos := "head.go:46", after := #[{ on := 0, ground := Ground.data }], guard := none }) (v := .int .i64 r) rfl (by kernel_rfl) (by kernel_rfl) (by kernel_rfl) (fun _ _ _ h => h) (Or.inl ⟨by rfl, by intro W hSw; have h1 := hSw.r; rw [← Hr.out] at h1; go_simp⟩) hHeld ?_
  try simp only [Act.put, List.setIfInBounds_toArray, List.set_cons_zero, List.set_cons_succ]
  refine wpAnyH_take (i := 3) (oi := { dst := some 13, op := Op.fieldAddr 38 (Operand.tmp 1) 1, type := 0, pos := "head.go:46", after := #[], guard := none }) (v := .pointer (some ⟨w.heap.size, 1, none⟩)) rfl (by kernel_rfl) (by kernel_rfl) (by kernel_rfl) (fun _ _ _ h => h) (Or.inl ⟨by rfl, by intro W hSw; go_simp⟩) hHeld ?_
  try simp only [Act.put, List.setIfInBounds_toArray, List.set_cons_zero, List.set_cons_succ]
  refine wpAnyH_take (i := 4) (oi := { dst := some 14, op := Op.load 3 (Operand.tmp 13), type := 3, pos := "head.go:46", after := #[{ on := 3, ground := Ground.data }], guard := none }) (v := .int .i64 e) rfl (by kernel_rfl) (by kernel_rfl) (by kernel_rfl) (fun _ _ _ h => h) (Or.inl ⟨by rfl, by intro W hSw; have h1 := hSw.e; rw [← He.out, Nat.zero_add] at h1; go_simp⟩) hHeld ?_
  try simp only [Act.put, List.setIfInBounds_toArray, List.set_cons_zero, List.set_cons_succ]
  refine wpAnyH_take (i := 6) (oi := { dst := some 16, op := Op.fieldAddr 38 (Operand.tmp 1) 2, type := 0, pos := "head.go:46", after := #[], guard := none }) (v := .pointer (some ⟨w.heap.size, 2, none⟩)) rfl (by kernel_rfl) (by kernel_rfl) (by kernel_rfl) (fun _ _ _ h => h) (Or.inl ⟨by rfl, by intro W hSw; go_simp⟩) hHeld ?_
  try simp only [Act.put, List.setIfInBounds_toArray, List.set_cons_zero, List.set_cons_succ]
  refine wpAnyH_take (i := 7) (oi := { dst := some 17, op := Op.load 3 (Operand.tmp 16), type := 3, pos := "head.go:46", after := #[{ on := 6, ground := Ground.data }], guard := none }) (v := .int .i64 s) rfl (by kernel_rfl) (by kernel_rfl) (by kernel_rfl) (fun _ _ _ h => h) (Or.inl ⟨by rfl, by intro W hSw; have h1 := hSw.s; rw [← Hs.out, Nat.zero_add] at h1; go_simp⟩) hHeld ?_
  try simp only [Act.put, List.setIfInBounds_toArray, List.set_cons_zero, List.set_cons_succ]
  refine wpAnyH_take (i := 9) (oi := { dst := some 19, op := Op.fieldAddr 38 (Operand.tmp 1) 3, type := 0, pos := "head.go:46", after := #[], guard := none }) (v := .pointer (some ⟨w.heap.size, 3, none⟩)) rfl (by kernel_rfl) (by kernel_rfl) (by kernel_rfl) (fun _ _ _ h => h) (Or.inl ⟨by rfl, by intro W hSw; go_simp⟩) hHeld ?_
  try simp only [Act.put, List.setIfInBounds_toArray, List.set_cons_zero, List.set_cons_succ]
  refine wpAnyH_take (i := 10) (oi := { dst := some 20, op := Op.load 30 (Operand.tmp 19), type := 30, pos := "head.go:46", after := #[{ on := 9, ground := Ground.data }], guard := none }) (v := .agg D) rfl (by kernel_rfl) (by kernel_rfl) (by kernel_rfl) (fun _ _ _ h => h) (yieldsIf_mid (by rfl) 30 (.tmp 19) rfl w.heap.size 3 rfl D _ (fun _ h => by rw [HDL.out]; have := h.d; rwa [Nat.zero_add] at this) Tryd.underlying30 rfl HSD.out) hHeld ?_
  try simp only [Act.put, List.setIfInBounds_toArray, List.set_cons_zero, List.set_cons_succ]
  refine wpAnyH_take (i := 12) (oi := { dst := some 22, op := Op.fieldAddr 38 (Operand.tmp 1) 4, type := 0, pos := "head.go:46", after := #[], guard := none }) (v := .pointer (some ⟨w.heap.size, 35, none⟩)) rfl (by kernel_rfl) (by kernel_rfl) (by kernel_rfl) (fun _ _ _ h => h) (Or.inl ⟨by rfl, by intro W hSw; go_simp⟩) hHeld ?_
  try simp only [Act.put, List.setIfInBounds_toArray, List.set_cons_zero, List.set_cons_succ]
  refine wpAnyH_take (i := 13) (oi := { dst := some 23, op := Op.load 3 (Operand.tmp 22), type := 3, pos := "head.go:46", after := #[{ on := 12, ground := Ground.data }], guard := none }) (v := .int .i64 t) rfl (by kernel_rfl) (by kernel_rfl) (by kernel_rfl) (fun _ _ _ h => h) (Or.inl ⟨by rfl, by intro W hSw; have h1 := hSw.t; rw [← Ht.out, Nat.zero_add] at h1; go_simp⟩) hHeld ?_
  try simp only [Act.put, List.setIfInBounds_toArray, List.set_cons_zero, List.set_cons_succ]
  refine wpAnyH_ready (rs := [2]) (by kernel_rfl) (by simp) ?_
  refine (AllReadyH.cons (o := { dst := some 12, op := Op.call { callee := Callee.value (Operand.func 29), args := #[Operand.const (Value.int IntKind.i64 1), Operand.tmp 11], argTypes := #[3, 3] }, type := 69, pos := "head.go:47", after := #[{ on := 1, ground := Ground.data }], guard := none }) rfl (fun K hK => ?_) AllReadyH.nil)
  go_simp
  refine (N1.out _).mono ?_
  rintro e w2 ⟨rfl, hb1⟩
  have HB1 := hidk (HB0.out.drew.trans (hb1.mono HB0.out.size))
  go_wp2_with fail
  refine hK.out _ _ (hHeld.keep hb1) (fun hHeld => ?_)
  clear hK K
  try simp only [Act.put, List.setIfInBounds_toArray, List.set_cons_zero, List.set_cons_succ]
  refine wpAnyH_ready (rs := [5]) (by kernel_rfl) (by simp) ?_
  refine (AllReadyH.cons (o := { dst := some 15, op := Op.call { callee := Callee.value (Operand.func 29), args := #[Operand.const (Value.int IntKind.i64 2), Operand.tmp 14], argTypes := #[3, 3] }, type := 69, pos := "head.go:48", after := #[{ on := 4, ground := Ground.data }, { on := 2, ground := Ground.chain }], guard := none }) rfl (fun K hK => ?_) AllReadyH.nil)
  go_simp
  refine (N2.out _).mono ?_
  rintro e w5 ⟨rfl, hb2⟩
  have HB2 := hidk (HB1.out.trans (hb2.mono HB1.out.size))
  go_wp2_with fail
  refine hK.out _ _ (hHeld.keep hb2) (fun hHeld => ?_)
  clear hK K
  try simp only [Act.put, List.setIfInBounds_toArray, List.set_cons_zero, List.set_cons_succ]
  refine wpAnyH_ready (rs := [8]) (by kernel_rfl) (by simp) ?_
  refine (AllReadyH.cons (o := { dst := some 18, op := Op.call { callee := Callee.value (Operand.func 29), args := #[Operand.const (Value.int IntKind.i64 3), Operand.tmp 17], argTypes := #[3, 3] }, type := 69, pos := "head.go:49", after := #[{ on := 7, ground := Ground.data }, { on := 5, ground := Ground.chain }], guard := none }) rfl (fun K hK => ?_) AllReadyH.nil)
  go_simp
  refine (N3.out _).mono ?_
  rintro e w8 ⟨rfl, hb3⟩
  have HB3 := hidk (HB2.out.trans (hb3.mono HB2.out.size))
  go_wp2_with fail
  refine hK.out _ _ (hHeld.keep hb3) (fun hHeld => ?_)
  clear hK K
  try simp only [Act.put, List.setIfInBounds_toArray, List.set_cons_zero, List.set_cons_succ]
  refine wpAnyH_ready (rs := [11]) (by kernel_rfl) (by simp) ?_
  refine (AllReadyH.cons (o := { dst := some 21, op := Op.call { callee := Callee.value (Operand.func 30), args := #[Operand.const (Value.int IntKind.i64 4), Operand.tmp 20], argTypes := #[3, 30] }, type := 69, pos := "head.go:50", after := #[{ on := 10, ground := Ground.data }, { on := 8, ground := Ground.chain }], guard := none }) rfl (fun K hK => ?_) AllReadyH.nil)
  go_simp
  refine (X4.out _).mono ?_
  rintro e w11 ⟨rfl, hb4⟩
  have HB4 := hidk (HB3.out.trans (hb4.mono HB3.out.size))
  go_wp2_with fail
  refine hK.out _ _ (hHeld.keep hb4) (fun hHeld => ?_)
  clear hK K
  try simp only [Act.put, List.setIfInBounds_toArray, List.set_cons_zero, List.set_cons_succ]
  refine wpAnyH_ready (rs := [14]) (by kernel_rfl) (by simp) ?_
  refine (AllReadyH.cons (o := { dst := some 24, op := Op.call { callee := Callee.value (Operand.func 29), args := #[Operand.const (Value.int IntKind.i64 5), Operand.tmp 23], argTypes := #[3, 3] }, type := 69, pos := "head.go:51", after := #[{ on := 13, ground := Ground.data }, { on := 11, ground := Ground.chain }], guard := none }) rfl (fun K hK => ?_) AllReadyH.nil)
  go_simp
  refine (N5.out _).mono ?_
  rintro e w14 ⟨rfl, hb5⟩
  have HB5 := hidk (HB4.out.trans (hb5.mono HB4.out.size))
  go_wp2_with fail
  refine hK.out _ _ (hHeld.keep hb5) (fun hHeld => ?_)
  clear hK K
  try simp only [Act.put, List.setIfInBounds_toArray, List.set_cons_zero, List.set_cons_succ]
  refine wpAnyH_ready (rs := [15]) (by kernel_rfl) (by simp) ?_
  refine (AllReadyH.cons (o := { dst := some 25, op := Op.buildSlice 72 5 #[(0, Operand.tmp 12), (1, Operand.tmp 15), (2, Operand.tmp 18), (3, Operand.tmp 21), (4, Operand.tmp 24)], type := 72, pos := "head.go:46", after := #[{ on := 2, ground := Ground.data }, { on := 5, ground := Ground.data }, { on := 8, ground := Ground.data }, { on := 11, ground := Ground.data }, { on := 14, ground := Ground.data }], guard := none }) rfl (fun K hK => ?_) AllReadyH.nil)
  have HR14 := hidk hHeld
  go_simp
  refine hK.out _ _ (hHeld.keep ((Below.refl _ _).alloc (Nat.le_refl _) _)) (fun hHeld => ?_)
  clear hK K
  try simp only [Act.put, List.setIfInBounds_toArray, List.set_cons_zero, List.set_cons_succ]
  refine wpAnyH_ready (rs := [16]) (by kernel_rfl) (by simp) ?_
  refine (AllReadyH.cons (o := { dst := some 26, op := Op.call { callee := Callee.value (Operand.func 27), args := #[Operand.tmp 25], argTypes := #[72] }, type := 44, pos := "head.go:46", after := #[{ on := 15, ground := Ground.data }, { on := 14, ground := Ground.chain }], guard := none }) rfl (fun K hK => ?_) AllReadyH.nil)
  go_simp
  refine (LY.out _).mono ?_
  rintro e w16 ⟨a16, c16, rfl, hrd, hb6⟩
  have HRD := hidk hrd
  have HBF := hidk (HB5.out.trans (hb6.mono HB5.out.size))
  go_wp2_with fail
  refine hK.out _ _ (HR14.out.keep hb6) (fun hHeld => ?_)
  clear hK K
  try simp only [Act.put, List.setIfInBounds_toArray, List.set_cons_zero, List.set_cons_succ]
  refine wpAnyH_take (i := 17) (oi := { dst := some 27, op := Op.extract (Operand.tmp 26) 0, type := 43, pos := "head.go:46", after := #[{ on := 16, ground := Ground.data }], guard := none }) (v := .slice a16 l.length c16) rfl (by kernel_rfl) (by kernel_rfl) (by kernel_rfl) (fun _ _ _ h => h) (Or.inl ⟨by rfl, by intro W hSw; go_simp⟩) hHeld ?_
  try simp only [Act.put, List.setIfInBounds_toArray, List.set_cons_zero, List.set_cons_succ]
  refine wpAnyH_take (i := 18) (oi := { dst := some 28, op := Op.extract (Operand.tmp 26) 1, type := 32, pos := "head.go:46", after := #[{ on := 16, ground := Ground.data }], guard := none }) (v := .int .i64 0) rfl (by kernel_rfl) (by kernel_rfl) (by kernel_rfl) (fun _ _ _ h => h) (Or.inl ⟨by rfl, by intro W hSw; go_simp⟩) hHeld ?_
  try simp only [Act.put, List.setIfInBounds_toArray, List.set_cons_zero, List.set_cons_succ]
  refine wpAnyH_take (i := 19) (oi := { dst := some 2, op := Op.assign (Operand.tmp 27), type := 43, pos := "head.go:46", after := #[{ on := 17, ground := Ground.data }, { on := 16, ground := Ground.chain }, { on := 0, ground := Ground.phase }, { on := 1, ground := Ground.phase }, { on := 2, ground := Ground.phase }, { on := 3, ground := Ground.phase }, { on := 4, ground := Ground.phase }, { on := 5, ground := Ground.phase }, { on := 6, ground := Ground.phase }, { on := 7, ground := Ground.phase }, { on := 8, ground := Ground.phase }, { on := 9, ground := Ground.phase }, { on := 10, ground := Ground.phase }, { on := 11, ground := Ground.phase }, { on := 12, ground := Ground.phase }, { on := 13, ground := Ground.phase }, { on := 14, ground := Ground.phase }, { on := 15, ground := Ground.phase }, { on := 16, ground := Ground.phase }, { on := 17, ground := Ground.phase }, { on := 18, ground := Ground.phase }], guard := none }) (v := .slice a16 l.length c16) rfl (by kernel_rfl) (by kernel_rfl) (by kernel_rfl) (fun _ _ _ h => h) (Or.inl ⟨by rfl, by intro W hSw; go_simp⟩) hHeld ?_
  try simp only [Act.put, List.setIfInBounds_toArray, List.set_cons_zero, List.set_cons_succ]
  refine wpAnyH_take (i := 20) (oi := { dst := some 3, op := Op.assign (Operand.tmp 28), type := 32, pos := "head.go:46", after := #[{ on := 18, ground := Ground.data }, { on := 19, ground := Ground.chain }, { on := 0, ground := Ground.phase }, { on := 1, ground := Ground.phase }, { on := 2, ground := Ground.phase }, { on := 3, ground := Ground.phase }, { on := 4, ground := Ground.phase }, { on := 5, ground := Ground.phase }, { on := 6, ground := Ground.phase }, { on := 7, ground := Ground.phase }, { on := 8, ground := Ground.phase }, { on := 9, ground := Ground.phase }, { on := 10, ground := Ground.phase }, { on := 11, ground := Ground.phase }, { on := 12, ground := Ground.phase }, { on := 13, ground := Ground.phase }, { on := 14, ground := Ground.phase }, { on := 15, ground := Ground.phase }, { on := 16, ground := Ground.phase }, { on := 17, ground := Ground.phase }, { on := 18, ground := Ground.phase }, { on := 19, ground := Ground.phase }], guard := none }) (v := .int .i64 0) rfl (by kernel_rfl) (by kernel_rfl) (by kernel_rfl) (fun _ _ _ h => h) (Or.inl ⟨by rfl, by intro W hSw; go_simp⟩) hHeld ?_
  try simp only [Act.put, List.setIfInBounds_toArray, List.set_cons_zero, List.set_cons_succ]
  refine wpAnyH_done (by kernel_rfl) ?_ _
  go_wp2
  go_ret2
  exact ⟨⟨_, _, rfl, HRD.out⟩, HBF.out⟩
theorem hPut_any (h : HdT) (hd : h.d.length = 32) (w : World) (C : Array Value) (HC : Hid (C = (hcells h).toArray)) :
    Calls Tryd.prog 61 #[.agg C] w fun e w' => BytesE (putB h) (putE h) e w' ∧ Below w.heap.size w w' := by
  unfold putB putE
  cases hr : rightH h
  · exact hPut_no h hd hr w C HC
  · exact hPut_yes h hd hr w C HC
set_option maxHeartbeats 2000000 in
theorem hLaid_any (h : HdT) (hd : h.d.length = 32) (w : World) (C : Array Value) (HC : Hid (C = (hcells h).toArray)) :
    Calls Tryd.prog 28 #[.agg C] w fun e w' => e = .returned (.string (bA (putB h))) ∧ Below w.heap.size w w' := by
  have HSC : Hid ((Tryd.prog.info? 38).map (·.size) = some C.size) := by show _ = _; rw [sizeH, HC.out]; simp [hcells_length h hd]
  have HR : Hid ((w.alloc (.cells C 38)).heap[w.heap.size]? = some (.cells C 38 (0, 0))) := heap_alloc_new w _
  have HB : Hid (Below w.heap.size w (w.alloc (.cells C 38))) := (Below.refl _ _).alloc (Nat.le_refl _) _
  have P1 : Hid (∀ W, Calls Tryd.prog 61 #[.agg C] W fun e w' => BytesE (putB h) (putE h) e w' ∧ Below W.heap.size W w') := fun W => hPut_any h hd W C HC
  obtain ⟨l, hl⟩ : ∃ l, l = putB h := ⟨_, rfl⟩
  obtain ⟨E, hE⟩ : ∃ l, l = putE h := ⟨_, rfl⟩
  obtain ⟨x, Hx⟩ : ∃ x : ByteArray, Hid (x = bA l) := ⟨bA l, hidk rfl⟩
  rw [← hl, ← hE] at P1
  rw [← hl, ← Hx.out]
  clear HC hl hE
  go_enter Tryd.func28, Tryd.ntmps28
  go_wp2_with (first
    | (show wpList _ _ _ ({ dst := some 6, op := _, type := _, pos := _, after := _, guard := _ } :: _) _ _; refine wpList_load_row rfl 38 (.tmp 1) rfl w.heap.size rfl 38 C (0, 0) _ HR.out Tryd.underlying38 rfl HSC.out ?_; try simp only [Act.put, List.setIfInBounds_toArray, List.set_cons_zero, List.set_cons_succ])
    | fail)
  refine (P1.out _).mono ?_
  rintro e w1 ⟨⟨a1, c1, rfl, hr1⟩, hb1⟩
  have HB1 := hidk (HB.out.trans (hb1.mono HB.out.size))
  have hcv := conv_reads hr1
  rw [show (⟨l.toArray⟩ : ByteArray) = x from Hx.out.symm] at hcv
  clear hb1 hr1
  go_wp2
  go_ret
  exact ⟨rfl, HB1.out⟩
/-- What is signed of a head. -/
def signT (h : HdT) : ByteArray := ⟨#[104, 101, 97, 100, 32]⟩ ++ bA (putB h)
theorem putB_length (h : HdT) (hd : h.d.length = 32) : (putB h).length ≤ 84 := by
  unfold putB
  split
  · exact headB_length h hd
  · exact Nat.zero_le _
set_option maxHeartbeats 2000000 in
theorem hText_any (h : HdT) (hd : h.d.length = 32) (w : World) (C : Array Value) (HC : Hid (C = (hcells h).toArray)) :
    Calls Tryd.prog 26 #[.agg C] w fun e w' => e = .returned (.string (signT h)) ∧ Below w.heap.size w w' := by
  have HSC : Hid ((Tryd.prog.info? 38).map (·.size) = some C.size) := by show _ = _; rw [sizeH, HC.out]; simp [hcells_length h hd]
  have HR : Hid ((w.alloc (.cells C 38)).heap[w.heap.size]? = some (.cells C 38 (0, 0))) := heap_alloc_new w _
  have HB : Hid (Below w.heap.size w (w.alloc (.cells C 38))) := (Below.refl _ _).alloc (Nat.le_refl _) _
  have P1 : Hid (∀ W, Calls Tryd.prog 28 #[.agg C] W fun e w' => e = .returned (.string (bA (putB h))) ∧ Below W.heap.size W w') := fun W => hLaid_any h hd W C HC
  have hs := putB_length h hd
  rw [← bA_size] at hs
  unfold signT
  obtain ⟨x, hx⟩ : ∃ x : ByteArray, x = bA (putB h) := ⟨_, rfl⟩
  rw [← hx] at P1 hs ⊢
  clear HC hx
  go_enter Tryd.func26, Tryd.ntmps26
  go_wp2_with (first
    | (show wpList _ _ _ ({ dst := some 3, op := _, type := _, pos := _, after := _, guard := _ } :: _) _ _; refine wpList_load_row rfl 38 (.tmp 1) rfl w.heap.size rfl 38 C (0, 0) _ HR.out Tryd.underlying38 rfl HSC.out ?_; try simp only [Act.put, List.setIfInBounds_toArray, List.set_cons_zero, List.set_cons_succ])
    | fail)
  refine (P1.out _).mono ?_
  rintro e w1 ⟨rfl, hb1⟩
  have HB1 := hidk (HB.out.trans (hb1.mono HB.out.size))
  clear hb1
  go_wp2
  go_ret
  exact ⟨rfl, HB1.out⟩
theorem signT_right (h : HdT) (hr : rightH h = true) : (signT h).data.toList = headT h := by
  unfold signT headT putB
  rw [if_pos hr]
  simp [bA]
theorem signT_size (h : HdT) (hd : h.d.length = 32) : (signT h).size ≤ 100000 := by
  have := putB_length h hd
  have e : (signT h).size = 5 + (putB h).length := by
    unfold signT
    rw [ByteArray.size_append, bA_size]
    rfl
  omega
end Go.Proofs.YtdnhnjimhbbababDoor.P7

/- What the calls of package tag answer, as the document says (their proofs are of one commit of the code); the statements' own example over them. -/
namespace Go.Proofs.YtdnhnjimhbbababDoor.P7
open Go.RowKit Sums
set_option maxRecDepth 100000
set_option linter.unusedVariables false
set_option linter.unusedSimpArgs false
/-- The tables that tag reads. -/
def TabT (w : World) : Prop := Table 0 w
theorem TabT.keep {w w' : World} (h : TabT w) (hb : Below w.heap.size w w') : TabT w' := Table.keep h hb
theorem TabT.sha {w : World} (h : TabT w) : Table 0 w := h
theorem builtY : Tryd.prog.built 24 [] = some (cellsOf (List.replicate 32 0)).toArray := by kernel_rfl
end Go.Proofs.YtdnhnjimhbbababDoor.P7

/- What tag's inner block answers: a key's bytes and 32 noughts, each turned. -/
namespace Go.Proofs.YtdnhnjimhbbababDoor.P7
open Go.RowKit Sums
set_option maxRecDepth 100000
set_option linter.unusedVariables false
set_option linter.unusedSimpArgs false
theorem zeroB : (Tryd.prog.info? 143).map (fun i => (i.zero, i.size)) = some (some (.agg (cellsOf (List.replicate 64 0)).toArray), 64) := by kernel_rfl
theorem noughtsB : ∃ Z : Array Value, Hid (Z = (cellsOf (List.replicate 64 0)).toArray) ∧ Hid ((Tryd.prog.info? 143).map (fun i => (i.zero, i.size)) = some (some (.agg Z), Z.size)) :=
  ⟨(cellsOf (List.replicate 64 0)).toArray, (rfl : _ = _), zeroB⟩
theorem run_copy_key (w : World) (ty : TypeId) (g g0 : Nat) (t t0 : TypeId) (key : List UInt8) (hk : key.length = 32) (hg : w.heap[g]? = some (.cells (cellsOf (List.replicate 64 0)).toArray t (0, 0))) (h0 : w.heap[g0]? = some (.cells (cellsOf key).toArray t0 (0, 0))) :
    (Builtin.copy_ #[43, 43] ty #[.slice (some ⟨g, 0, none⟩) 64 64, .slice (some ⟨g0, 0, none⟩) 32 32]).run Tryd.prog w = .ok (goInt 32) (w.setRow g (cellsOf (key ++ List.replicate 32 0)).toArray) := by
  have hl := run_loadCells_list (P := Tryd.prog) w ⟨g0, 0, none⟩ (cellsOf key) (fun j v hj => by
    rw [add_plain, Nat.zero_add, cell_of_row w g0 j _ t0 (0, 0) h0]
    simpa using hj)
  have hst := run_storeCells_at Tryd.prog g 0 t (cellsOf key) 0 (cellsOf (List.replicate 64 0)).toArray w hg (by simp [cellsOf_length, hk]) (fun v hv => cellsOf_one _ v hv)
  simp only [Nat.zero_add, List.take_zero, List.nil_append] at hst
  rw [cellsOf_length, hk] at hl hst
  have e : (cellsOf key ++ (cellsOf (List.replicate 64 0)).drop 32) = cellsOf (key ++ List.replicate 32 0) := by
    rw [cellsOf_append]
    congr 1
  rw [e] at hst
  simp [Builtin.copy_, run_underlying Tryd.underlying43, Builtin.lenOf, Builtin.firstCells, sizeOf5, hl, hst]
theorem step_copy_key {ops : Array Oper} {o : Oper} {a : Act} {w : World} {K : Act → World → Prop} {Q : Exit → Act → World → Prop} {E : Prop} (hw : Region.wanted o (yielded ops a.tmps) = true) (s x : Operand) (hop : o.op = Op.call { callee := Callee.builtin Builtin.copy, args := #[s, x], argTypes := #[43, 43] })
    (g g0 : Nat) (t t0 : TypeId) (hs : a.eval s = .slice (some ⟨g, 0, none⟩) 64 64) (hx : a.eval x = .slice (some ⟨g0, 0, none⟩) 32 32) (key : List UInt8) (hk : key.length = 32) (Z C : Array Value) (HZ : Hid (Z = (cellsOf (List.replicate 64 0)).toArray)) (HC : Hid (C = (cellsOf key).toArray))
    (hg : w.heap[g]? = some (.cells Z t (0, 0))) (h0 : w.heap[g0]? = some (.cells C t0 (0, 0)))
    (h : ∀ w', Hid (Wrote g (cellsOf (key ++ List.replicate 32 0)).toArray t w w') → K (a.put o.dst (.int .i64 32)) w') : if Region.wanted o (yielded ops a.tmps) = true then Oper.wp Tryd.prog o a w K Q else E := by
  rw [if_pos hw]
  have hg' := hg
  rw [HZ.out] at hg'
  rw [HC.out] at h0
  have hrun := run_copy_key w o.type g g0 t t0 key hk hg' h0
  unfold Oper.wp
  simp [execOp, hop, resolve, invoke, builtin, hs, hx, hrun, Result.andThen]
  exact h _ (wrote_row hg)
/-- The block while it is turned: its first k bytes are. -/
def turnedD (key : List UInt8) (pad : UInt8) (k : Nat) : List UInt8 := (blockD key pad).take k ++ (key ++ List.replicate 32 0).drop k
theorem turnedD_length (key : List UInt8) (pad : UInt8) (k : Nat) (hk : key.length = 32) (h : k ≤ 64) : (turnedD key pad k).length = 64 := by
  unfold turnedD
  simp [blockD_length key pad hk, hk]
  omega
theorem turnedD_at (key : List UInt8) (pad : UInt8) (k : Nat) (hk : key.length = 32) (h : k < 64) : (turnedD key pad k)[k]? = (key ++ List.replicate 32 0)[k]? := by
  unfold turnedD
  have e : ((blockD key pad).take k).length = k := by rw [List.length_take, blockD_length key pad hk]; omega
  rw [List.getElem?_append_right (by omega), e, Nat.sub_self, List.getElem?_drop, Nat.add_zero]
theorem turnedD_put (key : List UInt8) (pad : UInt8) (k : Nat) (hk : key.length = 32) (h : k < 64) (y : UInt8) (hy : (blockD key pad)[k]? = some y) : (turnedD key pad k).set k y = turnedD key pad (k + 1) := by
  unfold turnedD
  have e : ((blockD key pad).take k).length = k := by rw [List.length_take, blockD_length key pad hk]; omega
  have hl : k < (key ++ List.replicate 32 0).length := by simp [hk]; omega
  rw [List.set_append_right _ _ (by omega), e, Nat.sub_self, List.take_add_one, hy, List.drop_eq_getElem_cons hl, List.set_cons_zero]
  simp
theorem turnedD_all (key : List UInt8) (pad : UInt8) (hk : key.length = 32) : turnedD key pad 64 = blockD key pad := by
  unfold turnedD
  rw [List.take_of_length_le (by rw [blockD_length key pad hk]; omega), List.drop_of_length_le (by simp [hk])]
  simp
theorem turnedD_none (key : List UInt8) (pad : UInt8) : turnedD key pad 0 = key ++ List.replicate 32 0 := by
  unfold turnedD; simp
theorem conv_any {W : World} {g : Nat} {l : List UInt8} {n : Nat} {t : TypeId} (h : W.heap[g]? = some (.cells (cellsOf l).toArray t (0, 0))) (hn : l.length = n) : (convert 43 9 (.slice (some ⟨g, 0, none⟩) n n)).run Tryd.prog W = .ok (.string ⟨l.toArray⟩) W := by
  have := run_convert_bytes_back (P := Tryd.prog) W 43 9 5 ⟨g, 0, none⟩ n l Tryd.underlying43 Tryd.underlying5 Tryd.underlying9 (fun j hj => by
    rw [add_plain, Nat.zero_add, cell_of_row W g j _ t (0, 0) h]
    simp [cellsOf_at l j hj])
  rw [hn] at this
  exact this
set_option maxHeartbeats 4000000 in
theorem blk_any (key : List UInt8) (pad : UInt8) (w : World) (Ky : Array Value) (HK : Hid (Ky = (cellsOf key).toArray)) (hk : key.length = 32) (s : ByteArray) (Hs : Hid (s = ⟨(blockD key pad).toArray⟩)) :
    Calls Tryd.prog 58 #[.agg Ky, .int .u8 (pad.toNat : Int)] w fun e w' => e = .returned (.string s) ∧ Below w.heap.size w w' := by
  obtain ⟨Z, HZ, HA⟩ := noughtsB
  have hbl := blockD_length key pad hk
  go_enter Tryd.func58, Tryd.ntmps58
  go_wp2_with (first
    | (show wpList _ _ _ ({ dst := some 5, op := _, type := _, pos := _, after := _, guard := _ } :: _) _ _; refine wpList_new_var rfl 143 rfl Z HA.out ?_; intro g5 w1 HM5; try simp only [Act.put, List.setIfInBounds_toArray, List.set_cons_zero, List.set_cons_succ])
    | fail)
  have HB1 : Hid (Below w.heap.size w w1) := ((Below.refl _ _).alloc (Nat.le_refl _) _).trans (HM5.out.below.mono (by simp))
  have HK1 := hidk ((HM5.out.below.block _ (by simp)).trans (heap_alloc_new w (.cells Ky 24)))
  have h5 : w.heap.size < g5 := by have e := HM5.out.new; simp at e; omega
  have HR5 := hidk HM5.out.row
  clear HM5
  refine wp_region_held_drew (S := (fun W => W.heap[w.heap.size]? = some (.cells Ky 24 (0, 0)))) (by kernel_rfl) HK1.out (fun hHeld => ?_)
  refine wpAnyH_take (i := 0) (oi := { dst := some 7, op := Op.slice 143 (Operand.tmp 5) none none none, type := 43, pos := "tag.go:57", after := #[], guard := none }) (v := .slice (some ⟨g5, 0, none⟩) 64 64) rfl (by kernel_rfl) (by kernel_rfl) (by kernel_rfl) (fun _ _ _ h => h) (Or.inl ⟨by rfl, by intro W hSw; go_simp⟩) hHeld ?_
  try simp only [Act.put, List.setIfInBounds_toArray, List.set_cons_zero, List.set_cons_succ]
  refine wpAnyH_take (i := 1) (oi := { dst := some 8, op := Op.slice 24 (Operand.tmp 2) none none none, type := 43, pos := "tag.go:57", after := #[], guard := none }) (v := .slice (some ⟨w.heap.size, 0, none⟩) 32 32) rfl (by kernel_rfl) (by kernel_rfl) (by kernel_rfl) (fun _ _ _ h => h) (Or.inl ⟨by rfl, by intro W hSw; go_simp⟩) hHeld ?_
  try simp only [Act.put, List.setIfInBounds_toArray, List.set_cons_zero, List.set_cons_succ]
  refine wpAnyH_ready (rs := [2]) (by kernel_rfl) (by simp) ?_
  refine (AllReadyH.cons (o := { dst := some 9, op := Op.call { callee := Callee.builtin Builtin.copy, args := #[Operand.tmp 7, Operand.tmp 8], argTypes := #[43, 43] }, type := 3, pos := "tag.go:57", after := #[{ on := 0, ground := Ground.data }, { on := 1, ground := Ground.data }], guard := none }) rfl (fun K hK => ?_) AllReadyH.nil)
  refine step_copy_key (by rfl) (.tmp 7) (.tmp 8) rfl g5 w.heap.size 143 24 rfl rfl key hk Z Ky HZ HK HR5.out hHeld ?_
  intro wz HW5
  refine hK.out _ _ ((HW5.out.other _ (by omega)).trans hHeld) (fun hHeld => ?_)
  clear hK K
  try simp only [Act.put, List.setIfInBounds_toArray, List.set_cons_zero, List.set_cons_succ]
  refine wpAnyH_done (by kernel_rfl) ?_ _
  have HL0 : Hid (wz.heap[g5]? = some (.cells (cellsOf (turnedD key pad 0)).toArray 143 (0, 0)) ∧ Below w.heap.size w wz) := ⟨by rw [turnedD_none]; exact HW5.out.row, HW5.out.below _ _ HB1.out.drew (by omega)⟩
  clear HW5 HB1 HK1 HR5
  go_wp2
  go_loopw [10] (fun i wr => ∃ k : Nat, k ≤ 64 ∧ i = .int .i64 k ∧ Hid (wr.heap[g5]? = some (.cells (cellsOf (turnedD key pad k)).toArray 143 (0, 0)) ∧ Below w.heap.size w wr)) (fun i _ => 64 - (intOf i).toNat)
  case atStart => exact ⟨0, by omega, rfl, HL0⟩
  case round =>
    clear HL0
    obtain ⟨k, hk64, rfl, HL⟩ := hrel
    by_cases hlt : k < 64
    · have dk : decide ((k : Int) < 64) = true := by rw [decide_eq_true_eq]; omega
      have dk' : decide (k < 64) = true := by rw [decide_eq_true_eq]; omega
      have hlk : k < (key ++ List.replicate 32 0).length := by simp [hk]; omega
      obtain ⟨x, HX⟩ : ∃ x : UInt8, Hid ((key ++ List.replicate 32 0)[k]? = some x) := ⟨(key ++ List.replicate 32 0)[k], List.getElem?_eq_getElem hlk⟩
      obtain ⟨y, HY⟩ : ∃ y : UInt8, Hid (y = x ^^^ pad) := ⟨x ^^^ pad, hidk rfl⟩
      have Hy : Hid ((blockD key pad)[k]? = some y) := by
        show _ = _
        unfold blockD
        rw [List.getElem?_map, HX.out, HY.out]
        rfl
      have hx : bits .xor .u8 (x.toNat : Int) (pad.toNat : Int) = (y.toNat : Int) := by rw [HY.out]; exact xor8 x pad
      have hc : wr.cell? ⟨g5, k, none⟩ = some (.int .u8 (x.toNat : Int)) := by
        rw [cell_of_row wr _ k _ 143 (0, 0) HL.out.1]
        have e := turnedD_at key pad k hk hlt
        rw [HX.out] at e
        obtain ⟨hh, e2⟩ := List.getElem?_eq_some_iff.1 e
        rw [← e2]
        simpa using cellsOf_at (turnedD key pad k) k hh
      have hz := hidk (show (cellsOf (turnedD key pad k)).toArray.size = 64 by rw [List.size_toArray, cellsOf_length, turnedD_length key pad k hk hk64])
      clear HX HY hlk
      go_wp2_with (first
        | (refine wpList_put8 rfl 5 (.tmp 18) (.tmp 17) rfl sizeOf5 g5 k (y.toNat : Int) rfl rfl (cellsOf (turnedD key pad k)).toArray 143 HL.out.1 (by rw [hz.out]; exact hlt) ?_; intro wa H1; try simp only [Act.put, List.setIfInBounds_toArray, List.set_cons_zero, List.set_cons_succ])
        | fail)
      have HL' : Hid (wa.heap[g5]? = some (.cells (cellsOf (turnedD key pad (k + 1))).toArray 143 (0, 0)) ∧ Below w.heap.size w wa) := by
        refine ⟨?_, H1.out.below _ _ HL.out.2 (by omega)⟩
        rw [H1.out.row, cells_put, turnedD_put key pad k hk hlt y Hy.out]
      clear H1 HL hc hx
      go_roundw
      case rel => exact ⟨k + 1, by omega, by go_num, HL'⟩
      case measure => simp [intOf]; omega
    · obtain rfl : k = 64 := by omega
      have hcv : (convert 43 9 (.slice (some ⟨g5, 0, none⟩) 64 64)).run Tryd.prog wr = .ok (.string s) wr := by
        rw [Hs.out]
        have := HL.out.1
        rw [turnedD_all key pad hk] at this
        exact conv_any this hbl
      have HBL := hidk HL.out.2
      clear HL
      go_wp2
      go_ret
      exact ⟨rfl, HBL.out⟩
end Go.Proofs.YtdnhnjimhbbababDoor.P7

/- What tag.Mac answers. -/
namespace Go.Proofs.YtdnhnjimhbbababDoor.P7
open Go.RowKit Sums
set_option maxRecDepth 100000
set_option linter.unusedVariables false
set_option linter.unusedSimpArgs false
set_option maxHeartbeats 8000000 in
theorem mac_any (key : List UInt8) (s : ByteArray) (w : World) (Ky D : Array Value) (HK : Hid (Ky = (cellsOf key).toArray)) (hk : key.length = 32) (hs : s.size ≤ 100000) (hT : TabT w) (HD : Hid (D = (cellsOf (macD key s.data.toList)).toArray)) :
    Calls Tryd.prog 25 #[.agg Ky, .string s] w fun e w' => e = .returned (.agg D) ∧ Below w.heap.size w w' := by
  obtain ⟨Z, HZ, HA, HS, H1, H32⟩ := noughts27
  have HSK : Hid ((Tryd.prog.info? 24).map (·.size) = some Ky.size) := by show _ = _; rw [sizeY, HK.out]; simp [cellsOf_length, hk]
  have HSD : Hid ((Tryd.prog.info? 30).map (·.size) = some D.size) := by show _ = _; rw [size23, HD.out]; simp [cellsOf_length, macD, sumD_length]
  have H1D : Hid (D.all (·.oneCell') = true) := by show _ = _; rw [HD.out]; exact cellsOf_all _
  have HZD : Hid (Z.size = D.size) := by show _ = _; rw [H32.out, HD.out]; simp [cellsOf_length, macD, sumD_length]
  obtain ⟨b1, HB1⟩ : ∃ b : ByteArray, Hid (b = ⟨(blockD key 54).toArray⟩) := ⟨_, (rfl : _ = _)⟩
  obtain ⟨b2, HB2⟩ : ∃ b : ByteArray, Hid (b = ⟨(blockD key 92).toArray⟩) := ⟨_, (rfl : _ = _)⟩
  have hz1 : b1.size = 64 := by rw [HB1.out]; show (blockD key 54).toArray.size = 64; simpa using blockD_length key 54 hk
  have hz2 : b2.size = 64 := by rw [HB2.out]; show (blockD key 92).toArray.size = 64; simpa using blockD_length key 92 hk
  obtain ⟨m, Hm⟩ : ∃ m, Hid (m = sumD (blockD key 54 ++ s.data.toList)) := ⟨_, (rfl : _ = _)⟩
  have hm32 : m.length = 32 := by rw [Hm.out]; exact sumD_length _
  obtain ⟨M, HM, HSM, H1M, H32M⟩ := dig_row' m hm32
  have HZM : Hid (Z.size = M.size) := by show _ = _; rw [H32.out, H32M.out]
  obtain ⟨x, HX⟩ : ∃ x : ByteArray, Hid (x = ⟨m.toArray⟩) := ⟨_, (rfl : _ = _)⟩
  have hzx : x.size = 32 := by rw [HX.out]; show m.toArray.size = 32; simpa using hm32
  have C1 : Hid (∀ W, Calls Tryd.prog 58 #[.agg Ky, .int .u8 54] W fun e w' => e = .returned (.string b1) ∧ Below W.heap.size W w') := fun W => blk_any key 54 W Ky HK hk b1 HB1
  have C2 : Hid (∀ W, Calls Tryd.prog 58 #[.agg Ky, .int .u8 92] W fun e w' => e = .returned (.string b2) ∧ Below W.heap.size W w') := fun W => blk_any key 92 W Ky HK hk b2 HB2
  have O1 : Hid (∀ W g, g = W.heap.size → Below w.heap.size w W → Calls Tryd.prog 18 #[.slice (some ⟨g, 0, none⟩) 2 2] (W.alloc (.cells #[.string b1, .string s] 9)) fun e w' => e = .returned (.agg M) ∧ Below W.heap.size W w') := fun W g hg hb =>
    of_new [b1, s] 9 W (by show b1.size + (s.size + 0) ≤ 1000000; omega) (by show 2 ≤ _; decide) (hT.keep hb).sha M (by show _ = _; rw [HM.out, Hm.out, HB1.out]; simp [joinL]) 2 2 g rfl hg _ rfl
  have O2 : Hid (∀ W g, Texts W (some ⟨g, 0, none⟩) 2 [b2, x] → Below w.heap.size w W → Calls Tryd.prog 18 #[.slice (some ⟨g, 0, none⟩) 2 2] W fun e w' => e = .returned (.agg D) ∧ Below W.heap.size W w') := fun W g hx hb =>
    of_lies [b2, x] (by show b2.size + (x.size + 0) ≤ 1000000; omega) (by show 2 ≤ _; decide) D (by show _ = _; rw [HD.out, HB2.out, HX.out, Hm.out]; simp [joinL, macD]) W _ 2 2 hx (hT.keep hb).sha
  have HCX : Hid (∀ (W : World) (g : Nat), W.rangeAt g 0 (cellsOf m) → Sem.run Tryd.prog (convert 43 9 (.slice (some ⟨g, 0, none⟩) 32 32)) W = .ok (.string x) W) := fun W g h => by rw [HX.out]; exact conv_at W g 0 m hm32 h
  have HMR : Hid (M.toList = cellsOf m) := by show _ = _; rw [HM.out]
  clear hT HD HX HM Hm HB1 HB2 HK
  go_enter Tryd.func25, Tryd.ntmps25
  go_wp2_with (first
    | (show wpList _ _ _ ({ dst := some 4, op := _, type := _, pos := _, after := _, guard := _ } :: _) _ _; refine wpList_new_var rfl 30 rfl Z HA.out ?_; intro g4 w1 HM4; have HBW1 : Hid (Below w.heap.size w w1) := ((Below.refl _ _).alloc (Nat.le_refl _) _).trans (HM4.out.below.mono (by simp)); have HK1 := hidk ((HM4.out.below.block _ (by simp)).trans (heap_alloc_new w (.cells Ky 24))); try simp only [Act.put, List.setIfInBounds_toArray, List.set_cons_zero, List.set_cons_succ])
    | (show wpList _ _ _ ({ dst := some 6, op := _, type := _, pos := _, after := _, guard := _ } :: _) _ _; refine wpList_load_row rfl 24 (.tmp 2) rfl w.heap.size rfl 24 Ky (0, 0) _ HK1.out Tryd.underlying24 rfl HSK.out ?_; try simp only [Act.put, List.setIfInBounds_toArray, List.set_cons_zero, List.set_cons_succ])
    | fail)
  have h4 : w.heap.size < g4 := by have e := HM4.out.new; simp at e; omega
  have HR4 := hidk HM4.out.row
  clear HM4
  refine (C1.out _).mono ?_
  rintro e w2 ⟨rfl, hb2⟩
  have HB2w := hidk (HBW1.out.trans (hb2.mono HBW1.out.size))
  have HK2 := hidk ((hb2.block _ (heap_lt HK1.out)).trans HK1.out)
  have HR42 := hidk ((hb2.block _ (heap_lt HR4.out)).trans HR4.out)
  clear hb2 HBW1 HK1 HR4 C1
  go_wp2_with fail
  refine (O1.out _ _ rfl HB2w.out).mono ?_
  rintro e w3 ⟨rfl, hb3⟩
  have HB3w := hidk (HB2w.out.trans (hb3.mono HB2w.out.size))
  have HK3 := hidk ((hb3.block _ (heap_lt HK2.out)).trans HK2.out)
  have HR43 := hidk ((hb3.block _ (heap_lt HR42.out)).trans HR42.out)
  clear hb3 HB2w HK2 HR42 O1
  go_wp2_with (first
    | (show wpList _ _ _ ({ dst := some 5, op := _, type := _, pos := _, after := _, guard := _ } :: _) _ _; refine wpList_new_var rfl 30 rfl Z HA.out ?_; intro g5 w4 HM5; try simp only [Act.put, List.setIfInBounds_toArray, List.set_cons_zero, List.set_cons_succ])
    | (refine wpList_set_var rfl 30 (.tmp 5) (.tmp 10) rfl g5 M rfl rfl 30 Z HM5.out.row HSM.out HZM.out H1M.out ?_; intro w5 HW5; try simp only [Act.put, List.setIfInBounds_toArray, List.set_cons_zero, List.set_cons_succ])
    | fail)
  have h5 : g4 < g5 := by rw [HM5.out.new]; exact heap_lt HR43.out
  have HB5 := hidk (HW5.out.below w3.heap.size w3 HM5.out.below (Nat.le_of_eq HM5.out.new.symm))
  have HB5w := hidk (HB3w.out.trans (HB5.out.mono HB3w.out.size))
  have HK5 := hidk ((HB5.out.block _ (heap_lt HK3.out)).trans HK3.out)
  have HR45 := hidk ((HB5.out.block _ (heap_lt HR43.out)).trans HR43.out)
  have HR5 := hidk HW5.out.row
  clear HM5 HW5 HB5 HB3w HK3 HR43
  have HBc : Hid (Below w.heap.size w w5.drew) := HB5w.out.drew
  have HR4c : Hid (w5.drew.heap[g4]? = some (.cells Z 30 (0, 0))) := HR45.out
  have HS5 := fun W => slice_at W g5 0
  clear HB5w HR45
  refine wp_region_held_drew (S := (fun W => W.heap[w.heap.size]? = some (.cells Ky 24 (0, 0)) ∧ W.heap[g5]? = some (.cells M 30 (0, 0)))) (by kernel_rfl) ⟨HK5.out, HR5.out⟩ (fun hHeld => ?_)
  refine wpAnyH_take (i := 0) (oi := { dst := some 11, op := Op.load 24 (Operand.tmp 2), type := 24, pos := "tag.go:20", after := #[], guard := none }) (v := .agg Ky) rfl (by kernel_rfl) (by kernel_rfl) (by kernel_rfl) (fun _ _ _ h => h) (yieldsIf_row (by rfl) 24 (.tmp 2) rfl w.heap.size rfl 24 Ky (0, 0) _ (fun _ h => h.1) Tryd.underlying24 rfl HSK.out) hHeld ?_
  try simp only [Act.put, List.setIfInBounds_toArray, List.set_cons_zero, List.set_cons_succ]
  refine wpAnyH_take (i := 2) (oi := { dst := some 13, op := Op.slice 30 (Operand.tmp 5) none none none, type := 43, pos := "tag.go:20", after := #[], guard := none }) (v := .slice (some ⟨g5, 0, none⟩) 32 32) rfl (by kernel_rfl) (by kernel_rfl) (by kernel_rfl) (fun _ _ _ h => h) (Or.inl ⟨by rfl, by intro W hSw; have := HS5 W; go_simp⟩) hHeld ?_
  try simp only [Act.put, List.setIfInBounds_toArray, List.set_cons_zero, List.set_cons_succ]
  refine wpAnyH_take (i := 3) (oi := { dst := some 14, op := Op.convert 43 9 (Operand.tmp 13), type := 9, pos := "tag.go:20", after := #[{ on := 2, ground := Ground.data }], guard := none }) (v := .string x) rfl (by kernel_rfl) (by kernel_rfl) (by kernel_rfl) (fun _ _ _ h => h) (Or.inl ⟨by rfl, by intro W hSw; have := HCX.out W g5 (by rw [← HMR.out]; exact range_row (by simpa using hSw.2)); go_simp⟩) hHeld ?_
  try simp only [Act.put, List.setIfInBounds_toArray, List.set_cons_zero, List.set_cons_succ]
  refine wpAnyH_ready (rs := [1]) (by kernel_rfl) (by simp) ?_
  refine (AllReadyH.cons (o := { dst := some 12, op := Op.call { callee := Callee.value (Operand.func 58), args := #[Operand.tmp 11, Operand.const (Value.int IntKind.u8 92)], argTypes := #[24, 5] }, type := 9, pos := "tag.go:20", after := #[{ on := 0, ground := Ground.data }], guard := none }) rfl (fun K hK => ?_) AllReadyH.nil)
  go_simp
  refine (C2.out _).mono ?_
  rintro e w1 ⟨rfl, hbx⟩
  replace HBc := hidk (HBc.out.trans (hbx.mono HBc.out.size))
  replace HR4c := hidk ((hbx.block _ (heap_lt HR4c.out)).trans HR4c.out)
  go_wp2_with fail
  refine hK.out _ _ ⟨(hbx.block _ (heap_lt hHeld.1)).trans hHeld.1, (hbx.block _ (heap_lt hHeld.2)).trans hHeld.2⟩ (fun hHeld => ?_)
  clear hK K
  try simp only [Act.put, List.setIfInBounds_toArray, List.set_cons_zero, List.set_cons_succ]
  refine wpAnyH_ready (rs := [4]) (by kernel_rfl) (by simp) ?_
  refine (AllReadyH.cons (o := { dst := some 15, op := Op.buildSlice 22 2 #[(0, Operand.tmp 12), (1, Operand.tmp 14)], type := 22, pos := "tag.go:20", after := #[{ on := 1, ground := Ground.data }, { on := 3, ground := Ground.data }], guard := none }) rfl (fun K hK => ?_) AllReadyH.nil)
  go_simp
  have HTX := hidk (texts_new w1 [b2, x] 9)
  replace HBc := hidk (HBc.out.alloc HBc.out.size (.cells #[.string b2, .string x] 9))
  replace HR4c := hidk (heap_keep (o' := .cells #[.string b2, .string x] 9) HR4c.out)
  refine hK.out _ _ ⟨heap_keep hHeld.1, heap_keep hHeld.2⟩ (fun hHeld => ?_)
  clear hK K
  try simp only [Act.put, List.setIfInBounds_toArray, List.set_cons_zero, List.set_cons_succ]
  refine wpAnyH_ready (rs := [5]) (by kernel_rfl) (by simp) ?_
  refine (AllReadyH.cons (o := { dst := some 16, op := Op.call { callee := Callee.value (Operand.func 18), args := #[Operand.tmp 15], argTypes := #[22] }, type := 30, pos := "tag.go:20", after := #[{ on := 4, ground := Ground.data }, { on := 1, ground := Ground.chain }], guard := none }) rfl (fun K hK => ?_) AllReadyH.nil)
  go_simp
  refine (O2.out _ _ HTX.out HBc.out).mono ?_
  rintro e w5 ⟨rfl, hbz⟩
  replace HBc := hidk (HBc.out.trans (hbz.mono HBc.out.size))
  replace HR4c := hidk ((hbz.block _ (heap_lt HR4c.out)).trans HR4c.out)
  go_wp2_with fail
  refine hK.out _ _ ⟨(hbz.block _ (heap_lt hHeld.1)).trans hHeld.1, (hbz.block _ (heap_lt hHeld.2)).trans hHeld.2⟩ (fun hHeld => ?_)
  clear hK K
  try simp only [Act.put, List.setIfInBounds_toArray, List.set_cons_zero, List.set_cons_succ]
  refine wpAnyH_ready (rs := [6]) (by kernel_rfl) (by simp) ?_
  refine (AllReadyH.cons (o := { dst := none, op := Op.store 30 (Operand.tmp 4) (Operand.tmp 16), type := 0, pos := "tag.go:20", after := #[{ on := 5, ground := Ground.data }, { on := 5, ground := Ground.chain }, { on := 0, ground := Ground.phase }, { on := 1, ground := Ground.phase }, { on := 2, ground := Ground.phase }, { on := 3, ground := Ground.phase }, { on := 4, ground := Ground.phase }, { on := 5, ground := Ground.phase }], guard := none }) rfl (fun K hK => ?_) AllReadyH.nil)
  refine step_set_var (by rfl) 30 (.tmp 4) (.tmp 16) rfl g4 D rfl rfl 30 Z HR4c.out HSD.out HZD.out H1D.out ?_
  intro wz HW4
  refine hK.out _ _ ⟨(HW4.out.other w.heap.size (by omega)).trans hHeld.1, (HW4.out.other g5 (by omega)).trans hHeld.2⟩ (fun hHeld => ?_)
  clear hK K
  try simp only [Act.put, List.setIfInBounds_toArray, List.set_cons_zero, List.set_cons_succ]
  refine wpAnyH_done (by kernel_rfl) ?_ _
  go_wp2
  refine bodyPost_ret (v := .agg D) ?_ rfl ⟨rfl, HW4.out.below w.heap.size w HBc.out (by omega)⟩
  exact results_cell_row (p := 4) (ty := 30) rfl _ _ g4 30 D (0, 0) _ rfl HW4.out.row Tryd.underlying30 rfl HSD.out
end Go.Proofs.YtdnhnjimhbbababDoor.P7

/- What tag.Key answers. -/
namespace Go.Proofs.YtdnhnjimhbbababDoor.P7
open Go.RowKit Sums
set_option maxRecDepth 100000
set_option linter.unusedVariables false
set_option linter.unusedSimpArgs false
theorem zero3 : (Tryd.prog.info? 107).map (fun i => (i.zero, i.size)) = some (some (.agg #[.int .u8 0, .int .u8 0, .int .u8 0]), 3) := by kernel_rfl
theorem size3b : (Tryd.prog.info? 107).map (·.size) = some 3 := by kernel_rfl
theorem built3 (r n : Int) : Tryd.prog.built 107 [(0, .int .u8 75), (1, .int .u8 r), (2, .int .u8 n)] = some #[.int .u8 75, .int .u8 r, .int .u8 n] := by
  have h1 : (Tryd.prog.built 107 [(0, .int .u8 75), (1, .int .u8 0), (2, .int .u8 0)]).isSome = true := by kernel_rfl
  first | rfl | simp [Program.built] | kernel_rfl
theorem wpList_build_three {P : Program} {ops : Array Oper} {rest : List Oper} {o : Oper} {a : Act} {w : World} {Q : Exit → Act → World → Prop} (hg : o.guard = none) (t : TypeId) (x y z : Operand) (ho : o.op = .build t #[(0, x), (1, y), (2, z)])
    (cs : Array Value) (vx vy vz : Value) (hx : a.eval x = vx) (hy : a.eval y = vy) (hz : a.eval z = vz) (hb : P.built t [(0, vx), (1, vy), (2, vz)] = some cs) (h : wpList P ops Q rest (a.put o.dst (.agg cs)) w) : wpList P ops Q (o :: rest) a w :=
  wpList_build_row hg t #[(0, x), (1, y), (2, z)] ho cs (by simpa [hx, hy, hz] using hb) h
theorem conv3 (W : World) (g : Nat) (r n : Int) (hr : 0 ≤ r ∧ r ≤ 255) (hn : 0 ≤ n ∧ n ≤ 255) (t : TypeId) (h : W.heap[g]? = some (.cells #[.int .u8 75, .int .u8 r, .int .u8 n] t (0, 0))) : (convert 43 9 (.slice (some ⟨g, 0, none⟩) 3 3)).run Tryd.prog W = .ok (.string ⟨#[75, UInt8.ofNat r.toNat, UInt8.ofNat n.toNat]⟩) W := by
  have e1 : ((UInt8.ofNat r.toNat).toNat : Int) = r := by rw [UInt8.toNat_ofNat']; omega
  have e2 : ((UInt8.ofNat n.toNat).toNat : Int) = n := by rw [UInt8.toNat_ofNat']; omega
  refine conv_any (l := [75, UInt8.ofNat r.toNat, UInt8.ofNat n.toNat]) (t := t) ?_ rfl
  rw [h]
  show _ = some (Obj.cells #[.int .u8 75, .int .u8 ((UInt8.ofNat r.toNat).toNat : Int), .int .u8 ((UInt8.ofNat n.toNat).toNat : Int)] t (0, 0))
  rw [e1, e2]
set_option maxHeartbeats 4000000 in
theorem key_out1 (r n : Int) (w : World) (M Z : Array Value) (HBY : Hid (Tryd.prog.built 24 [] = some Z)) (HA : Hid ((Tryd.prog.info? 24).map (fun i => (i.zero, i.size)) = some (some (.agg Z), Z.size))) (HSZ : Hid ((Tryd.prog.info? 24).map (·.size) = some Z.size)) (H1Z : Hid (Z.all (·.oneCell') = true)) (hd : r < 1) :
    Calls Tryd.prog 24 #[.agg M, .int .i64 r, .int .i64 n] w fun e w' => e = .returned (.tuple #[.agg Z, .int .i64 50]) ∧ Below w.heap.size w w' := by
  have d1 : decide (r < 1) = true := by rw [decide_eq_true_eq]; omega
  clear hd
  go_enter Tryd.func24, Tryd.ntmps24
  go_wp2_with (first
    | (show wpList _ _ _ ({ dst := some 6, op := _, type := _, pos := _, after := _, guard := _ } :: _) _ _; refine wpList_new_var rfl 24 rfl Z HA.out ?_; intro g6 w1 HM6; try simp only [Act.put, List.setIfInBounds_toArray, List.set_cons_zero, List.set_cons_succ])
    | (show wpList _ _ _ ({ dst := some 23, op := _, type := _, pos := _, after := _, guard := _ } :: _) _ _; refine wpList_build_none rfl 24 rfl Z HBY.out ?_; try simp only [Act.put, List.setIfInBounds_toArray, List.set_cons_zero, List.set_cons_succ])
    | (refine wpList_set_var rfl 24 (.tmp 6) (.tmp 23) rfl g6 Z rfl rfl 24 Z HM6.out.row HSZ.out rfl H1Z.out ?_; intro w2 HW6; try simp only [Act.put, List.setIfInBounds_toArray, List.set_cons_zero, List.set_cons_succ])
    | fail)
  refine bodyPost_ret (v := .tuple #[.agg Z, .int .i64 50]) ?_ rfl ⟨rfl, ?_⟩
  · exact results_row_tmp (p := 6) (q := 7) (ty := 24) rfl _ _ g6 24 Z (0, 0) _ rfl HW6.out.row Tryd.underlying24 rfl HSZ.out
  · have e := HM6.out.new
    rw [alloc_size] at e
    exact HW6.out.below w.heap.size w (((Below.refl _ _).alloc (Nat.le_refl _) _).trans (HM6.out.below.mono (by simp))) (by omega)
set_option maxHeartbeats 4000000 in
theorem key_out2 (r n : Int) (w : World) (M Z : Array Value) (HBY : Hid (Tryd.prog.built 24 [] = some Z)) (HA : Hid ((Tryd.prog.info? 24).map (fun i => (i.zero, i.size)) = some (some (.agg Z), Z.size))) (HSZ : Hid ((Tryd.prog.info? 24).map (·.size) = some Z.size)) (H1Z : Hid (Z.all (·.oneCell') = true)) (hd : ¬ r < 1 ∧ 5 < r) :
    Calls Tryd.prog 24 #[.agg M, .int .i64 r, .int .i64 n] w fun e w' => e = .returned (.tuple #[.agg Z, .int .i64 50]) ∧ Below w.heap.size w w' := by
  have d1 : decide (r < 1) = false := by rw [decide_eq_false_iff_not]; omega
  have d2 : decide (5 < r) = true := by rw [decide_eq_true_eq]; omega
  clear hd
  go_enter Tryd.func24, Tryd.ntmps24
  go_wp2_with (first
    | (show wpList _ _ _ ({ dst := some 6, op := _, type := _, pos := _, after := _, guard := _ } :: _) _ _; refine wpList_new_var rfl 24 rfl Z HA.out ?_; intro g6 w1 HM6; try simp only [Act.put, List.setIfInBounds_toArray, List.set_cons_zero, List.set_cons_succ])
    | (show wpList _ _ _ ({ dst := some 23, op := _, type := _, pos := _, after := _, guard := _ } :: _) _ _; refine wpList_build_none rfl 24 rfl Z HBY.out ?_; try simp only [Act.put, List.setIfInBounds_toArray, List.set_cons_zero, List.set_cons_succ])
    | (refine wpList_set_var rfl 24 (.tmp 6) (.tmp 23) rfl g6 Z rfl rfl 24 Z HM6.out.row HSZ.out rfl H1Z.out ?_; intro w2 HW6; try simp only [Act.put, List.setIfInBounds_toArray, List.set_cons_zero, List.set_cons_succ])
    | fail)
  refine bodyPost_ret (v := .tuple #[.agg Z, .int .i64 50]) ?_ rfl ⟨rfl, ?_⟩
  · exact results_row_tmp (p := 6) (q := 7) (ty := 24) rfl _ _ g6 24 Z (0, 0) _ rfl HW6.out.row Tryd.underlying24 rfl HSZ.out
  · have e := HM6.out.new
    rw [alloc_size] at e
    exact HW6.out.below w.heap.size w (((Below.refl _ _).alloc (Nat.le_refl _) _).trans (HM6.out.below.mono (by simp))) (by omega)
set_option maxHeartbeats 4000000 in
theorem key_out3 (r n : Int) (w : World) (M Z : Array Value) (HBY : Hid (Tryd.prog.built 24 [] = some Z)) (HA : Hid ((Tryd.prog.info? 24).map (fun i => (i.zero, i.size)) = some (some (.agg Z), Z.size))) (HSZ : Hid ((Tryd.prog.info? 24).map (·.size) = some Z.size)) (H1Z : Hid (Z.all (·.oneCell') = true)) (hd : ¬ r < 1 ∧ ¬ 5 < r ∧ n < 1) :
    Calls Tryd.prog 24 #[.agg M, .int .i64 r, .int .i64 n] w fun e w' => e = .returned (.tuple #[.agg Z, .int .i64 50]) ∧ Below w.heap.size w w' := by
  have d1 : decide (r < 1) = false := by rw [decide_eq_false_iff_not]; omega
  have d2 : decide (5 < r) = false := by rw [decide_eq_false_iff_not]; omega
  have d3 : decide (n < 1) = true := by rw [decide_eq_true_eq]; omega
  clear hd
  go_enter Tryd.func24, Tryd.ntmps24
  go_wp2_with (first
    | (show wpList _ _ _ ({ dst := some 6, op := _, type := _, pos := _, after := _, guard := _ } :: _) _ _; refine wpList_new_var rfl 24 rfl Z HA.out ?_; intro g6 w1 HM6; try simp only [Act.put, List.setIfInBounds_toArray, List.set_cons_zero, List.set_cons_succ])
    | (show wpList _ _ _ ({ dst := some 23, op := _, type := _, pos := _, after := _, guard := _ } :: _) _ _; refine wpList_build_none rfl 24 rfl Z HBY.out ?_; try simp only [Act.put, List.setIfInBounds_toArray, List.set_cons_zero, List.set_cons_succ])
    | (refine wpList_set_var rfl 24 (.tmp 6) (.tmp 23) rfl g6 Z rfl rfl 24 Z HM6.out.row HSZ.out rfl H1Z.out ?_; intro w2 HW6; try simp only [Act.put, List.setIfInBounds_toArray, List.set_cons_zero, List.set_cons_succ])
    | fail)
  refine bodyPost_ret (v := .tuple #[.agg Z, .int .i64 50]) ?_ rfl ⟨rfl, ?_⟩
  · exact results_row_tmp (p := 6) (q := 7) (ty := 24) rfl _ _ g6 24 Z (0, 0) _ rfl HW6.out.row Tryd.underlying24 rfl HSZ.out
  · have e := HM6.out.new
    rw [alloc_size] at e
    exact HW6.out.below w.heap.size w (((Below.refl _ _).alloc (Nat.le_refl _) _).trans (HM6.out.below.mono (by simp))) (by omega)
set_option maxHeartbeats 4000000 in
theorem key_out4 (r n : Int) (w : World) (M Z : Array Value) (HBY : Hid (Tryd.prog.built 24 [] = some Z)) (HA : Hid ((Tryd.prog.info? 24).map (fun i => (i.zero, i.size)) = some (some (.agg Z), Z.size))) (HSZ : Hid ((Tryd.prog.info? 24).map (·.size) = some Z.size)) (H1Z : Hid (Z.all (·.oneCell') = true)) (hd : ¬ r < 1 ∧ ¬ 5 < r ∧ ¬ n < 1 ∧ 3 < n) :
    Calls Tryd.prog 24 #[.agg M, .int .i64 r, .int .i64 n] w fun e w' => e = .returned (.tuple #[.agg Z, .int .i64 50]) ∧ Below w.heap.size w w' := by
  have d1 : decide (r < 1) = false := by rw [decide_eq_false_iff_not]; omega
  have d2 : decide (5 < r) = false := by rw [decide_eq_false_iff_not]; omega
  have d3 : decide (n < 1) = false := by rw [decide_eq_false_iff_not]; omega
  have d4 : decide (3 < n) = true := by rw [decide_eq_true_eq]; omega
  clear hd
  go_enter Tryd.func24, Tryd.ntmps24
  go_wp2_with (first
    | (show wpList _ _ _ ({ dst := some 6, op := _, type := _, pos := _, after := _, guard := _ } :: _) _ _; refine wpList_new_var rfl 24 rfl Z HA.out ?_; intro g6 w1 HM6; try simp only [Act.put, List.setIfInBounds_toArray, List.set_cons_zero, List.set_cons_succ])
    | (show wpList _ _ _ ({ dst := some 23, op := _, type := _, pos := _, after := _, guard := _ } :: _) _ _; refine wpList_build_none rfl 24 rfl Z HBY.out ?_; try simp only [Act.put, List.setIfInBounds_toArray, List.set_cons_zero, List.set_cons_succ])
    | (refine wpList_set_var rfl 24 (.tmp 6) (.tmp 23) rfl g6 Z rfl rfl 24 Z HM6.out.row HSZ.out rfl H1Z.out ?_; intro w2 HW6; try simp only [Act.put, List.setIfInBounds_toArray, List.set_cons_zero, List.set_cons_succ])
    | fail)
  refine bodyPost_ret (v := .tuple #[.agg Z, .int .i64 50]) ?_ rfl ⟨rfl, ?_⟩
  · exact results_row_tmp (p := 6) (q := 7) (ty := 24) rfl _ _ g6 24 Z (0, 0) _ rfl HW6.out.row Tryd.underlying24 rfl HSZ.out
  · have e := HM6.out.new
    rw [alloc_size] at e
    exact HW6.out.below w.heap.size w (((Below.refl _ _).alloc (Nat.le_refl _) _).trans (HM6.out.below.mono (by simp))) (by omega)
set_option maxHeartbeats 8000000 in
theorem key_in (master : List UInt8) (r n : Int) (w : World) (M Ky : Array Value) (HM : Hid (M = (cellsOf master).toArray)) (hm : master.length = 32) (ho : owner r n = true) (hT : TabT w) (HK : Hid (Ky = (cellsOf (keyD master r n)).toArray)) :
    Calls Tryd.prog 24 #[.agg M, .int .i64 r, .int .i64 n] w fun e w' => e = .returned (.tuple #[.agg Ky, .int .i64 0]) ∧ Below w.heap.size w w' := by
  obtain ⟨Z, HZ, HA, H32⟩ := noughtsY
  have hb := (owner_iff r n).1 ho
  have HSM : Hid ((Tryd.prog.info? 24).map (·.size) = some M.size) := by show _ = _; rw [sizeY, HM.out]; simp [cellsOf_length, hm]
  have HSK : Hid ((Tryd.prog.info? 24).map (·.size) = some Ky.size) := by show _ = _; rw [sizeY, HK.out]; simp [cellsOf_length, keyD, macD, sumD_length]
  have H1K : Hid (Ky.all (·.oneCell') = true) := by show _ = _; rw [HK.out]; exact cellsOf_all _
  have HZK : Hid (Z.size = Ky.size) := by show _ = _; rw [H32.out, HK.out]; simp [cellsOf_length, keyD, macD, sumD_length]
  have hw1 : IntKind.u8.wrap r = r := by have := IntKind.wrap_u8' r; omega
  have hw2 : IntKind.u8.wrap n = n := by have := IntKind.wrap_u8' n; omega
  have d1 : decide (r < 1) = false := by rw [decide_eq_false_iff_not]; omega
  have d2 : decide (5 < r) = false := by rw [decide_eq_false_iff_not]; omega
  have d3 : decide (n < 1) = false := by rw [decide_eq_false_iff_not]; omega
  have d4 : decide (3 < n) = false := by rw [decide_eq_false_iff_not]; omega
  obtain ⟨T3, HT3⟩ : ∃ T : Array Value, Hid (T = #[.int .u8 75, .int .u8 r, .int .u8 n]) := ⟨_, (rfl : _ = _)⟩
  obtain ⟨Z3, HZ3, HZZ⟩ : ∃ Z : Array Value, Hid ((Tryd.prog.info? 107).map (fun i => (i.zero, i.size)) = some (some (.agg Z), Z.size)) ∧ Hid (Z.size = 3) := ⟨#[.int .u8 0, .int .u8 0, .int .u8 0], zero3, (rfl : _ = _)⟩
  have HB3 : Hid (Tryd.prog.built 107 [(0, .int .u8 75), (1, .int .u8 r), (2, .int .u8 n)] = some T3) := by show _ = _; rw [HT3.out]; exact built3 r n
  have HS33 : Hid ((Tryd.prog.info? 107).map (·.size) = some T3.size) := by show _ = _; rw [HT3.out]; exact size3b
  have HZT : Hid (Z3.size = T3.size) := by show _ = _; rw [HZZ.out, HT3.out]; rfl
  have H1T : Hid (T3.all (·.oneCell') = true) := by show _ = _; rw [HT3.out]; simp [Value.oneCell']
  obtain ⟨s3, HS3⟩ : ∃ s : ByteArray, Hid (s = ⟨#[75, UInt8.ofNat r.toNat, UInt8.ofNat n.toNat]⟩) := ⟨_, (rfl : _ = _)⟩
  have HCV : Hid (∀ (W : World) (g : Nat), W.heap[g]? = some (.cells T3 107 (0, 0)) → (convert 43 9 (.slice (some ⟨g, 0, none⟩) 3 3)).run Tryd.prog W = .ok (.string s3) W) := fun W g h => by rw [HS3.out]; rw [HT3.out] at h; exact conv3 W g r n (by omega) (by omega) _ h
  have C1 : Hid (∀ W, Below w.heap.size w W → Calls Tryd.prog 25 #[.agg M, .string s3] W fun e w' => e = .returned (.agg Ky) ∧ Below W.heap.size W w') := fun W hbw => mac_any master s3 W M Ky HM hm (by rw [HS3.out]; show 3 ≤ 100000; decide) (hT.keep hbw) (by show _ = _; rw [HK.out, HS3.out]; rfl)
  clear hT HK HM HS3 ho hb
  go_enter Tryd.func24, Tryd.ntmps24
  go_wp2_with (first
    | (show wpList _ _ _ ({ dst := some 6, op := _, type := _, pos := _, after := _, guard := _ } :: _) _ _; refine wpList_new_var rfl 24 rfl Z HA.out ?_; intro g6 w1 HM6; try simp only [Act.put, List.setIfInBounds_toArray, List.set_cons_zero, List.set_cons_succ])
    | (show wpList _ _ _ ({ dst := some 28, op := _, type := _, pos := _, after := _, guard := _ } :: _) _ _; refine wpList_build_three rfl 107 _ _ _ rfl T3 _ _ _ rfl rfl rfl HB3.out ?_; try simp only [Act.put, List.setIfInBounds_toArray, List.set_cons_zero, List.set_cons_succ])
    | (show wpList _ _ _ ({ dst := some 8, op := _, type := _, pos := _, after := _, guard := _ } :: _) _ _; refine wpList_new_var rfl 107 rfl Z3 HZ3.out ?_; intro g8 w2 HM8; try simp only [Act.put, List.setIfInBounds_toArray, List.set_cons_zero, List.set_cons_succ])
    | (refine wpList_set_var rfl 107 (.tmp 8) (.tmp 28) rfl g8 T3 rfl rfl 107 Z3 HM8.out.row HS33.out HZT.out H1T.out ?_; intro w3 HW8; try simp only [Act.put, List.setIfInBounds_toArray, List.set_cons_zero, List.set_cons_succ])
    | fail)
  have h6 : w.heap.size < g6 := by have e := HM6.out.new; rw [alloc_size] at e; omega
  have HB1 : Hid (Below w.heap.size w w1) := ((Below.refl _ _).alloc (Nat.le_refl _) _).trans (HM6.out.below.mono (by simp))
  have HX3 := hidk (HW8.out.below w1.heap.size w1 HM8.out.below (Nat.le_of_eq HM8.out.new.symm))
  have HK1 := hidk ((HM6.out.below.block _ (by simp)).trans (heap_alloc_new w (.cells M 24)))
  have HK3 := hidk ((HX3.out.block _ (heap_lt HK1.out)).trans HK1.out)
  have HR6 : Hid (w3.drew.heap[g6]? = some (.cells Z 24 (0, 0))) := (HX3.out.block _ (heap_lt HM6.out.row)).trans HM6.out.row
  have HR8 := hidk HW8.out.row
  have h8 : g6 < g8 := by rw [HM8.out.new]; exact heap_lt HM6.out.row
  have HBc : Hid (Below w.heap.size w w3.drew) := (HB1.out.trans (HX3.out.mono HB1.out.size)).drew
  clear HM6 HM8 HW8 HB1 HX3 HK1
  refine wp_region_held_drew (S := (fun W => W.heap[w.heap.size]? = some (.cells M 24 (0, 0)) ∧ W.heap[g8]? = some (.cells T3 107 (0, 0)))) (by kernel_rfl) ⟨HK3.out, HR8.out⟩ (fun hHeld => ?_)
  refine wpAnyH_take (i := 0) (oi := { dst := some 29, op := Op.load 24 (Operand.tmp 3), type := 24, pos := "tag.go:39", after := #[], guard := none }) (v := .agg M) rfl (by kernel_rfl) (by kernel_rfl) (by kernel_rfl) (fun _ _ _ h => h) (yieldsIf_row (by rfl) 24 (.tmp 3) rfl w.heap.size rfl 24 M (0, 0) _ (fun _ h => h.1) Tryd.underlying24 rfl HSM.out) hHeld ?_
  try simp only [Act.put, List.setIfInBounds_toArray, List.set_cons_zero, List.set_cons_succ]
  refine wpAnyH_take (i := 1) (oi := { dst := some 30, op := Op.slice 107 (Operand.tmp 8) none none none, type := 43, pos := "tag.go:39", after := #[], guard := none }) (v := .slice (some ⟨g8, 0, none⟩) 3 3) rfl (by kernel_rfl) (by kernel_rfl) (by kernel_rfl) (fun _ _ _ h => h) (Or.inl ⟨by rfl, by intro W hSw; go_simp⟩) hHeld ?_
  try simp only [Act.put, List.setIfInBounds_toArray, List.set_cons_zero, List.set_cons_succ]
  refine wpAnyH_take (i := 2) (oi := { dst := some 31, op := Op.convert 43 9 (Operand.tmp 30), type := 9, pos := "tag.go:39", after := #[{ on := 1, ground := Ground.data }], guard := none }) (v := .string s3) rfl (by kernel_rfl) (by kernel_rfl) (by kernel_rfl) (fun _ _ _ h => h) (Or.inl ⟨by rfl, by intro W hSw; have := HCV.out W g8 hSw.2; go_simp⟩) hHeld ?_
  try simp only [Act.put, List.setIfInBounds_toArray, List.set_cons_zero, List.set_cons_succ]
  refine wpAnyH_ready (rs := [3]) (by kernel_rfl) (by simp) ?_
  refine (AllReadyH.cons (o := { dst := some 32, op := Op.call { callee := Callee.value (Operand.func 25), args := #[Operand.tmp 29, Operand.tmp 31], argTypes := #[24, 9] }, type := 30, pos := "tag.go:39", after := #[{ on := 0, ground := Ground.data }, { on := 2, ground := Ground.data }], guard := none }) rfl (fun K hK => ?_) AllReadyH.nil)
  go_simp
  refine (C1.out _ HBc.out).mono ?_
  rintro e w5 ⟨rfl, hbz⟩
  replace HBc := hidk (HBc.out.trans (hbz.mono HBc.out.size))
  replace HR6 := hidk ((hbz.block _ (heap_lt HR6.out)).trans HR6.out)
  go_wp2_with fail
  refine hK.out _ _ ⟨(hbz.block _ (heap_lt hHeld.1)).trans hHeld.1, (hbz.block _ (heap_lt hHeld.2)).trans hHeld.2⟩ (fun hHeld => ?_)
  clear hK K
  try simp only [Act.put, List.setIfInBounds_toArray, List.set_cons_zero, List.set_cons_succ]
  refine wpAnyH_ready (rs := [4]) (by kernel_rfl) (by simp) ?_
  refine (AllReadyH.cons (o := { dst := none, op := Op.store 24 (Operand.tmp 6) (Operand.tmp 32), type := 0, pos := "tag.go:39", after := #[{ on := 3, ground := Ground.data }, { on := 3, ground := Ground.chain }, { on := 0, ground := Ground.phase }, { on := 1, ground := Ground.phase }, { on := 2, ground := Ground.phase }, { on := 3, ground := Ground.phase }], guard := none }) rfl (fun K hK => ?_) AllReadyH.nil)
  refine step_set_var (by rfl) 24 (.tmp 6) (.tmp 32) rfl g6 Ky rfl rfl 24 Z HR6.out HSK.out HZK.out H1K.out ?_
  intro wz HW6
  refine hK.out _ _ ⟨(HW6.out.other w.heap.size (by omega)).trans hHeld.1, (HW6.out.other g8 (by omega)).trans hHeld.2⟩ (fun hHeld => ?_)
  clear hK K
  try simp only [Act.put, List.setIfInBounds_toArray, List.set_cons_zero, List.set_cons_succ]
  refine wpAnyH_take (i := 5) (oi := { dst := some 7, op := Op.assign (Operand.const (Value.int IntKind.i64 0)), type := 32, pos := "tag.go:39", after := #[{ on := 4, ground := Ground.chain }, { on := 0, ground := Ground.phase }, { on := 1, ground := Ground.phase }, { on := 2, ground := Ground.phase }, { on := 3, ground := Ground.phase }, { on := 4, ground := Ground.phase }], guard := none }) (v := .int .i64 0) rfl (by kernel_rfl) (by kernel_rfl) (by kernel_rfl) (fun _ _ _ h => h) (Or.inl ⟨by rfl, by intro W hSw; go_simp⟩) hHeld ?_
  try simp only [Act.put, List.setIfInBounds_toArray, List.set_cons_zero, List.set_cons_succ]
  refine wpAnyH_done (by kernel_rfl) ?_ _
  go_wp2
  refine bodyPost_ret (v := .tuple #[.agg Ky, .int .i64 0]) ?_ rfl ⟨rfl, HW6.out.below w.heap.size w HBc.out (by omega)⟩
  exact results_row_tmp (p := 6) (q := 7) (ty := 24) rfl _ _ g6 24 Ky (0, 0) _ rfl HW6.out.row Tryd.underlying24 rfl HSK.out
theorem key_any (master : List UInt8) (r n : Int) (w : World) (M Ky : Array Value) (HM : Hid (M = (cellsOf master).toArray)) (hm : master.length = 32) (hT : TabT w) (HK : Hid (Ky = (cellsOf (keyO master r n)).toArray)) :
    Calls Tryd.prog 24 #[.agg M, .int .i64 r, .int .i64 n] w fun e w' => e = .returned (.tuple #[.agg Ky, .int .i64 (keyE r n)]) ∧ Below w.heap.size w w' := by
  by_cases ho : owner r n = true
  · rw [show keyE r n = 0 by unfold keyE; rw [if_pos ho]]
    rw [keyO_in _ _ _ ho] at HK
    exact key_in master r n w M Ky HM hm ho hT HK
  · rw [show keyE r n = 50 by unfold keyE; rw [if_neg ho]]
    rw [keyO_out _ _ _ ho] at HK
    obtain ⟨Z, HZ, HA, H32⟩ := noughtsY
    obtain rfl : Ky = Z := by rw [HK.out, HZ.out]
    have HBY : Hid (Tryd.prog.built 24 [] = some Ky) := by show _ = _; rw [HZ.out]; exact builtY
    have HSZ : Hid ((Tryd.prog.info? 24).map (·.size) = some Ky.size) := by show _ = _; rw [sizeY, H32.out]
    have H1Z : Hid (Ky.all (·.oneCell') = true) := by show _ = _; rw [HZ.out]; exact cellsOf_all _
    have h := fun q => ho ((owner_iff r n).2 q)
    by_cases h1 : r < 1
    · exact key_out1 r n w M Ky HBY HA HSZ H1Z h1
    by_cases h2 : 5 < r
    · exact key_out2 r n w M Ky HBY HA HSZ H1Z ⟨h1, h2⟩
    by_cases h3 : n < 1
    · exact key_out3 r n w M Ky HBY HA HSZ H1Z ⟨h1, h2, h3⟩
    by_cases h4 : 3 < n
    · exact key_out4 r n w M Ky HBY HA HSZ H1Z ⟨h1, h2, h3, h4⟩
    exact absurd ⟨by omega, by omega, by omega, by omega⟩ h
end Go.Proofs.YtdnhnjimhbbababDoor.P7

/- What tag.Same answers. -/
namespace Go.Proofs.YtdnhnjimhbbababDoor.P7
open Go.RowKit Sums
set_option maxRecDepth 100000
set_option linter.unusedVariables false
set_option linter.unusedSimpArgs false
theorem or8 (x y : UInt8) : bits .or .u8 (x.toNat : Int) (y.toNat : Int) = ((x ||| y).toNat : Int) := by
  rw [u8_or_nat _ _ x.toNat_lt y.toNat_lt, UInt8.toNat_or]
theorem apart_next (x a b : UInt8) : x ||| (a ^^^ b) = 0 ↔ x = 0 ∧ a = b := by
  rw [UInt8.or_eq_zero_iff, UInt8.xor_eq_zero_iff]
theorem idxDg (W : World) (g k : Nat) (hj : k < 32) : (Instr.indexAt 30 (.pointer (some ⟨g, 0, none⟩)) (.int .i64 (k : Int))).run Tryd.prog W = .ok (.pointer (some ⟨g, k, none⟩)) W := by
  have hu := Tryd.underlying30
  have h2 : (k : Int) < 32 := by omega
  have h1 : (0 : Int) ≤ (k : Int) := by omega
  have h3 : ¬ (k : Int) < 0 := by omega
  simp [go_sem, hu, sizeOf5, h1, h2, h3, add_plain]
/-- What the loop has seen. -/
structure Seen (w : World) (A B : Array Value) (W : World) : Prop where
  a : W.heap[w.heap.size]? = some (.cells A 30 (0, 0))
  b : W.heap[w.heap.size + 1]? = some (.cells B 30 (0, 0))
  below : Below w.heap.size w W
set_option maxHeartbeats 4000000 in
theorem same_any (a b : List UInt8) (w : World) (A B : Array Value) (HA : Hid (A = (cellsOf a).toArray)) (HB : Hid (B = (cellsOf b).toArray)) (ha : a.length = 32) (hb : b.length = 32) :
    Calls Tryd.prog 67 #[.agg A, .agg B] w fun e w' => e = .returned (.bool (decide (a = b))) ∧ Below w.heap.size w w' := by
  have HL0 : Hid (Seen w A B ((w.alloc (.cells A 30)).alloc (.cells B 30))) := ⟨heap_keep (heap_alloc_new w _), by have := heap_alloc_new (w.alloc (.cells A 30)) (.cells B 30); rwa [alloc_size] at this, ((Below.refl _ _).alloc (Nat.le_refl _) _).alloc (by simp) _⟩
  go_enter Tryd.func67, Tryd.ntmps67
  go_wp2
  go_loopw [5, 7] (fun v i wr => ∃ (k : Nat) (x : UInt8), k ≤ 32 ∧ i = .int .i64 k ∧ v = .int .u8 (x.toNat : Int) ∧ Hid (x = 0 ↔ a.take k = b.take k) ∧ Hid (Seen w A B wr)) (fun _ i _ => 32 - (intOf i).toNat)
  case atStart => exact ⟨0, 0, by omega, rfl, rfl, by show _ ↔ _; simp, HL0⟩
  case round =>
    clear HL0
    obtain ⟨k, x, hk32, rfl, rfl, HX, HL⟩ := hrel
    by_cases hlt : k < 32
    · have dk : decide ((k : Int) < 32) = true := by rw [decide_eq_true_eq]; omega
      have dk' : decide (k < 32) = true := by rw [decide_eq_true_eq]; omega
      have hka : k < a.length := by omega
      have hkb : k < b.length := by omega
      obtain ⟨p, HP⟩ : ∃ p : UInt8, Hid (a[k]? = some p) := ⟨a[k], List.getElem?_eq_getElem hka⟩
      obtain ⟨q, HQ⟩ : ∃ q : UInt8, Hid (b[k]? = some q) := ⟨b[k], List.getElem?_eq_getElem hkb⟩
      obtain ⟨y, HY⟩ : ∃ y : UInt8, Hid (y = p ^^^ q) := ⟨p ^^^ q, hidk rfl⟩
      obtain ⟨z, HZ⟩ : ∃ z : UInt8, Hid (z = x ||| y) := ⟨x ||| y, hidk rfl⟩
      have hx : bits .xor .u8 (p.toNat : Int) (q.toNat : Int) = (y.toNat : Int) := by rw [HY.out]; exact xor8 p q
      have ho : bits .or .u8 (x.toNat : Int) (y.toNat : Int) = (z.toNat : Int) := by rw [HZ.out]; exact or8 x y
      have HN : Hid (z = 0 ↔ a.take (k + 1) = b.take (k + 1)) := by
        show _ ↔ _
        rw [HZ.out, HY.out, apart_next, List.take_add_one, List.take_add_one, HP.out, HQ.out, HX.out]
        constructor
        · rintro ⟨h1, rfl⟩; rw [h1]
        · intro h
          have := List.append_inj h (by rw [List.length_take, List.length_take, ha, hb])
          exact ⟨this.1, by simpa using this.2⟩
      have CA : Hid (∀ W : World, W.heap[w.heap.size]? = some (.cells A 30 (0, 0)) → W.cell? ⟨w.heap.size, k, none⟩ = some (.int .u8 (p.toNat : Int))) := fun W h => by
        rw [cell_of_row W _ k _ 30 (0, 0) h, HA.out]
        obtain ⟨hh, e⟩ := List.getElem?_eq_some_iff.1 HP.out
        rw [← e]
        simpa using cellsOf_at a k hh
      have CB : Hid (∀ W : World, W.heap[w.heap.size + 1]? = some (.cells B 30 (0, 0)) → W.cell? ⟨w.heap.size + 1, k, none⟩ = some (.int .u8 (q.toNat : Int))) := fun W h => by
        rw [cell_of_row W _ k _ 30 (0, 0) h, HB.out]
        obtain ⟨hh, e⟩ := List.getElem?_eq_some_iff.1 HQ.out
        rw [← e]
        simpa using cellsOf_at b k hh
      have i1 := fun W => idxDg W w.heap.size k hlt
      have i2 := fun W => idxDg W (w.heap.size + 1) k hlt
      clear HX HP HQ HY HZ hka hkb
      go_wp2
      have HLd : Hid (Seen w A B wr.drew) := ⟨HL.out.a, HL.out.b, HL.out.below.drew⟩
      refine wp_region_held_drew (S := (fun W => W.heap[w.heap.size]? = some (.cells A 30 (0, 0)) ∧ W.heap[w.heap.size + 1]? = some (.cells B 30 (0, 0)))) (by kernel_rfl) ⟨HL.out.a, HL.out.b⟩ (fun hHeld => ?_)
      refine wpAnyH_take (i := 0) (oi := { dst := some 10, op := Op.move (Operand.tmp 5), type := 5, pos := "tag.go:28", after := #[], guard := none }) (v := .int .u8 (x.toNat : Int)) rfl (by kernel_rfl) (by kernel_rfl) (by kernel_rfl) (fun _ _ _ h => h) (Or.inl ⟨by rfl, by intro W hSw; go_simp⟩) hHeld ?_
      try simp only [Act.put, List.setIfInBounds_toArray, List.set_cons_zero, List.set_cons_succ]
      refine wpAnyH_take (i := 1) (oi := { dst := some 11, op := Op.move (Operand.tmp 6), type := 3, pos := "tag.go:28", after := #[], guard := none }) (v := .int .i64 (k : Int)) rfl (by kernel_rfl) (by kernel_rfl) (by kernel_rfl) (fun _ _ _ h => h) (Or.inl ⟨by rfl, by intro W hSw; go_simp⟩) hHeld ?_
      try simp only [Act.put, List.setIfInBounds_toArray, List.set_cons_zero, List.set_cons_succ]
      refine wpAnyH_take (i := 2) (oi := { dst := some 12, op := Op.indexAddr 30 (Operand.tmp 2) (Operand.tmp 11), type := 0, pos := "tag.go:28", after := #[{ on := 1, ground := Ground.data }], guard := none }) (v := .pointer (some ⟨w.heap.size, k, none⟩)) rfl (by kernel_rfl) (by kernel_rfl) (by kernel_rfl) (fun _ _ _ h => h) (Or.inl ⟨by rfl, by intro W hSw; have := i1 W; go_simp⟩) hHeld ?_
      try simp only [Act.put, List.setIfInBounds_toArray, List.set_cons_zero, List.set_cons_succ]
      refine wpAnyH_take (i := 3) (oi := { dst := some 13, op := Op.load 5 (Operand.tmp 12), type := 5, pos := "tag.go:28", after := #[{ on := 2, ground := Ground.data }], guard := none }) (v := .int .u8 (p.toNat : Int)) rfl (by kernel_rfl) (by kernel_rfl) (by kernel_rfl) (fun _ _ _ h => h) (Or.inl ⟨by rfl, by intro W hSw; have := CA.out W hSw.1; go_simp⟩) hHeld ?_
      try simp only [Act.put, List.setIfInBounds_toArray, List.set_cons_zero, List.set_cons_succ]
      refine wpAnyH_take (i := 4) (oi := { dst := some 14, op := Op.move (Operand.tmp 6), type := 3, pos := "tag.go:28", after := #[], guard := none }) (v := .int .i64 (k : Int)) rfl (by kernel_rfl) (by kernel_rfl) (by kernel_rfl) (fun _ _ _ h => h) (Or.inl ⟨by rfl, by intro W hSw; go_simp⟩) hHeld ?_
      try simp only [Act.put, List.setIfInBounds_toArray, List.set_cons_zero, List.set_cons_succ]
      refine wpAnyH_take (i := 5) (oi := { dst := some 15, op := Op.indexAddr 30 (Operand.tmp 3) (Operand.tmp 14), type := 0, pos := "tag.go:28", after := #[{ on := 4, ground := Ground.data }], guard := none }) (v := .pointer (some ⟨w.heap.size + 1, k, none⟩)) rfl (by kernel_rfl) (by kernel_rfl) (by kernel_rfl) (fun _ _ _ h => h) (Or.inl ⟨by rfl, by intro W hSw; have := i2 W; go_simp⟩) hHeld ?_
      try simp only [Act.put, List.setIfInBounds_toArray, List.set_cons_zero, List.set_cons_succ]
      refine wpAnyH_take (i := 6) (oi := { dst := some 16, op := Op.load 5 (Operand.tmp 15), type := 5, pos := "tag.go:28", after := #[{ on := 5, ground := Ground.data }], guard := none }) (v := .int .u8 (q.toNat : Int)) rfl (by kernel_rfl) (by kernel_rfl) (by kernel_rfl) (fun _ _ _ h => h) (Or.inl ⟨by rfl, by intro W hSw; have := CB.out W hSw.2; go_simp⟩) hHeld ?_
      try simp only [Act.put, List.setIfInBounds_toArray, List.set_cons_zero, List.set_cons_succ]
      refine wpAnyH_take (i := 7) (oi := { dst := some 17, op := Op.binOp BinOp.xor 5 (Operand.tmp 13) (Operand.tmp 16) 5, type := 5, pos := "tag.go:28", after := #[{ on := 3, ground := Ground.data }, { on := 6, ground := Ground.data }], guard := none }) (v := .int .u8 (y.toNat : Int)) rfl (by kernel_rfl) (by kernel_rfl) (by kernel_rfl) (fun _ _ _ h => h) (Or.inl ⟨by rfl, by intro W hSw; go_simp⟩) hHeld ?_
      try simp only [Act.put, List.setIfInBounds_toArray, List.set_cons_zero, List.set_cons_succ]
      refine wpAnyH_take (i := 8) (oi := { dst := some 18, op := Op.binOp BinOp.or 5 (Operand.tmp 10) (Operand.tmp 17) 5, type := 5, pos := "tag.go:28", after := #[{ on := 0, ground := Ground.data }, { on := 7, ground := Ground.data }], guard := none }) (v := .int .u8 (z.toNat : Int)) rfl (by kernel_rfl) (by kernel_rfl) (by kernel_rfl) (fun _ _ _ h => h) (Or.inl ⟨by rfl, by intro W hSw; go_simp⟩) hHeld ?_
      try simp only [Act.put, List.setIfInBounds_toArray, List.set_cons_zero, List.set_cons_succ]
      refine wpAnyH_take (i := 9) (oi := { dst := some 5, op := Op.assign (Operand.tmp 18), type := 5, pos := "tag.go:28", after := #[{ on := 8, ground := Ground.data }, { on := 0, ground := Ground.phase }, { on := 1, ground := Ground.phase }, { on := 2, ground := Ground.phase }, { on := 3, ground := Ground.phase }, { on := 4, ground := Ground.phase }, { on := 5, ground := Ground.phase }, { on := 6, ground := Ground.phase }, { on := 7, ground := Ground.phase }, { on := 8, ground := Ground.phase }], guard := none }) (v := .int .u8 (z.toNat : Int)) rfl (by kernel_rfl) (by kernel_rfl) (by kernel_rfl) (fun _ _ _ h => h) (Or.inl ⟨by rfl, by intro W hSw; go_simp⟩) hHeld ?_
      try simp only [Act.put, List.setIfInBounds_toArray, List.set_cons_zero, List.set_cons_succ]
      refine wpAnyH_done (by kernel_rfl) ?_ _
      clear i1 i2 CA CB
      go_wp2
      go_roundw
      case rel => exact ⟨k + 1, z, by omega, by go_num, rfl, HN, HLd⟩
      case measure => simp [intOf]; omega
    · obtain rfl : k = 32 := by omega
      have HBL := hidk HL.out.below
      have hd : ((x.toNat : Int) == 0) = decide (a = b) := by
        rw [show ((x.toNat : Int) == 0) = decide ((x.toNat : Int) = 0) from by rw [Bool.eq_iff_iff]; simp only [beq_iff_eq, decide_eq_true_eq]]
        have e := HX.out
        rw [List.take_of_length_le (by omega), List.take_of_length_le (by omega)] at e
        by_cases h : a = b
        · rw [decide_eq_true h, decide_eq_true_eq, e.2 h]; rfl
        · rw [decide_eq_false h, decide_eq_false_iff_not]
          intro h0
          exact h (e.1 (UInt8.toNat_inj.1 (by simpa using h0)))
      clear HL HX
      go_wp2
      go_ret
      refine ⟨?_, HBL.out⟩
      first | rfl | (rw [← hd]; simp) | simp [← hd]
end Go.Proofs.YtdnhnjimhbbababDoor.P7
