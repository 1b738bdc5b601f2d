/- What pack's fault and appendField do: the fault of a field; a field's bytes behind bytes that are owned. -/
import Derived.Test.YtmfopddmkaecaabCells
import Derived.Lib.AppendStr
namespace Go.Proofs.Ytmfopddmkaecaab
open Go.RowKit Nums

/-- A field's bytes: its tag, how many bytes its data has (three bytes), and these. -/
def fieldBytes (tag : Nat) (d : List UInt8) : List UInt8 :=
  UInt8.ofNat (tag % 256) :: UInt8.ofNat (d.length / 65536 % 256) :: UInt8.ofNat (d.length / 256 % 256) :: UInt8.ofNat (d.length % 256) :: d

def faultOf (last tag : Int) (size : Nat) : Int := if tag ≤ last ∨ 255 < tag then 1 else if 65536 < size then 2 else 0

theorem byte_mod (n : Nat) : ((UInt8.ofNat (n % 256)).toNat : Int) = (n : Int) % 256 := by rw [UInt8.toNat_ofNat']; omega

theorem cellsOf_append (a b : List UInt8) : cellsOf (a ++ b) = cellsOf a ++ cellsOf b := by simp [cellsOf]
theorem cellsOf_length (a : List UInt8) : (cellsOf a).length = a.length := by simp [cellsOf]
theorem cellsOf_str (s : ByteArray) : Lib.strCells s = cellsOf s.data.toList := rfl
theorem cellsOf_one (a : List UInt8) : ∀ u ∈ cellsOf a, u.oneCell' = true := by
  intro u hu; simp only [cellsOf, List.mem_map] at hu; obtain ⟨b, _, rfl⟩ := hu; rfl

theorem fault_any (last tag : Int) (d : ByteArray) (w : World) (hd : d.size ≤ maxLen) :
    Calls Try.prog 23 #[.int .i64 last, .agg #[.int .i64 tag, .string d]] w fun e w' => e = .returned (.int .i64 (faultOf last tag d.size)) ∧ Below w.heap.size w w' := by
  unfold maxLen at hd
  have hb : Below w.heap.size w (w.alloc (.cells #[.int .i64 tag, .string d] 37)) := (Below.refl _ _).alloc (Nat.le_refl _) _
  by_cases h1 : tag ≤ last
  · have HF : Hid (faultOf last tag d.size = 1) := by simp [Hid, faultOf, h1]
    go_enter Try.func23, Try.ntmps23
    go_wp2
    go_ret
    rw [HF.out]
    exact ⟨rfl, hb⟩
  · by_cases h2 : 255 < tag
    · have HF : Hid (faultOf last tag d.size = 1) := by simp [Hid, faultOf, h2]
      go_enter Try.func23, Try.ntmps23
      go_wp2
      go_ret
      rw [HF.out]
      exact ⟨rfl, hb⟩
    · by_cases h3 : (65536 : Int) < (d.size : Int)
      · have HF : Hid (faultOf last tag d.size = 2) := by
          show _ = _
          rw [faultOf, if_neg (by omega), if_pos (by omega)]
        go_enter Try.func23, Try.ntmps23
        go_wp2
        go_ret
        rw [HF.out]
        exact ⟨rfl, hb⟩
      · have HF : Hid (faultOf last tag d.size = 0) := by
          show _ = _
          rw [faultOf, if_neg (by omega), if_neg (by omega)]
        go_enter Try.func23, Try.ntmps23
        go_wp2
        go_ret
        rw [HF.out]
        exact ⟨rfl, hb⟩

theorem row_lt {w : World} {B : Nat} {v : Value} {n : Nat} {xs : List Value} (h : w.ownsRow B 5 1 v n xs) : ∀ k, v.ownBlock = some k → B ≤ k := fun k hk => (h.lt k hk).1

theorem head_cells (tag : Nat) (d : ByteArray) (htag : tag ≤ 255) (hd : d.size ≤ 65536) :
    [Value.int .u8 (tag : Int), .int .u8 ((d.size : Int) / 65536), .int .u8 ((d.size : Int) / 256 % 256), .int .u8 ((d.size : Int) % 256)] ++ Lib.strCells d = cellsOf (fieldBytes tag d.data.toList) := by
  have hl : d.data.toList.length = d.size := by simp
  have e1 : (tag : Int) = (tag : Int) % 256 := by omega
  have e2 : (d.size : Int) / 65536 = (d.size : Int) / 65536 % 256 := by omega
  rw [cellsOf_str, fieldBytes, hl, e1, e2]
  simp only [cellsOf, List.map_cons, List.cons_append, List.nil_append, byte_mod]
  rfl

theorem fieldBytes_length (tag : Nat) (l : List UInt8) : (fieldBytes tag l).length = 4 + l.length := by simp [fieldBytes]; omega

set_option maxHeartbeats 1000000 in
theorem appendField_any (v : Value) (l : List UInt8) (B tag : Nat) (d : ByteArray) (w : World) (hd : d.size ≤ 65536) (hB : B ≤ w.heap.size) (hl : l.length ≤ 1099511627776)
    (hown : w.ownsRow B 5 1 v l.length (cellsOf l)) (htag : tag ≤ 255) :
    Calls Try.prog 17 #[v, .agg #[.int .i64 tag, .string d]] w fun e w' => ∃ v', e = .returned v' ∧
      w'.ownsRow B 5 1 v' (l ++ fieldBytes tag d.data.toList).length (cellsOf (l ++ fieldBytes tag d.data.toList)) ∧ Below B w w' := by
  obtain ⟨i0, hi, hz0, hz1, hz2⟩ := info_parts info5
  have HL : Hid (l.length ≤ 1099511627776) := hl
  clear hl
  go_enter Try.func17, Try.ntmps17
  go_wp2_with (first
    | (at_builtin; refine wpList_append_own _ rfl (.tmp 9) (.tmp 21) 24 rfl B 5 i0 (.int .u8 0) 1 1 Try.underlying24 hi hz0 hz1 hz2 rfl (by decide) _ _ _ rfl ((hown.alloc _).alloc _) ⟨w.heap.size + 1, 0, none⟩ 4 4 [.int .u8 (tag : Int), .int .u8 ((d.size : Int) / 65536), .int .u8 ((d.size : Int) / 256 % 256), .int .u8 ((d.size : Int) % 256)] rfl rfl ?c1 ?c2 ?c3 ?c4 ?c5 ?_)
    | fail)
  case c1 =>
    intro j u hj
    match j, hj with
    | 0, hj => simp at hj; subst hj; simp [Addr.add]
    | 1, hj => simp at hj; subst hj; simp [Addr.add]
    | 2, hj => simp at hj; subst hj; simp [Addr.add]
    | 3, hj => simp at hj; subst hj; simp [Addr.add]
  case c2 => intro u hu; simp at hu; rcases hu with rfl | rfl | rfl | rfl <;> rfl
  case c3 => have := HL.out; unfold maxLen; omega
  case c4 => have := HL.out; omega
  case c5 => simp; omega
  intro v1 w1 hown1 hgrow1 _
  have hb1 : Below B w w1 := (((Below.refl _ _).alloc hB _).alloc (by simp; omega) _).grown hgrow1 (by simp; omega) (row_lt hown)
  have hbox : w1.cell? ⟨w.heap.size, 1, none⟩ = some (.string d) := by
    refine hgrow1.cell ?_ ?_
    · simp
    · intro e; have := (hown.lt _ e.symm).2; simp at this
  clear hgrow1
  go_wp2_with (first
    | (at_builtin; refine Lib.wpList_append_own_string _ rfl (.tmp 23) (.tmp 25) 24 9 rfl B 5 i0 Try.underlying24 Try.underlying9 hi hz0 hz1 hz2 _ _ _ rfl hown1 d rfl ?d1 ?d2 ?d3 ?_)
    | fail)
  case d1 => have := HL.out; unfold maxLen; omega
  case d2 => have := HL.out; omega
  case d3 => exact Nat.le_trans hB hb1.size
  intro v2 w2 hown2 hgrow2 _
  have hb2 : Below B w w2 := hb1.grown hgrow2 (Nat.le_trans hB hb1.size) (row_lt hown1)
  have hown3 : w2.ownsRow B 5 1 v2 (l ++ fieldBytes tag d.data.toList).length (cellsOf (l ++ fieldBytes tag d.data.toList)) := by
    have e1 : (l ++ fieldBytes tag d.data.toList).length = l.length + 4 + d.size := by
      rw [List.length_append, fieldBytes_length]; simp; omega
    rw [e1, cellsOf_append, ← head_cells tag d htag hd]
    simpa only [List.append_assoc, List.cons_append, List.nil_append] using hown2
  clear hown2 hgrow2 hown1 hbox
  go_wp2
  go_ret
  exact ⟨_, rfl, hown3, hb2⟩

end Go.Proofs.Ytmfopddmkaecaab
