/- What the document's own Put answers: a field's bytes, or a fault. -/
import Derived.Test.YtmfopddmkaecaaaPut
namespace Go.Proofs.Ytmfopddmkaecaaa
open Go.RowKit Nums

theorem may_any (tag : Int) (d : ByteArray) (w : World) (hd : d.size ≤ maxLen) :
    Calls Try.prog 24 #[.int .i64 tag, .string d] w fun e w' => e = .returned (.int .i64 (faultOf 0 tag d.size)) ∧ w = w' := by
  unfold maxLen at hd
  by_cases h1 : tag < 1
  · have HF : Hid (faultOf 0 tag d.size = 1) := by show _ = _; rw [faultOf, if_pos (by omega)]
    go_enter Try.func24, Try.ntmps24
    go_wp2
    go_ret
    rw [HF.out]
    exact ⟨rfl, rfl⟩
  · by_cases h2 : 255 < tag
    · have HF : Hid (faultOf 0 tag d.size = 1) := by show _ = _; rw [faultOf, if_pos (by omega)]
      go_enter Try.func24, Try.ntmps24
      go_wp2
      go_ret
      rw [HF.out]
      exact ⟨rfl, rfl⟩
    · by_cases h3 : (65536 : Int) < (d.size : Int)
      · have HF : Hid (faultOf 0 tag d.size = 2) := by show _ = _; rw [faultOf, if_neg (by omega), if_pos (by omega)]
        go_enter Try.func24, Try.ntmps24
        go_wp2
        go_ret
        rw [HF.out]
        exact ⟨rfl, rfl⟩
      · have HF : Hid (faultOf 0 tag d.size = 0) := by show _ = _; rw [faultOf, if_neg (by omega), if_neg (by omega)]
        go_enter Try.func24, Try.ntmps24
        go_wp2
        go_ret
        rw [HF.out]
        exact ⟨rfl, rfl⟩

set_option maxHeartbeats 1000000 in
theorem bytes_any (tag : Nat) (d : ByteArray) (w : World) (hd : d.size ≤ 65536) (htag : tag ≤ 255) :
    Calls Try.prog 25 #[.int .i64 tag, .string d] w fun e w' => ∃ v', e = .returned v' ∧
      w'.ownsRow w.heap.size 5 1 v' (fieldBytes tag d.data.toList).length (cellsOf (fieldBytes tag d.data.toList)) ∧ Below w.heap.size w w' := by
  obtain ⟨i0, hi, hz0, hz1, hz2⟩ := info_parts info5
  have hown : (w.alloc (.cells #[.int .u8 (tag : Int), .int .u8 ((d.size : Int) / 65536), .int .u8 ((d.size : Int) / 256 % 256), .int .u8 ((d.size : Int) % 256)] 5)).ownsRow w.heap.size 5 1 (.slice (some ⟨w.heap.size, 0, none⟩) 4 4) 4 [.int .u8 (tag : Int), .int .u8 ((d.size : Int) / 65536), .int .u8 ((d.size : Int) / 256 % 256), .int .u8 ((d.size : Int) % 256)] :=
    World.ownsRow_lit w _ 4 (Nat.le_refl _) (by decide) rfl
  have HOWN : Hid _ := hown
  clear hown
  have HB : Hid (∀ o, Below w.heap.size w (w.alloc o)) := fun o => (Below.refl _ _).alloc (Nat.le_refl _) _
  go_enter Try.func25, Try.ntmps25
  go_wp2_with (first
    | (at_builtin; refine Lib.wpList_append_own_string _ rfl (.tmp 20) (.tmp 21) 30 9 rfl w.heap.size 5 i0 Try.underlying30 Try.underlying9 hi hz0 hz1 hz2 _ _ _ rfl HOWN.out d rfl ?d1 ?d2 ?d3 ?_)
    | fail)
  case d1 => unfold maxLen; omega
  case d2 => omega
  case d3 => simp
  intro v2 w2 hown2 hgrow2 _
  have hb2 : Below w.heap.size w w2 := (HB.out _).grown hgrow2 (by simp) (by intro k hk; simp [Value.ownBlock] at hk; omega)
  have hown3 : w2.ownsRow w.heap.size 5 1 v2 (fieldBytes tag d.data.toList).length (cellsOf (fieldBytes tag d.data.toList)) := by
    have e1 : (fieldBytes tag d.data.toList).length = 4 + d.size := by rw [fieldBytes_length]; simp
    rw [e1, ← head_cells tag d htag hd]
    simpa only [List.append_assoc, List.cons_append, List.nil_append] using hown2
  clear hown2 hgrow2
  go_wp2
  go_ret
  exact ⟨_, rfl, hown3, hb2⟩

theorem refPut_fault (tag : Int) (d : ByteArray) (k : Int) (w : World) (hd : d.size ≤ maxLen) (hk : (k != 0) = true) (HF : Hid (faultOf 0 tag d.size = k)) :
    Calls Try.prog 16 #[.int .i64 tag, .string d] w fun e w' => e = .returned (.tuple #[.slice none 0 0, .int .i64 k]) ∧ w = w' := by
  have HC : Hid (∀ w, Calls Try.prog 24 #[.int .i64 tag, .string d] w fun e w' => e = .returned (.int .i64 k) ∧ w = w') := fun w => by
    have := may_any tag d w hd
    rwa [HF.out] at this
  go_enter Try.func16, Try.ntmps16
  go_wp2_with fail
  refine (HC.out _).mono ?_
  rintro e _ ⟨rfl, rfl⟩
  go_wp2
  go_ret2
  exact ⟨rfl, rfl⟩

theorem refPut_yes (tag : Nat) (d : ByteArray) (w : World) (hd : d.size ≤ 65536) (htag : 1 ≤ tag ∧ tag ≤ 255) :
    Calls Try.prog 16 #[.int .i64 tag, .string d] w fun e w' => ∃ v', e = .returned (.tuple #[v', .int .i64 0]) ∧
      w'.ownsRow w.heap.size 5 1 v' (fieldBytes tag d.data.toList).length (cellsOf (fieldBytes tag d.data.toList)) ∧ Below w.heap.size w w' := by
  have HC : Hid (∀ w, Calls Try.prog 24 #[.int .i64 tag, .string d] w fun e w' => e = .returned (.int .i64 0) ∧ w = w') := fun w => by
    have := may_any tag d w (by unfold maxLen; omega)
    have e : faultOf 0 tag d.size = 0 := by rw [faultOf, if_neg (by omega), if_neg (by omega)]
    rwa [e] at this
  go_enter Try.func16, Try.ntmps16
  go_wp2_with fail
  refine (HC.out _).mono ?_
  rintro e _ ⟨rfl, rfl⟩
  go_wp2_with fail
  refine (bytes_any tag d _ hd htag.2).mono ?_
  rintro e w2 ⟨v', rfl, hown, hb⟩
  go_wp2
  go_ret2
  exact ⟨_, rfl, hown, hb⟩
end Go.Proofs.Ytmfopddmkaecaaa
