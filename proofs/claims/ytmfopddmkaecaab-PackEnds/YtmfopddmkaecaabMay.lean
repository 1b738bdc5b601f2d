/- What the document's own May and Bytes answer. -/
import Derived.Test.YtmfopddmkaecaabOwn
namespace Go.Proofs.Ytmfopddmkaecaab
open Go.RowKit Nums

theorem may_any (tag : Int) (d : ByteArray) (w : World) (hd : d.size ≤ maxLen) :
    Calls Try.prog 18 #[.int .i64 tag, .string d] w fun e w' => e = .returned (.int .i64 (faultOf 0 tag d.size)) ∧ w = w' := by
  unfold maxLen at hd
  by_cases h1 : tag < 1
  · have HF : Hid (faultOf 0 tag d.size = 1) := by show _ = _; rw [faultOf, if_pos (by omega)]
    go_enter Try.func18, Try.ntmps18
    go_wp2
    go_ret
    rw [HF.out]
    exact ⟨rfl, rfl⟩
  · by_cases h2 : 255 < tag
    · have HF : Hid (faultOf 0 tag d.size = 1) := by show _ = _; rw [faultOf, if_pos (by omega)]
      go_enter Try.func18, Try.ntmps18
      go_wp2
      go_ret
      rw [HF.out]
      exact ⟨rfl, rfl⟩
    · by_cases h3 : (65536 : Int) < (d.size : Int)
      · have HF : Hid (faultOf 0 tag d.size = 2) := by show _ = _; rw [faultOf, if_neg (by omega), if_pos (by omega)]
        go_enter Try.func18, Try.ntmps18
        go_wp2
        go_ret
        rw [HF.out]
        exact ⟨rfl, rfl⟩
      · have HF : Hid (faultOf 0 tag d.size = 0) := by show _ = _; rw [faultOf, if_neg (by omega), if_neg (by omega)]
        go_enter Try.func18, Try.ntmps18
        go_wp2
        go_ret
        rw [HF.out]
        exact ⟨rfl, rfl⟩

set_option maxHeartbeats 1000000 in
theorem bytes_any (tag : Nat) (d : ByteArray) (w : World) (hd : d.size ≤ 65536) (htag : tag ≤ 255) :
    Calls Try.prog 19 #[.int .i64 tag, .string d] w fun e w' => ∃ v', e = .returned v' ∧
      w'.ownsRow w.heap.size 5 1 v' (fieldBytes tag d.data.toList).length (cellsOf (fieldBytes tag d.data.toList)) ∧ Below w.heap.size w w' := by
  obtain ⟨i0, hi, hz0, hz1, hz2⟩ := info_parts info5
  have hown : (w.alloc (.cells #[.int .u8 (tag : Int), .int .u8 ((d.size : Int) / 65536), .int .u8 ((d.size : Int) / 256 % 256), .int .u8 ((d.size : Int) % 256)] 5)).ownsRow w.heap.size 5 1 (.slice (some ⟨w.heap.size, 0, none⟩) 4 4) 4 [.int .u8 (tag : Int), .int .u8 ((d.size : Int) / 65536), .int .u8 ((d.size : Int) / 256 % 256), .int .u8 ((d.size : Int) % 256)] :=
    World.ownsRow_lit w _ 4 (Nat.le_refl _) (by decide) rfl
  have HOWN : Hid _ := hown
  clear hown
  have HB : Hid (∀ o, Below w.heap.size w (w.alloc o)) := fun o => (Below.refl _ _).alloc (Nat.le_refl _) _
  go_enter Try.func19, Try.ntmps19
  go_wp2_with (first
    | (at_builtin; refine Lib.wpList_append_own_string _ rfl (.tmp 20) (.tmp 21) 24 9 rfl w.heap.size 5 i0 Try.underlying24 Try.underlying9 hi hz0 hz1 hz2 _ _ _ rfl HOWN.out d rfl ?d1 ?d2 ?d3 ?_)
    | fail)
  case d1 => unfold maxLen; omega
  case d2 => omega
  case d3 => simp
  intro v2 w2 hown2 hgrow2 _
  have hb2 : Below w.heap.size w w2 := (HB.out _).grown hgrow2 (by simp) (by intro k hk; simp [Value.ownBlock] at hk; omega)
  have hown3 : w2.ownsRow w.heap.size 5 1 v2 (fieldBytes tag d.data.toList).length (cellsOf (fieldBytes tag d.data.toList)) := by
    have e1 : (fieldBytes tag d.data.toList).length = 4 + d.size := by rw [fieldBytes_length]; simp
    rw [e1, ← head_cells tag d htag hd]
    simpa only [List.append_assoc, List.cons_append, List.nil_append] using hown2
  clear hown2 hgrow2
  go_wp2
  go_ret
  exact ⟨_, rfl, hown3, hb2⟩

end Go.Proofs.Ytmfopddmkaecaab
