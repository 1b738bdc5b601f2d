/- Texts of our own that the row of PathMakes leans on, part 19. -/
import Derived.Test.YtkmedlfbkddmoaaGreatDoorPathMakesJ14
import Derived.Test.YtkmedlfbkddmoaaGreatDoorPathMakesJ16
import Derived.Deep.QuietTactic
import Derived.BigQuiet
import Derived.BigRegion
/- What pack.Get answers. -/
namespace Go.Proofs.YtkmedlfbkddmoaaGreatDoor
open Go.RowKit Nums
set_option maxRecDepth 100000
def Reads (w : World) (a : Option Addr) (len cap : Nat) (l : List UInt8) : Prop :=
  l.length = len ∧ len ≤ cap ∧ cap ≤ 9223372036854775807 ∧
  ((a = none ∧ cap = 0) ∨ (∃ ad, a = some ad ∧ len = 0) ∨ ∃ b off, a = some ⟨b, off, none⟩ ∧ b < w.heap.size ∧ ∀ (i : Nat) (h : i < l.length), w.cell? ⟨b, off + i, none⟩ = some (.int .u8 l[i].toNat))
theorem Reads.below {w w' : World} {a : Option Addr} {len cap : Nat} {l : List UInt8} (h : Reads w a len cap l) (hb : Below w.heap.size w w') : Reads w' a len cap l := by
  obtain ⟨h1, h2, h3, h4⟩ := h
  refine ⟨h1, h2, h3, ?_⟩
  rcases h4 with h4 | h4 | ⟨b, off, e, hlt, hc⟩
  · exact .inl h4
  · exact .inr (.inl h4)
  · refine .inr (.inr ?_)
    exact ⟨b, off, e, Nat.lt_of_lt_of_le hlt hb.size, fun i hi => (hb.cell (p := ⟨b, off + i, none⟩) hlt).trans (hc i hi)⟩
theorem Reads.heads {w : World} {a : Option Addr} {len cap : Nat} {l : List UInt8} (h : Reads w a len cap l) (h4 : 4 ≤ len) :
    ∃ b off, a = some ⟨b, off, none⟩ ∧ b < w.heap.size ∧ w.cell? ⟨b, off, none⟩ = some (.int .u8 (l.getD 0 0).toNat) ∧ w.cell? ⟨b, off + 1, none⟩ = some (.int .u8 (l.getD 1 0).toNat) ∧
      w.cell? ⟨b, off + 2, none⟩ = some (.int .u8 (l.getD 2 0).toNat) ∧ w.cell? ⟨b, off + 3, none⟩ = some (.int .u8 (l.getD 3 0).toNat) ∧
      ∀ (n : Nat), 4 + n ≤ len → ((l.drop 4).take n).length = n ∧ ∀ (j : Nat) (hj : j < ((l.drop 4).take n).length), w.cell? ⟨b, off + 4 + j, none⟩ = some (.int .u8 ((l.drop 4).take n)[j].toNat) := by
  obtain ⟨h1, h2, h3, ⟨_, h0⟩ | ⟨_, _, h0⟩ | ⟨b, off, e, hlt, hc⟩⟩ := h
  · omega
  · omega
  · have hg : ∀ i, i < len → w.cell? ⟨b, off + i, none⟩ = some (.int .u8 (l.getD i 0).toNat) := fun i hi => by
      rw [hc i (by omega), List.getD, List.getElem?_eq_getElem (by omega)]; rfl
    refine ⟨b, off, e, hlt, hg 0 (by omega), hg 1 (by omega), hg 2 (by omega), hg 3 (by omega), ?_⟩
    intro n hn
    refine ⟨by simp; omega, fun j hj => ?_⟩
    have hj' : j < n := by simp at hj; omega
    have := hc (4 + j) (by omega)
    rw [← Nat.add_assoc] at this
    rw [this]
    simp
theorem own_lower {w : World} {B B' e size n : Nat} {v : Value} {xs : List Value} (h : w.ownsRow B e size v n xs) (hB : B' ≤ B) : w.ownsRow B' e size v n xs := by
  refine ⟨h.1, ?_⟩
  rcases h.2 with h2 | ⟨g, cap, cur, e1, hb, r⟩
  · exact .inl h2
  · exact .inr ⟨g, cap, cur, e1, Nat.le_trans hB hb, r⟩
theorem reads_own {w : World} {B : Nat} {v : Value} {l : List UInt8} (h : w.ownsRow B 5 1 v l.length (cellsOf l)) : ∃ a cap, v = .slice a l.length cap ∧ Reads w a l.length cap l := by
  rcases h.2 with ⟨rfl, h0⟩ | ⟨g, cap, cur, rfl, hb, hg, hn, hm, hs, ht⟩
  · refine ⟨none, 0, by rw [h0], rfl, by omega, by decide, .inl ⟨rfl, rfl⟩⟩
  · have hlt := (h.lt g rfl).2
    refine ⟨_, _, rfl, rfl, hn, by unfold maxLen at hm; omega, .inr (.inr ⟨g, 0, rfl, hlt, fun i hi => ?_⟩)⟩
    have := cells_at h rfl i hi
    rwa [add_plain] at this
end Go.Proofs.YtkmedlfbkddmoaaGreatDoor
/- What the document's own Bytes answers. -/
namespace Go.Proofs.YtkmedlfbkddmoaaGreatDoor
open Go.RowKit Nums
set_option maxRecDepth 100000
set_option maxHeartbeats 1000000 in
theorem bytes_any (tag : Nat) (d : ByteArray) (w : World) (hd : d.size ≤ 65536) (htag : tag ≤ 255) :
    Calls Tryz.prog 122 #[.int .i64 tag, .string d] w fun e w' => ∃ v', e = .returned v' ∧
      w'.ownsRow w.heap.size 5 1 v' (fieldBytes tag d.data.toList).length (cellsOf (fieldBytes tag d.data.toList)) ∧ Below w.heap.size w w' := by
  obtain ⟨i0, hi, hz0, hz1, hz2⟩ := info_parts info5
  have hown : (w.alloc (.cells #[.int .u8 (tag : Int), .int .u8 ((d.size : Int) / 65536), .int .u8 ((d.size : Int) / 256 % 256), .int .u8 ((d.size : Int) % 256)] 5)).ownsRow w.heap.size 5 1 (.slice (some ⟨w.heap.size, 0, none⟩) 4 4) 4 [.int .u8 (tag : Int), .int .u8 ((d.size : Int) / 65536), .int .u8 ((d.size : Int) / 256 % 256), .int .u8 ((d.size : Int) % 256)] :=
    World.ownsRow_lit w _ 4 (Nat.le_refl _) (by decide) rfl
  have HOWN : Hid _ := hown
  clear hown
  have HB : Hid (∀ o, Below w.heap.size w (w.alloc o)) := fun o => (Below.refl _ _).alloc (Nat.le_refl _) _
  go_enter Tryz.func122, Tryz.ntmps122
  go_wp2_with (first
    | (at_builtin; refine Lib.wpList_append_own_string _ rfl (.tmp 20) (.tmp 21) 69 9 rfl w.heap.size 5 i0 Tryz.underlying69 Tryz.underlying9 hi hz0 hz1 hz2 _ _ _ rfl HOWN.out d rfl ?d1 ?d2 ?d3 ?_)
    | fail)
  case d1 => unfold maxLen; omega
  case d2 => omega
  case d3 => simp
  intro v2 w2 hown2 hgrow2 _
  have hb2 : Below w.heap.size w w2 := (HB.out _).grown hgrow2 (by simp) (by intro k hk; simp [Value.ownBlock] at hk; omega)
  have hown3 : w2.ownsRow w.heap.size 5 1 v2 (fieldBytes tag d.data.toList).length (cellsOf (fieldBytes tag d.data.toList)) := by
    have e1 : (fieldBytes tag d.data.toList).length = 4 + d.size := by rw [fieldBytes_length]; simp
    rw [e1, ← head_cells tag d htag hd]
    simpa only [List.append_assoc, List.cons_append, List.nil_append] using hown2
  clear hown2 hgrow2
  go_wp2
  go_ret
  exact ⟨_, rfl, hown3, hb2⟩
end Go.Proofs.YtkmedlfbkddmoaaGreatDoor
/- What the keeper's Lent and Kept do: bytes in memory of their own with seven marked places behind them; are they as they were? -/
namespace Go.Proofs.YtkmedlfbkddmoaaGreatDoor
open Go.RowKit Nums
set_option maxRecDepth 100000
theorem wpList_append_run {P : Program} {w : World} {ops : Array Oper} {rest : List Oper} {o : Oper} {a : Act} {Q : Exit → Act → World → Prop} (hgd : o.guard = none) (s x : Operand) (t u : TypeId)
    (ho : o.op = .call { callee := .builtin .append, args := #[s, x], argTypes := #[t, u] }) (vs vx v' : Value) (w' : World) (hs : a.eval s = vs) (hx : a.eval x = vx)
    (hrun : (Builtin.append_ #[t, u] o.type #[vs, vx]).run P w = .ok v' w') (h : wpList P ops Q rest (a.put o.dst v') w') : wpList P ops Q (o :: rest) a w := by
  refine wpList_plain hgd fun K hK => ?_
  unfold Oper.wp execOp
  simp only [ho, resolve, invoke, builtin, Sem.run_bind, Sem.run_pure, Result.andThen_ok, List.map_toArray, List.map_cons, List.map_nil, hs, hx, hrun]
  exact hK _ _ h
theorem run_append_grows {w : World} {a : Option Addr} {len cap : Nat} {l : List UInt8} (h : Reads w a len cap l) (B n ty : Nat) (v : Value) (xs : List UInt8)
    (hown : w.ownsRow B 5 1 v n (cellsOf xs)) (hB : B ≤ w.heap.size) (hb : n + len ≤ 140737488355328) :
    ∃ v' w', (Builtin.append_ #[69, 69] ty #[v, .slice a len cap]).run Tryz.prog w = .ok v' w' ∧
      w'.ownsRow B 5 1 v' (n + len) (cellsOf (xs ++ l)) ∧ w.grownBy w' v.ownBlock := by
  obtain ⟨i0, hi, hz0, hz1, hz2⟩ := info_parts info5
  obtain ⟨h1, h2, h3, ⟨rfl, h0⟩ | ⟨ad, rfl, h0⟩ | ⟨b, off, rfl, hlt, hc⟩⟩ := h
  · have hl0 : len = 0 := by omega
    subst h0 hl0
    have hl : l = [] := List.eq_nil_of_length_eq_zero h1
    subst hl
    refine ⟨v, w, run_append_owned_none (P := Tryz.prog) w B 69 ty 5 i0 1 Tryz.underlying69 hi _ n _ hown, ?_, World.grownBy.refl _ _⟩
    simpa using hown
  · subst h0
    have hl : l = [] := List.eq_nil_of_length_eq_zero h1
    subst hl
    obtain ⟨v', w', hr, ho, hg, _⟩ := run_append_own (P := Tryz.prog) w B 69 ty 5 i0 (.int .u8 0) 1 1 Tryz.underlying69 hi hz0 hz1 hz2 rfl (by decide) v n _ hown ad 0 cap [] rfl (by simp) (by simp) (by unfold maxLen; omega) (by omega) hB
    refine ⟨v', w', hr, ?_, hg⟩
    simpa using ho
  · obtain ⟨v', w', hr, ho, hg, _⟩ := run_append_own (P := Tryz.prog) w B 69 ty 5 i0 (.int .u8 0) 1 1 Tryz.underlying69 hi hz0 hz1 hz2 rfl (by decide) v n _ hown ⟨b, off, none⟩ len cap (cellsOf l) (by rw [cellsOf_length, h1]; omega) (fun j u hj => by
      rw [add_plain]
      have hjl : j < l.length := by
        rcases Nat.lt_or_ge j l.length with h | h
        · exact h
        · rw [List.getElem?_eq_none (by rw [cellsOf_length]; exact h)] at hj; cases hj
      rw [hc j hjl]
      simpa [cellsOf, List.getElem?_eq_getElem hjl] using hj) (cellsOf_one l) (by unfold maxLen; omega) (by omega) hB
    refine ⟨v', w', hr, ?_, hg⟩
    rw [cellsOf_append]
    exact ho
theorem conv_reads {w : World} {a : Option Addr} {len cap : Nat} {l : List UInt8} (h : Reads w a len cap l) :
    Sem.run Tryz.prog (convert 69 9 (.slice a len cap)) w = .ok (.string ⟨l.toArray⟩) w := by
  obtain ⟨h1, h2, h3, ⟨rfl, h0⟩ | ⟨ad, rfl, h0⟩ | ⟨b, off, rfl, hlt, hc⟩⟩ := h
  · have hl : l = [] := List.eq_nil_of_length_eq_zero (by omega)
    subst hl
    exact run_convert_bytes_nil (P := Tryz.prog) w 69 5 Tryz.underlying69 Tryz.underlying5 len cap 9 Tryz.underlying9
  · subst h1
    exact run_convert_bytes_back (P := Tryz.prog) w 69 9 5 ad cap l Tryz.underlying69 Tryz.underlying5 Tryz.underlying9 (fun j hj => by omega)
  · subst h1
    exact run_convert_bytes_back (P := Tryz.prog) w 69 9 5 ⟨b, off, none⟩ cap l Tryz.underlying69 Tryz.underlying5 Tryz.underlying9 (fun j hj => by rw [add_plain]; exact hc j hj)
theorem may_any (tag : Int) (d : ByteArray) (w : World) (hd : d.size ≤ maxLen) :
    Calls Tryz.prog 132 #[.int .i64 tag, .string d] w fun e w' => e = .returned (.int .i64 (faultOf 0 tag d.size)) ∧ w = w' := by
  unfold maxLen at hd
  by_cases h1 : tag < 1
  · have HF : Hid (faultOf 0 tag d.size = 1) := by show _ = _; rw [faultOf, if_pos (by omega)]
    go_enter Tryz.func132, Tryz.ntmps132
    go_wp2
    go_ret
    rw [HF.out]
    exact ⟨rfl, rfl⟩
  · by_cases h2 : 255 < tag
    · have HF : Hid (faultOf 0 tag d.size = 1) := by show _ = _; rw [faultOf, if_pos (by omega)]
      go_enter Tryz.func132, Tryz.ntmps132
      go_wp2
      go_ret
      rw [HF.out]
      exact ⟨rfl, rfl⟩
    · by_cases h3 : (65536 : Int) < (d.size : Int)
      · have HF : Hid (faultOf 0 tag d.size = 2) := by show _ = _; rw [faultOf, if_neg (by omega), if_pos (by omega)]
        go_enter Tryz.func132, Tryz.ntmps132
        go_wp2
        go_ret
        rw [HF.out]
        exact ⟨rfl, rfl⟩
      · have HF : Hid (faultOf 0 tag d.size = 0) := by show _ = _; rw [faultOf, if_neg (by omega), if_neg (by omega)]
        go_enter Tryz.func132, Tryz.ntmps132
        go_wp2
        go_ret
        rw [HF.out]
        exact ⟨rfl, rfl⟩
end Go.Proofs.YtkmedlfbkddmoaaGreatDoor
