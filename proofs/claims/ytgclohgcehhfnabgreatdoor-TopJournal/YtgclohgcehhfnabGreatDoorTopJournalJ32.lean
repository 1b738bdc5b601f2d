/- Texts of our own that the row of TopJournal leans on, part 32. -/
import Derived.Test.YtgclohgcehhfnabGreatDoorTopJournalJ20
import Derived.Test.YtgclohgcehhfnabGreatDoorTopJournalJ26
import Derived.Test.YtgclohgcehhfnabGreatDoorTopJournalJ31
/- What stands in the rounds of TopJournal. -/
namespace Go.Proofs.YtgclohgcehhfnabGreatDoor
open Go.RowKit Nums Sums
set_option linter.unusedVariables false
set_option linter.unusedSimpArgs false
set_option maxRecDepth 100000
variable {At : World → Nat → DkT → (Nat → Prop) → Prop} {Vt : Type} {WM : World → Nat → Nat → Nat → Nat → Vt → (Nat → Prop) → Prop} {WP : Nat → Nat → Vt → DkT → LgT → Prop} {PA : Nat → Nat → DkT → LgT → Bool → Prop}
def txI (x : ItT) : ByteArray := ⟨(itemB x).toArray⟩
def txL (l : List ItT) : List ByteArray := l.map txI
theorem txL_length (l : List ItT) : (txL l).length = l.length := by unfold txL; rw [List.length_map]
theorem txI_size {x : ItT} (h : rightI x = true) (ok : OkE x.e) : (txI x).size ≤ 256 := by
  have := itemB_length h ok
  show (itemB x).toArray.size ≤ 256
  simpa using this
theorem txI_data (x : ItT) : (txI x).data.toList = itemB x := by unfold txI; simp
structure JouS (At : World → Nat → DkT → (Nat → Prop) → Prop) (WM : World → Nat → Nat → Nat → Nat → Vt → (Nat → Prop) → Prop) (WP : Nat → Nat → Vt → DkT → LgT → Prop) (W wr : World) (p q r k : Nat) (ts : List ByteArray) (least : Nat) (D : DkT) (L : LgT) : Prop where
  lv : LvW At WM WP W wr p q 0 r D L
  states : ∀ s ∈ statesL L, ∃ e, least ≤ e ∧ e ≤ k ∧ s.recs = ts.take e
  now : L.now.recs = ts.take k
  maybe : L.maybe = false
  cost : L.now.cost ≤ 300 * k
  low : least ≤ k
  stops : D.stops = false
  room : D.safe.length = r
  puts : D.puts.length ≤ 800 * (k + 1)
theorem JouS.below (dk : DiskC At) (wl : WalC At WM WP PA) {W wr w' : World} {p q r k : Nat} {ts : List ByteArray} {least : Nat} {D : DkT} {L : LgT} (h : JouS At WM WP W wr p q r k ts least D L) (hb : Below wr.heap.size wr w') : JouS At WM WP W w' p q r k ts least D L :=
  ⟨h.lv.below dk wl hb, h.states, h.now, h.maybe, h.cost, h.low, h.stops, h.room, h.puts⟩
theorem jou_new {W wr : World} {p q r : Nat} {ts : List ByteArray} {D : DkT} {L : LgT} (h : LvW At WM WP W wr p q 0 r D L) (hI : IsL L ⟨[], 0⟩) (hs : D.stops = false) (hr : D.safe.length = r) (hp : D.puts.length ≤ 800) : JouS At WM WP W wr p q r 0 ts 0 D L := by
  refine ⟨h, fun s hs => ?_, by rw [hI.2.1]; rfl, hI.2.2, by rw [hI.2.1]; exact Nat.le_refl _, Nat.le_refl _, hs, hr, by omega⟩
  unfold statesL at hs
  rw [hI.1, hI.2.1] at hs
  obtain rfl : s = ⟨[], 0⟩ := by simpa using hs
  exact ⟨0, Nat.le_refl _, Nat.le_refl _, rfl⟩
theorem jou_commit (dk : DiskC At) (wl : WalC At WM WP PA) (W wr w : World) (p q r k : Nat) (ts : List ByteArray) (least : Nat) (D : DkT) (L : LgT) (h : JouS At WM WP W wr p q r k ts least D L) (hb : Below wr.heap.size wr w) (hk : k < ts.length) (hk2 : 300 * k + 296 ≤ r / 2) (hkp : k ≤ 100) (ht : ts[k].size ≤ 256) (b : Nat) (hbl : wr.heap.size ≤ b) (hT : Texts w (some ⟨b, 0, none⟩) 1 [ts[k]]) :
    Calls Tryz.prog 10 #[ptr q, .slice (some ⟨b, 0, none⟩) 1 1] w fun e w' => e = .returned (.int .i64 0) ∧ ∃ D' L', JouS At WM WP W w' p q r (k + 1) ts least D' L' ∧ D'.puts.length ≤ 800 * (k + 1) + 400 := by
  have hco := h.cost
  have hpu := h.puts
  have hcn : costN [ts[k]] ≤ 280 := by show 16 + 8 + ts[k].size ≤ 280; omega
  refine (calm_commit dk wl W wr w p q 0 r D L h.lv h.stops hb (by omega) (some ⟨b, 0, none⟩) 1 1 [ts[k]] hT ⟨by show 1 ≤ 30; omega, fun s hs => by rw [List.mem_singleton] at hs; rw [hs]; omega⟩ (fun e => by cases e) (fun b' e => .inr (by obtain ⟨o, e, _⟩ := e; cases e; exact hbl)) (by omega)).mono ?_
  rintro e w' ⟨rfl, D', h1, h2⟩
  have hpp := h1.puts
  refine ⟨rfl, D', _, ⟨h2, fun s hs => ?_, ?_, h.maybe, ?_, by have := h.low; omega, h1.stops.trans h.stops, h1.room.trans h.room, by omega⟩, by omega⟩
  · rw [statesL_to] at hs
    rcases List.mem_append.1 hs with hs | hs
    · obtain ⟨e, k1, k2, k3⟩ := h.states s hs
      exact ⟨e, k1, by omega, k3⟩
    · obtain rfl : s = committed L [ts[k]] := by simpa using hs
      refine ⟨k + 1, by have := h.low; omega, Nat.le_refl _, ?_⟩
      show L.now.recs ++ [ts[k]] = _
      rw [h.now, List.take_succ_eq_append_getElem hk]
  · show L.now.recs ++ [ts[k]] = _
    rw [h.now, List.take_succ_eq_append_getElem hk]
  · show L.now.cost + costN [ts[k]] ≤ _
    omega
theorem jou_sync (dk : DiskC At) (wl : WalC At WM WP PA) (W w : World) (p q r k : Nat) (ts : List ByteArray) (least : Nat) (D : DkT) (L : LgT) (h : JouS At WM WP W w p q r k ts least D L) (hkp : k ≤ 100) (hp : D.puts.length + 400 ≤ 800 * (k + 1)) :
    Calls Tryz.prog 11 #[ptr q] w fun e w' => e = .returned (.int .i64 0) ∧ ∃ D' L', JouS At WM WP W w' p q r k ts k D' L' := by
  refine (calm_sync dk wl W w p q 0 r D L h.lv h.stops (by omega)).mono ?_
  rintro e w' ⟨rfl, D', h1, h2⟩
  have hpp := h1.puts
  refine ⟨rfl, D', _, h2, fun s hs => ?_, h.now, rfl, h.cost, Nat.le_refl _, h1.stops.trans h.stops, h1.room.trans h.room, by omega⟩
  rw [statesL_synced] at hs
  obtain rfl : s = L.now := by simpa using hs
  exact ⟨k, Nat.le_refl _, Nat.le_refl _, h.now⟩
theorem JouS.told {W wr : World} {p q r k : Nat} {ts : List ByteArray} {least : Nat} {D : DkT} {L : LgT} (h : JouS At WM WP W wr p q r k ts least D L) {rs : List ByteArray} (ho : opensB L rs true = true) : ∃ e, least ≤ e ∧ e ≤ k ∧ rs = ts.take e := by
  rcases (opensB_crash L rs).1 ho with ⟨s, hs, e⟩ | ⟨hm, _⟩
  · obtain ⟨x, h2, h3, h4⟩ := h.states s hs
    exact ⟨x, h2, h3, by rw [← e, h4]⟩
  · rw [h.maybe] at hm; cases hm
theorem build_text (V : World) (s : ByteArray) : (Instr.buildSlice 31 1 #[(0, .string s)]).run Tryz.prog V = .ok (.slice (some ⟨V.heap.size, 0, none⟩) 1 1) (V.alloc (.cells #[.string s] 9)) := by
  obtain ⟨ie, hie, hz, hs, hy⟩ := info_parts info9T
  refine run_buildSlice V 31 9 1 _ _ ie _ Tryz.underlying31 hie hz (by rw [hs]; omega) (by rw [hs]; omega) ?_
  rw [hs]
  simp [Instr.fill, Value.cells, show Array.range 1 = #[0] from rfl]
theorem texts_one (V : World) (s : ByteArray) : Texts (V.alloc (.cells #[.string s] 9)) (some ⟨V.heap.size, 0, none⟩) 1 [s] := by
  refine ⟨rfl, .inr ⟨V.heap.size, 0, rfl, by simp, fun i hi => ?_⟩⟩
  obtain rfl : i = 0 := by simp at hi; omega
  rw [cell_of_row _ _ 0 _ _ (0, 0) (heap_alloc_new V _)]
  rfl
end Go.Proofs.YtgclohgcehhfnabGreatDoor
