/- Texts of our own that the row of TopJournal leans on, part 47. -/
import Derived.Test.YtgclohgcehhfnabGreatDoorTopJournalJ16
import Derived.Test.YtgclohgcehhfnabGreatDoorTopJournalJ34
import Derived.Lib.ItoaLen
/- How a wal lies in its part of a disk. -/
namespace Go.Proofs.YtgclohgcehhfnabGreatDoor
open Nums
set_option linter.unusedVariables false
set_option maxRecDepth 100000
def limN (r : Nat) : Nat := r / 2 - 16
def offN (r h : Nat) : Nat := 30 + h * (limN r + 1)
theorem off_zero (r : Nat) : offN r 0 = 30 := by unfold offN; omega
theorem off_one (r : Nat) : offN r 1 = 30 + (limN r + 1) := by unfold offN; omega
def nameT (f r : Nat) : List UInt8 := [101, 115, 116, 114, 101, 97, 116, 32, 119, 97, 108, 32] ++ Lib.itoa f ++ [32] ++ Lib.itoa r
def nameB (f r : Nat) : List UInt8 := (nameT f r).take 29 ++ List.replicate (29 - (nameT f r).length) 0
theorem nameB_length (f r : Nat) : (nameB f r).length = 29 := by
  unfold nameB
  rw [List.length_append, List.length_take, List.length_replicate]
  omega
def textB (s : ByteArray) : List UInt8 := be 8 s.size ++ s.data.toList
def laidB (l : List ByteArray) : List UInt8 := 1 :: (be 15 l.length ++ l.flatMap textB)
theorem text_length (s : ByteArray) : (textB s).length = 8 + s.size := by unfold textB; rw [List.length_append, be_length]; rfl
theorem laid_length (l : List ByteArray) : (laidB l).length = costN l := by
  unfold laidB
  rw [List.length_cons, List.length_append, be_length]
  have : ∀ l : List ByteArray, (l.flatMap textB).length + 16 = costN l := by
    intro l
    induction l with
    | nil => rfl
    | cons s r ih =>
      rw [List.flatMap_cons, List.length_append, text_length]
      show 8 + s.size + (r.flatMap textB).length + 16 = costN r + 8 + s.size
      omega
  have := this l
  omega
def sumC : List (List ByteArray) → Nat
  | [] => 0
  | b :: r => costN b + sumC r
def layB (bs : List (List ByteArray)) : List UInt8 := bs.flatMap laidB
theorem lay_length (bs : List (List ByteArray)) : (layB bs).length = sumC bs := by
  unfold layB
  induction bs with
  | nil => rfl
  | cons b r ih => rw [List.flatMap_cons, List.length_append, laid_length, ih]; rfl
theorem sumC_append (a b : List (List ByteArray)) : sumC (a ++ b) = sumC a + sumC b := by
  induction a with
  | nil => show sumC b = 0 + sumC b; omega
  | cons x r ih => show costN x + sumC (r ++ b) = costN x + sumC r + sumC b; omega
theorem sumC_one (l : List ByteArray) : sumC [l] = costN l := by show costN l + 0 = _; omega
theorem lay_append (a b : List (List ByteArray)) : layB (a ++ b) = layB a ++ layB b := by unfold layB; rw [List.flatMap_append]
theorem lay_one (l : List ByteArray) : layB [l] = laidB l := by unfold layB; simp
structure LaidP (f r h : Nat) (bs : List (List ByteArray)) (P : List UInt8) : Prop where
  len : P.length = r
  half : h < 2
  mark : P[0]? = some (UInt8.ofNat (h + 1))
  name : ∀ i, i < 29 → P[1 + i]? = (nameB f r)[i]?
  ok : ∀ b ∈ bs, batchB b = true
  fits : sumC bs ≤ limN r
  lies : ∀ i, i < sumC bs → P[offN r h + i]? = (layB bs)[i]?
  zero : P[offN r h + sumC bs]? = some 0
structure NewP (f r : Nat) (P : List UInt8) : Prop where
  len : P.length = r
  mark : P[0]? = some 0
  name : ∃ k, k ≤ 29 ∧ (∀ i, i < k → P[1 + i]? = (nameB f r)[i]?) ∧ ∀ i, 1 + k ≤ i → i < r → P[i]? = some 0
theorem get_done {P b : List UInt8} {a r : Nat} (hP : P.length = r) (ha : a + b.length ≤ r) (k : Nat) : (doneB P (a, b))[k]? = if a ≤ k ∧ k < a + b.length then b[k - a]? else P[k]? := doneB_get (p := (a, b)) (by show a + b.length ≤ P.length; omega) k
theorem len_done {P b : List UInt8} {a r : Nat} (hP : P.length = r) (ha : a + b.length ≤ r) : (doneB P (a, b)).length = r := (doneB_length (p := (a, b)) (by show a + b.length ≤ P.length; omega)).trans hP
theorem limN_room {r : Nat} (h : 64 ≤ r) : 16 ≤ limN r ∧ 30 + 2 * (limN r + 1) ≤ r := by unfold limN; omega
theorem off_room {r h : Nat} (hr : 64 ≤ r) (hh : h < 2) : 30 ≤ offN r h ∧ offN r h + limN r + 1 ≤ r := by
  have := limN_room hr
  rcases (by omega : h = 0 ∨ h = 1) with rfl | rfl
  · rw [off_zero]; omega
  · rw [off_one]; omega
theorem LaidP.keep {f r h : Nat} {bs : List (List ByteArray)} {P : List UInt8} (H : LaidP f r h bs P) (hr : 64 ≤ r) {a : Nat} {b : List UInt8} (h1 : 30 ≤ a) (h2 : a + b.length ≤ r) (h3 : a + b.length ≤ offN r h ∨ offN r h + sumC bs < a) : LaidP f r h bs (doneB P (a, b)) := by
  have ho := off_room hr H.half
  have hf := H.fits
  refine ⟨len_done H.len h2, H.half, ?_, fun i hi => ?_, H.ok, H.fits, fun i hi => ?_, ?_⟩
  · rw [get_done H.len h2, if_neg (by omega)]; exact H.mark
  · rw [get_done H.len h2, if_neg (by omega)]; exact H.name i hi
  · rw [get_done H.len h2, if_neg (by omega)]; exact H.lies i hi
  · rw [get_done H.len h2, if_neg (by omega)]; exact H.zero
def tailB (l : List ByteArray) : List UInt8 := be 15 l.length ++ l.flatMap textB ++ [0]
theorem tail_laid (l : List ByteArray) : laidB l ++ [0] = 1 :: tailB l := by unfold laidB tailB; simp
theorem tail_length (l : List ByteArray) : (tailB l).length = costN l := by
  have := congrArg List.length (tail_laid l)
  rw [List.length_append, laid_length, List.length_cons, List.length_cons, List.length_nil] at this
  omega
theorem LaidP.more {f r h : Nat} {bs : List (List ByteArray)} {P : List UInt8} (H : LaidP f r h bs P) (hr : 64 ≤ r) (l : List ByteArray) (hl : batchB l = true) (hc : sumC bs + costN l ≤ limN r) : LaidP f r h (bs ++ [l]) (doneB (doneB P (offN r h + sumC bs + 1, tailB l)) (offN r h + sumC bs, [1])) := by
  have ho := off_room hr H.half
  have htl := tail_length l
  have hp := costN_pos l
  have h2 : offN r h + sumC bs + 1 + (tailB l).length ≤ r := by omega
  have h3 : offN r h + sumC bs + ([1] : List UInt8).length ≤ r := by show _ + 1 ≤ r; omega
  have hL := len_done H.len h2
  have g : ∀ k, (doneB (doneB P (offN r h + sumC bs + 1, tailB l)) (offN r h + sumC bs, [1]))[k]? = if offN r h + sumC bs ≤ k ∧ k < offN r h + sumC bs + 1 + costN l then (laidB l ++ [0])[k - (offN r h + sumC bs)]? else P[k]? := by
    intro k
    rw [get_done hL h3, get_done H.len h2, htl, tail_laid]
    show (if offN r h + sumC bs ≤ k ∧ k < offN r h + sumC bs + 1 then _ else _) = _
    by_cases e : k = offN r h + sumC bs
    · subst e
      rw [if_pos (by omega), if_pos (by omega), Nat.sub_self]
      rfl
    · rw [if_neg (by omega)]
      by_cases e2 : offN r h + sumC bs + 1 ≤ k ∧ k < offN r h + sumC bs + 1 + costN l
      · rw [if_pos e2, if_pos (by omega)]
        obtain ⟨j, rfl⟩ : ∃ j, k = offN r h + sumC bs + 1 + j := ⟨k - (offN r h + sumC bs + 1), by omega⟩
        have e3 : offN r h + sumC bs + 1 + j - (offN r h + sumC bs) = j + 1 := by omega
        have e4 : offN r h + sumC bs + 1 + j - (offN r h + sumC bs + 1) = j := by omega
        rw [e3, e4]
        rfl
      · rw [if_neg e2, if_neg (by omega)]
  have hs : sumC (bs ++ [l]) = sumC bs + costN l := by rw [sumC_append, sumC_one]
  have hll := laid_length l
  refine ⟨len_done hL h3, H.half, ?_, fun i hi => ?_, fun b hb => ?_, by omega, fun i hi => ?_, ?_⟩
  · rw [g, if_neg (by omega)]; exact H.mark
  · rw [g, if_neg (by omega)]; exact H.name i hi
  · rcases List.mem_append.1 hb with hb | hb
    · exact H.ok b hb
    · obtain rfl : b = l := by simpa using hb
      exact hl
  · rw [lay_append, lay_one, g]
    by_cases e : i < sumC bs
    · rw [if_neg (by omega), H.lies i e, List.getElem?_append_left (by rw [lay_length]; exact e)]
    · rw [if_pos (by omega), List.getElem?_append_left (by omega), List.getElem?_append_right (l₁ := layB bs) (by rw [lay_length]; omega), lay_length]
      congr 1
      omega
  · rw [hs, g, if_pos (by omega), List.getElem?_append_right (by omega), hll]
    have e : offN r h + (sumC bs + costN l) - (offN r h + sumC bs) - costN l = 0 := by omega
    rw [e]
    rfl
theorem LaidP.turn {f r h : Nat} {bs : List (List ByteArray)} {P : List UInt8} (H : LaidP f r h bs P) (hr : 64 ≤ r) (l : List ByteArray) (hl : batchB l = true) (hc : costN l ≤ limN r) (o : Nat) (ho2 : o < 2) : LaidP f r o [l] (doneB (doneB P (offN r o, laidB l ++ [0])) (0, [UInt8.ofNat (o + 1)])) := by
  have ho := off_room hr ho2
  have hll : (laidB l ++ [0]).length = costN l + 1 := by rw [List.length_append, laid_length]; rfl
  have h2 : offN r o + (laidB l ++ [0]).length ≤ r := by omega
  have h3 : 0 + ([UInt8.ofNat (o + 1)] : List UInt8).length ≤ r := by show 0 + 1 ≤ r; omega
  have hL := len_done H.len h2
  have g : ∀ k, 1 ≤ k → (doneB (doneB P (offN r o, laidB l ++ [0])) (0, [UInt8.ofNat (o + 1)]))[k]? = if offN r o ≤ k ∧ k < offN r o + (costN l + 1) then (laidB l ++ [0])[k - offN r o]? else P[k]? := by
    intro k hk
    rw [get_done hL h3, get_done H.len h2, hll]
    show (if 0 ≤ k ∧ k < 0 + 1 then _ else _) = _
    rw [if_neg (by omega)]
  refine ⟨len_done hL h3, ho2, ?_, fun i hi => ?_, fun b hb => ?_, by rw [sumC_one]; exact hc, fun i hi => ?_, ?_⟩
  · rw [get_done hL h3]
    show (if 0 ≤ 0 ∧ 0 < 0 + 1 then _ else _) = _
    rw [if_pos (by omega)]
    rfl
  · rw [g _ (by omega), if_neg (by omega)]; exact H.name i hi
  · obtain rfl : b = l := by simpa using hb
    exact hl
  · rw [sumC_one] at hi
    rw [lay_one, g _ (by omega), if_pos (by omega), List.getElem?_append_left (by rw [laid_length]; omega)]
    congr 1
    omega
  · rw [sumC_one, g _ (by omega), if_pos (by omega), List.getElem?_append_right (by rw [laid_length]; omega), laid_length]
    have e : offN r o + costN l - offN r o - costN l = 0 := by omega
    rw [e]
    rfl
theorem NewP.named {f r : Nat} {P : List UInt8} (H : NewP f r P) (hr : 64 ≤ r) (t : Nat) (ht : t ≤ 29) : NewP f r (doneB P (1, (nameB f r).take t)) := by
  have hn := nameB_length f r
  have hl : ((nameB f r).take t).length = t := by rw [List.length_take]; omega
  have h2 : 1 + ((nameB f r).take t).length ≤ r := by omega
  obtain ⟨k, hk, h3, h4⟩ := H.name
  refine ⟨len_done H.len h2, ?_, max k t, by omega, fun i hi => ?_, fun i h5 h6 => ?_⟩
  · rw [get_done H.len h2, if_neg (by omega)]; exact H.mark
  · rw [get_done H.len h2, hl]
    by_cases e : i < t
    · rw [if_pos (by omega), List.getElem?_take_of_lt (by omega)]
      congr 1
      omega
    · rw [if_neg (by omega)]; exact h3 i (by omega)
  · rw [get_done H.len h2, hl, if_neg (by omega)]
    exact h4 i (by omega) h6
theorem NewP.made {f r : Nat} {P : List UInt8} (H : NewP f r P) (hr : 64 ≤ r) : LaidP f r 0 [] (doneB (doneB P (1, nameB f r)) (0, [1])) := by
  have hn := nameB_length f r
  have h2 : 1 + (nameB f r).length ≤ r := by omega
  have h3 : 0 + ([1] : List UInt8).length ≤ r := by show 0 + 1 ≤ r; omega
  have hL := len_done H.len h2
  obtain ⟨k, hk, h4, h5⟩ := H.name
  refine ⟨len_done hL h3, by omega, ?_, fun i hi => ?_, (fun b hb => by cases hb), Nat.zero_le _, (fun i hi => by cases hi), ?_⟩
  · rw [get_done hL h3]
    show (if 0 ≤ 0 ∧ 0 < 0 + 1 then _ else _) = _
    rw [if_pos (by omega)]
    rfl
  · rw [get_done hL h3]
    show (if 0 ≤ 1 + i ∧ 1 + i < 0 + 1 then _ else _) = _
    rw [if_neg (by omega), get_done H.len h2, if_pos (by omega)]
    congr 1
    omega
  · have e : offN r 0 + sumC [] = 30 := by rw [off_zero]; rfl
    rw [e, get_done hL h3]
    have hne : ¬ (0 ≤ 30 ∧ 30 < 0 + ([1] : List UInt8).length) := by show ¬ (0 ≤ 30 ∧ 30 < 0 + 1); omega
    rw [if_neg hne, get_done H.len h2, if_neg (by omega)]
    exact h5 30 (by omega) (by omega)
theorem new_zero (n f r : Nat) (h : 64 ≤ r) (hn : f + r ≤ n) : NewP f r (sub (List.replicate n 0) f r) := by
  have hl : (List.replicate n (0 : UInt8)).length = n := List.length_replicate
  have g : ∀ i, i < r → (sub (List.replicate n 0) f r)[i]? = some (0 : UInt8) := fun i hi => by
    rw [sub_get hi, List.getElem?_replicate, if_pos (by omega)]
  exact ⟨sub_length (by rw [hl]; exact hn), g 0 (by omega), 0, by omega, (fun i hi => by omega), fun i h1 h2 => g i h2⟩
end Go.Proofs.YtgclohgcehhfnabGreatDoor
