/- Tags by keys, as the document defines them (HMAC over SHA-256). No program is spoken of. -/
import Derived.Test.YtkmndchbmbhlhaaDoorSums
namespace Go.Proofs.YtkmndchbmbhlhaaDoor
open Sums
set_option linter.unusedVariables false

/-- A key's block: its bytes and 32 noughts, each turned. -/
def blockD (key : List UInt8) (turn : UInt8) : List UInt8 := (key ++ List.replicate 32 0).map (· ^^^ turn)
theorem blockD_length (key : List UInt8) (turn : UInt8) (h : key.length = 32) : (blockD key turn).length = 64 := by unfold blockD; simp [h]
/-- P6.1. -/
def macD (key data : List UInt8) : List UInt8 := sumD (blockD key 92 ++ sumD (blockD key 54 ++ data))
/-- P6.2: may there be such a node? -/
def owner (r n : Int) : Bool := decide (1 ≤ r) && decide (r ≤ 5) && decide (1 ≤ n) && decide (n ≤ 3)
theorem owner_iff (r n : Int) : owner r n = true ↔ (1 ≤ r ∧ r ≤ 5 ∧ 1 ≤ n ∧ n ≤ 3) := by unfold owner; simp only [Bool.and_eq_true, decide_eq_true_eq]; omega
def keyD (master : List UInt8) (r n : Int) : List UInt8 := macD master [75, UInt8.ofNat r.toNat, UInt8.ofNat n.toNat]
def keyO (master : List UInt8) (r n : Int) : List UInt8 := if owner r n = true then keyD master r n else List.replicate 32 0
def keyE (r n : Int) : Int := if owner r n = true then 0 else 50
def holdE (master : List UInt8) (r n : Int) (data t : List UInt8) : Int := if owner r n = true then (if macD (keyD master r n) data = t then 0 else 72) else 50

theorem keyE_vals (r n : Int) : keyE r n = 0 ∨ keyE r n = 50 := by unfold keyE; split <;> simp
theorem holdE_vals (master : List UInt8) (r n : Int) (data t : List UInt8) : holdE master r n data t = 0 ∨ holdE master r n data t = 50 ∨ holdE master r n data t = 72 := by
  unfold holdE; repeat' split
  all_goals simp
theorem holdE_ok {master : List UInt8} {r n : Int} {data t : List UInt8} (h : holdE master r n data t = 0) : owner r n = true ∧ macD (keyD master r n) data = t := by
  unfold holdE at h
  split at h
  · rename_i ho
    split at h
    · rename_i ht; exact ⟨ho, ht⟩
    · simp at h
  · simp at h
theorem holdE_in (master : List UInt8) (r n : Int) (data t : List UInt8) (h : owner r n = true) : holdE master r n data t = if macD (keyD master r n) data = t then 0 else 72 := by unfold holdE; rw [if_pos h]
theorem holdE_out (master : List UInt8) (r n : Int) (data t : List UInt8) (h : ¬ owner r n = true) : holdE master r n data t = 50 := by unfold holdE; rw [if_neg h]
theorem keyO_in (master : List UInt8) (r n : Int) (h : owner r n = true) : keyO master r n = keyD master r n := by unfold keyO; rw [if_pos h]
theorem keyO_out (master : List UInt8) (r n : Int) (h : ¬ owner r n = true) : keyO master r n = List.replicate 32 0 := by unfold keyO; rw [if_neg h]
theorem macD_length (hs : ∀ l, (sumD l).length = 32) (k d : List UInt8) : (macD k d).length = 32 := hs _
theorem keyD_length (hs : ∀ l, (sumD l).length = 32) (k : List UInt8) (r n : Int) : (keyD k r n).length = 32 := hs _
theorem keyO_length (hs : ∀ l, (sumD l).length = 32) (k : List UInt8) (r n : Int) : (keyO k r n).length = 32 := by
  unfold keyO; split
  · exact hs _
  · simp
set_option maxRecDepth 100000 in
theorem mac_none : macD (List.replicate 32 0) [] = [182, 19, 103, 154, 8, 20, 217, 236, 119, 47, 149, 215, 120, 195, 95, 197, 255, 22, 151, 196, 147, 113, 86, 83, 198, 199, 18, 20, 66, 146, 197, 173] := by decide +kernel
/-- A block by its bytes. -/
theorem blockD_at (key : List UInt8) (turn : UInt8) (h : key.length = 32) (i : Nat) (hi : i < 64) : (blockD key turn)[i]? = some ((if h : i < key.length then key[i] else 0) ^^^ turn) := by
  unfold blockD
  rw [List.getElem?_map]
  by_cases hk : i < key.length
  · rw [List.getElem?_append_left hk, List.getElem?_eq_getElem hk, dif_pos hk]; rfl
  · rw [List.getElem?_append_right (by omega), List.getElem?_eq_getElem (by simp only [List.length_replicate]; omega), dif_neg hk, List.getElem_replicate]; rfl
theorem blockD_split (key : List UInt8) (turn : UInt8) : blockD key turn = key.map (· ^^^ turn) ++ List.replicate 32 turn := by
  unfold blockD
  rw [List.map_append, List.map_replicate]
  simp
end Go.Proofs.YtkmndchbmbhlhaaDoor
