/- A list that came out may be written; a digest of 77. -/
import Derived.Test.YtpjchiihiclhiaaDoorThree
import Derived.Test.YtpjchiihiclhiaaDoorOwns
import Derived.Test.YtpjchiihiclhiaaDoorRefGoes
namespace Go.Proofs.YtpjchiihiclhiaaDoor
open Go.RowKit Sums
set_option linter.unusedVariables false
set_option linter.unusedSimpArgs false

/-- There is room: the cells of m digests are there, from block B on, and may be written. -/
def Room (B : Nat) (x : Option Addr) (m : Nat) (W : World) : Prop := m = 0 ∨ ∃ gp, x = some ⟨gp, 0, none⟩ ∧ B ≤ gp ∧ W.there gp 0 (32 * m)
theorem Room.own {w : World} {B : Nat} {x : Option Addr} {cx m : Nat} {xs : List Value} (h : w.ownsRow B 26 32 (.slice x m cx) m xs) : Room B x m w := by
  rcases h.2 with ⟨_, h0⟩ | ⟨g, cap, cur, hv, hb, hg, hc, hm, hs, ht⟩
  · exact .inl h0
  · cases hv
    refine .inr ⟨g, rfl, hb, fun j hj => ?_⟩
    rw [Nat.zero_add]
    have hjc : j < cur.size := by rw [hs]; omega
    refine ⟨?_, ?_⟩
    · rw [cell_of_row w g j cur 26 (0, 0) hg, Array.getElem?_eq_getElem hjc]
      rfl
    · simp [World.frozen?, hg]
theorem below_cells {B b : Nat} {a : World} (hb : B ≤ b) : ∀ (vs : List Value) (o : Nat) (w : World), Below B a w → Below B a (w.setCells b o vs)
  | [], _, _, h => h
  | v :: r, o, w, h => by
    rw [World.setCells]
    exact below_cells hb r (o + 1) _ (h.setCell (by simpa using hb) _)
theorem built77 : Tryd.prog.built 26 [(0, .int .u8 77)] = some (cellsOf (dig1 77)).toArray := by kernel_rfl

theorem consistency_any (a : Option Addr) (len cap : Nat) (l : List (List UInt8)) (m : Nat) (w : World) (hR : LReads w a len cap l) (hm : m ≤ len) (hl : len ≤ 100000) (hK : Table 1 w) :
    Calls Tryd.prog 18 #[.slice a len cap, .int .i64 m] w fun e w' => ∃ v, e = .returned (.tuple #[v, .int .i64 0]) ∧ w'.ownsRow w.heap.size 26 32 v (goesAt l m).length (cellsOf (goesAt l m).flatten) ∧ Below w.heap.size w w' := by
  unfold goesAt
  by_cases h0 : m = 0
  · rw [if_pos h0]
    subst h0
    refine (consistency_none a len cap w).mono ?_
    rintro e w' ⟨rfl, hb⟩
    exact ⟨_, rfl, World.ownsRow_nil _ _ _ _, hb⟩
  · rw [if_neg h0]
    exact consistency_in a len cap l m w hR (by omega) hm hl hK
theorem goesAt_digs (l : List (List UInt8)) (m : Nat) (h : Digs32 l) : Digs32 (goesAt l m) := by
  unfold goesAt
  by_cases h0 : m = 0
  · rw [if_pos h0]; intro d hd; cases hd
  · rw [if_neg h0]; exact goes_digs sumD_length _ l m true rfl h
theorem goesAt_len (l : List (List UInt8)) (m : Nat) : (goesAt l m).length ≤ l.length := by
  unfold goesAt
  by_cases h0 : m = 0
  · rw [if_pos h0]; simp
  · rw [if_neg h0]
    by_cases h1 : 1 ≤ l.length
    · exact goes_len l m true h1
    · by_cases hm : m = l.length
      · rw [goes_known l m hm]; simp
      · rw [goes_none l m true hm (by omega)]; simp
end Go.Proofs.YtpjchiihiclhiaaDoor
