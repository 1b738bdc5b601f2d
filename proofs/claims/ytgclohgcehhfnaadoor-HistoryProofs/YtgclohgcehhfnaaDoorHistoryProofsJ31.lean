/- Texts of our own that the row of HistoryProofs leans on, part 31. -/
import Derived.Test.YtgclohgcehhfnaaDoorHistoryProofsJ25
import Derived.Test.YtgclohgcehhfnaaDoorHistoryProofsJ27
import Derived.Test.YtgclohgcehhfnaaDoorHistoryProofsJ30

/- HistoryHeads. -/
namespace Go.Proofs.YtgclohgcehhfnaaDoor
open Go.RowKit Nums Sums
set_option linter.unusedVariables false
set_option linter.unusedSimpArgs false
set_option maxRecDepth 100000
/-- A log that came in and is not too big. -/
theorem inL_of {w : World} {a : Option Addr} {len cap : Nat} {l : List ItT} (h : IReads w a len cap l) (hc0 : a = none → cap = 0) (hm : ∀ x ∈ l, CmI x) (hb : bigL l = false) : InL w a len cap l := by
  obtain ⟨h1, h2⟩ := bigL_false hb
  exact ⟨h, hc0, fun x hx => (hm x hx).in (by have := h2 x hx; omega), by have := h.ln; omega⟩
end Go.Proofs.YtgclohgcehhfnaaDoor

/- HistoryProofs. -/
namespace Go.Proofs.YtgclohgcehhfnaaDoor
open Go.RowKit Nums Sums
set_option linter.unusedVariables false
set_option linter.unusedSimpArgs false
set_option maxRecDepth 100000
set_option maxHeartbeats 16000000 in
theorem historyProofs_of (ck : EntryC) (hc : HistoryC) (a : Option Addr) (len cap : Nat) (l : List ItT) (m n i : Int) (w : World) (h : IReads w a len cap l) (hc0 : a = none → cap = 0) (hm : ∀ x ∈ l, CmI x) (im : In64 m) (inn : In64 n) (ii : In64 i) (hT : TabH w) (hK : Table 0 w) :
    Calls Tryd.prog 4 #[.slice a len cap, .int .i64 m, .int .i64 n, .int .i64 i] w fun x w' => x = .returned (.bool true) ∧ Below w.heap.size w w' := by
  have BG := hidk (refBig_any a len cap l w h (fun x hx => (hm x hx).e.t))
  obtain ⟨b, Hb⟩ : ∃ b, Hid (bigL l = b) := ⟨_, hidk rfl⟩
  rw [Hb.out] at BG
  cases b
  · have hin := inL_of h hc0 hm Hb.out
    obtain ⟨P, HP⟩ : ∃ P, Hid (incL11 l n i = P) := ⟨_, hidk rfl⟩
    obtain ⟨E, HE⟩ : ∃ P, Hid (incE11 l n i = P) := ⟨_, hidk rfl⟩
    obtain ⟨S, HS⟩ : ∃ P, Hid (conL11 l m n = P) := ⟨_, hidk rfl⟩
    obtain ⟨G, HG⟩ : ∃ P, Hid (conE11 l m n = P) := ⟨_, hidk rfl⟩
    have C1 := hidk (hc.incl a len cap l n i w hin inn ii hT)
    have C2 : Hid (∀ W, Below w.heap.size w W → _) := fun W hb => refInclusionL_any a len cap l n i W (h.keep hb) (hK.keep hb)
    have C3 : Hid (∀ W, Below w.heap.size w W → _) := fun W hb => hc.cons a len cap l m n W (hin.keep hb) im inn (hT.keep hb)
    have C4 : Hid (∀ W, Below w.heap.size w W → _) := fun W hb => refConsistencyL_any a len cap l n m W (h.keep hb) (hK.keep hb)
    rw [HP.out, HE.out] at C1
    simp only [HP.out, HE.out] at C2
    simp only [HS.out, HG.out] at C3 C4
    have RT : Hid (∀ W, Below w.heap.size w W → Calls Tryd.prog 14 #[] W fun e w' => e = .returned (.bool true) ∧ Below W.heap.size W w') := fun W hb => roots_true ck hc W (hT.keep hb)
    have HB1 : Hid (Below w.heap.size w w) := Below.refl _ _
    clear ck hc h hc0 hm hT Hb hin HP HE HS HG hK im inn ii
    go_enter Tryd.func4, Tryd.ntmps4
    go_wp2_with fail
    refine BG.out.mono ?_
    rintro x w1 ⟨rfl, rfl⟩
    go_wp2_with fail
    refine (C1.out).mono ?_
    rintro x v2 ⟨x2, c2, rfl, hx2, hbj⟩
    have HB2 := hidk (HB1.out.trans (hbj.mono HB1.out.size))
    have HX2_2 := hidk hx2
    clear hbj hx2
    go_wp2_with fail
    refine (C2.out _ HB2.out).mono ?_
    rintro x v3 ⟨x3, c3, rfl, hx3, hbj⟩
    have HB3 := hidk (HB2.out.trans (hbj.mono HB2.out.size))
    have HX3_3 := hidk hx3
    have HX2_3 := hidk (HX2_2.out.keep hbj)
    clear hbj hx3
    go_wp2_with fail
    refine (C3.out _ HB3.out).mono ?_
    rintro x v4 ⟨x4, c4, rfl, hx4, hbj⟩
    have HB4 := hidk (HB3.out.trans (hbj.mono HB3.out.size))
    have HX4_4 := hidk hx4
    have HX2_4 := hidk (HX2_3.out.keep hbj)
    have HX3_4 := hidk (HX3_3.out.keep hbj)
    clear hbj hx4
    go_wp2_with fail
    refine (C4.out _ HB4.out).mono ?_
    rintro x v5 ⟨x5, c5, rfl, hx5, hbj⟩
    have HB5 := hidk (HB4.out.trans (hbj.mono HB4.out.size))
    have HX5_5 := hidk hx5
    have HX2_5 := hidk (HX2_4.out.keep hbj)
    have HX3_5 := hidk (HX3_4.out.keep hbj)
    have HX4_5 := hidk (HX4_4.out.keep hbj)
    clear hbj hx5
    go_wp2_with fail
    refine (RT.out _ HB5.out).mono ?_
    rintro x v6 ⟨rfl, hbj⟩
    have HB6 := hidk (HB5.out.trans (hbj.mono HB5.out.size))
    have HX2_6 := hidk (HX2_5.out.keep hbj)
    have HX3_6 := hidk (HX3_5.out.keep hbj)
    have HX4_6 := hidk (HX4_5.out.keep hbj)
    have HX5_6 := hidk (HX5_5.out.keep hbj)
    clear hbj
    go_wp2_with fail
    refine (same_digs _ _ _ _ _ P v6 HX2_6.out HX3_6.out).mono ?_
    rintro x v7 ⟨rfl, hbj⟩
    have HB7 := hidk (HB6.out.trans (hbj.mono HB6.out.size))
    have HX4_7 := hidk (HX4_6.out.keep hbj)
    have HX5_7 := hidk (HX5_6.out.keep hbj)
    clear hbj
    go_wp2_with fail
    refine (same_digs _ _ _ _ _ S v7 HX4_7.out HX5_7.out).mono ?_
    rintro x v8 ⟨rfl, hbj⟩
    have HB8 := hidk (HB7.out.trans (hbj.mono HB7.out.size))
    clear hbj
    go_wp2_with fail
    go_ret
    exact ⟨rfl, HB8.out⟩
  · clear ck hc h hc0 hm hT Hb hK
    go_enter Tryd.func4, Tryd.ntmps4
    go_wp2_with fail
    refine BG.out.mono ?_
    rintro x w1 ⟨rfl, rfl⟩
    go_wp2
    go_ret
    exact ⟨rfl, Below.refl _ _⟩
end Go.Proofs.YtgclohgcehhfnaaDoor
