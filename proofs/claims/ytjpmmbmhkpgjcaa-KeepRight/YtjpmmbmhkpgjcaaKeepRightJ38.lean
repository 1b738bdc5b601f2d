/- Texts of our own that the row of KeepRight leans on, part 38. -/
import Derived.Test.YtjpmmbmhkpgjcaaKeepRightJ0
import Derived.Test.YtjpmmbmhkpgjcaaKeepRightJ20
import Derived.Test.YtjpmmbmhkpgjcaaKeepRightJ25
import Derived.Test.YtjpmmbmhkpgjcaaKeepRightJ27
import Derived.Test.YtjpmmbmhkpgjcaaKeepRightJ31
import Derived.Test.YtjpmmbmhkpgjcaaKeepRightJ34
import Derived.Test.YtjpmmbmhkpgjcaaKeepRightJ35
import Derived.Test.YtjpmmbmhkpgjcaaKeepRightJ36
/- What keep's New, Check and Leader answer. -/
namespace Go.Proofs.Ytjpmmbmhkpgjcaa
open Go.RowKit Nums Sums
set_option linter.unusedVariables false
set_option linter.unusedSimpArgs false
set_option maxRecDepth 100000
theorem kcEpoch (n : Int) (w : World) : Calls Try.prog 54 #[.int .i64 n] w fun e w' => e = .returned (.bool (decide (1 ≤ n) && decide (n ≤ 900000000))) ∧ w = w' := by
  obtain ⟨b1, h1⟩ : ∃ b, decide (1 ≤ n) = b := ⟨_, rfl⟩
  obtain ⟨b2, h2⟩ : ∃ b, decide (n ≤ 900000000) = b := ⟨_, rfl⟩
  rw [h1, h2]
  go_enter Try.func54, Try.ntmps54
  cases b1
  all_goals go_wp2
  all_goals (go_ret; exact ⟨by rfl, rfl⟩)
theorem itA_m {x : ItT} (ok : OkE x.e) (j : Nat) (v : Value) (hj : (ccells x.e.m)[j]? = some v) : (itA x)[74 + j]? = some v := by
  have e : (itA x)[74 + j]? = (enA x.e)[73 + j]? := by
    unfold itA enA icells
    rw [List.getElem?_toArray, List.getElem?_toArray, List.getElem?_append_right (by simp; omega)]
    congr 1
    simp
  rw [e]
  exact enA_m ok j v hj
set_option maxHeartbeats 8000000 in
theorem kcIsLd (g : Int) (x : ItT) (ok : OkE x.e) (gk : Nat) (w : World) (hc : w.cell? ⟨gk, 1, none⟩ = some (.int .i64 g)) : Calls Try.prog 59 #[.agg (itA x), .pointer (some ⟨gk, 0, none⟩)] w fun e w' => e = .returned (.bool (isLd g x)) ∧ Below w.heap.size w w' := by
  have FX : Hid (Fit Try.prog 40 (itA x)) := itA_fit x ok
  have HC := hidk hc
  have f74 := hidk (itA_m ok 1 _ rfl)
  obtain ⟨b1, hb1⟩ : ∃ b, (x.p == g) = b := ⟨_, rfl⟩
  obtain ⟨b2, hb2⟩ : ∃ b, (x.e.k == (3 : Int)) = b := ⟨_, rfl⟩
  obtain ⟨b3, hb3⟩ : ∃ b, (x.e.m.e == g) = b := ⟨_, rfl⟩
  have HLD : Hid (isLd g x = (b1 && b2 && b3)) := by
    show _ = _
    unfold isLd
    rw [← hb1, ← hb2, ← hb3]
    rfl
  have H := hidk (Sep.start Try.prog w)
  clear hc
  go_enter Try.func59, Try.ntmps59
  cases b1
  all_goals try cases b2
  all_goals try cases b3
  all_goals
    go_wp2_with (first
      | ((with_reducible show wpList _ _ _ (⟨_, .box _ _, _, _, _, _⟩ :: _) _ _); refine boxS (by rfl) (by rfl) H (by assumption) ?_; clear H; intro gq W hq H; clear hq; try simp only [Act.put, pS1, pS2, pS3])
      | ((with_reducible show wpList _ _ _ (⟨_, .load _ _, _, _, _, _⟩ :: _) _ _); refine outS (by rfl) (by rfl) (by decide +kernel) H (by assumption) ?_; try simp only [Act.put, pS1, pS2, pS3])
      | ((with_reducible show wpList _ _ _ (⟨_, .load _ _, _, _, _, _⟩ :: _) _ _); refine fldS (by rfl) (by rfl) (by decide +kernel) H (by repeat constructor) (by first | exact itA_p _ | exact itA_k _ | exact f74.out) ?_; try simp only [Act.put, pS1, pS2, pS3])
      | fail)
  all_goals (go_ret; exact ⟨by rw [HLD.out]; rfl, H.out.b⟩)
set_option maxHeartbeats 8000000 in
theorem kcIndex (g : Int) (gk : Nat) (ad : Option Addr) (len cap : Nat) (l : List ItT) (w : World) (h : IReads w ad len cap l) (hlen : len ≤ 1000000) (hc : w.cell? ⟨gk, 1, none⟩ = some (.int .i64 g)) :
    Calls Try.prog 58 #[.slice ad len cap, .func (.func 59) #[] #[.pointer (some ⟨gk, 0, none⟩)]] w fun e w' => e = .returned (.int .i64 (posI (isLd g) l)) ∧ Below w.heap.size w w' := by
  have HI := hidk h
  have HL := hidk h.ln
  have HC := hidk hc
  have hmx : len ≤ 9223372036854775807 := by omega
  clear h hc
  go_enter Try.func58, Try.ntmps58
  go_wp2
  go_loopw [5, 8] (fun _ v wr => ∃ k : Nat, k ≤ len ∧ v = .int .i64 k ∧ Hid (Below w.heap.size w wr) ∧ Hid (∀ y ∈ l.take k, isLd g y = false)) (fun _ v _ => len - (intOf v).toNat)
  case atStart => exact ⟨0, by omega, rfl, Below.refl _ _, fun y hy => by simp at hy⟩
  case round =>
    obtain ⟨k, hk, rfl, HB, HN⟩ := hrel
    by_cases hlt : k < len
    · have hd : decide ((k : Int) < (len : Int)) = true := by rw [decide_eq_true_eq]; omega
      have hw1 := wrap_int ((k : Int) + 1) (by omega) (by omega)
      obtain ⟨gb, o, rfl, hgb'⟩ := HI.out.at (by omega)
      have hkl : k < l.length := by have := HL.out; omega
      obtain ⟨x, HX⟩ : ∃ x, Hid (x = l[k]) := ⟨_, hidk rfl⟩
      have hok : OkE x.e := by rw [HX.out]; exact HI.out.ok _ (List.getElem_mem hkl)
      have HR : Hid (wr.rangeAt gb (o + 110 * k) (itA x).toList) := by
        show World.rangeAt _ _ _ _
        rw [HX.out]
        simpa [itA] using (HI.out.keep HB.out).range k hkl
      have FE : Hid (Fit Try.prog 40 (itA x)) := itA_fit x hok
      have ix := fun W => index_item W gb o len cap k .i64 hlt
      have PC : Hid (Calls Try.prog 59 #[.agg (itA x), .pointer (some ⟨gk, 0, none⟩)] wr fun e w' => e = .returned (.bool (isLd g x)) ∧ Below wr.heap.size wr w') := kcIsLd g x hok gk wr ((World.cell?_of_block (a := ⟨gk, 1, none⟩) (HB.out.block gk (World.block_lt_of_cell? w ⟨gk, 1, none⟩ HC.out))).trans HC.out)
      obtain ⟨b, hb⟩ : ∃ b, isLd g x = b := ⟨_, rfl⟩
      rw [hb] at PC
      have HYE : Hid (b = true → posI (isLd g) l = (k : Int)) := fun hh => posI_yes k hkl HN.out (by rw [← HX.out, ← hh]; exact hb)
      have HNO : Hid (b = false → ∀ y ∈ l.take (k + 1), isLd g y = false) := fun hh => take_pos hkl HN.out (by rw [← HX.out, ← hh]; exact hb)
      clear hb HN HX hok hkl
      have H := hidk (Sep.start Try.prog wr)
      go_wp2_with (first
        | ((with_reducible show wpList _ _ _ (⟨_, .load _ _, _, _, _, _⟩ :: _) _ _); refine outR (by rfl) (by rfl) (by decide +kernel) H (by assumption) (by assumption) ?_; try simp only [Act.put, pS1, pS2, pS3])
        | fail)
      refine PC.out.mono ?_
      rintro e w1 ⟨rfl, hb1⟩
      have HB2 := hidk (HB.out.trans (hb1.mono HB.out.size))
      clear PC hb1 H HR
      cases b
      · replace HNO := hidk (HNO.out rfl)
        clear HYE
        go_wp2
        go_roundw
        case rel => exact ⟨k + 1, by omega, by go_num, HB2, HNO⟩
        case measure => simp [intOf]; omega
      · replace HYE := hidk (HYE.out rfl)
        clear HNO
        go_wp2
        go_ret
        exact ⟨by rw [HYE.out]; rfl, HB2.out⟩
    · obtain rfl : len = k := by omega
      have hd : decide ((len : Int) < (len : Int)) = false := by rw [decide_eq_false_iff_not]; omega
      have HE : Hid (posI (isLd g) l = -1) := posI_no (by have := HN.out; rwa [List.take_of_length_le (by have := HL.out; omega)] at this)
      go_wp2
      go_ret
      exact ⟨by rw [HE.out]; rfl, HB.out⟩
theorem lowZ {l : List ItT} {p : Int} (h : l.length = 0) : lowB l p = false := by
  unfold lowB
  rw [List.eq_nil_of_length_eq_zero h]
  rfl
theorem lowS {l : List ItT} {p : Int} {j : Nat} (h : j + 1 = l.length) : lowB l p = decide (p < (l[j]'(by omega)).p) := by
  unfold lowB
  rw [List.getLast?_eq_getElem?, show l.length - 1 = j by omega, List.getElem?_eq_getElem (by omega)]
theorem lead_pos {t : KeT} (h : rightL t.l = true) : (leadL t.g t.l ≠ 0) ↔ 0 < leadL t.g t.l := by
  unfold leadL
  split
  · omega
  · cases hf : t.l.find? (isLd t.g) with
    | none => simp
    | some x =>
      have hx := List.mem_of_find?_eq_some hf
      have hl := List.find?_some hf
      have hr := (rightI_iff x).1 (right_item h hx)
      unfold isLd at hl
      rw [Bool.and_eq_true, Bool.and_eq_true, decide_eq_true_eq, decide_eq_true_eq, decide_eq_true_eq] at hl
      rcases right_kinds hr.2.2 with q | q | q <;> have := q.1 <;> first | omega | skip
      have := (rightC_iff _).1 q.2.2.2.2.2
      simp
      omega
set_option maxHeartbeats 8000000 in
theorem kcLead_in (g : Int) (a : Option Addr) (n c : Nat) (l : List ItT) (X : Array Value) (w : World) (hi : IReads w a n c l) (hlen : n ≤ 1000000) (FX : Hid (Fit Try.prog 25 X)) (k1 : Hid (X[1]? = some (.int .i64 g))) (k2 : Hid (X[2]? = some (.slice a n c))) :
    Calls Try.prog 38 #[.agg X] w fun e w' => e = .returned (.int .i64 (leadL g l)) ∧ Below w.heap.size w w' := by
  have hmx : n ≤ 9223372036854775807 := by omega
  have IX : Hid (∀ gk W, Below w.heap.size w W → W.cell? ⟨gk, 1, none⟩ = some (.int .i64 g) → Calls Try.prog 58 #[.slice a n c, .func (.func 59) #[] #[.pointer (some ⟨gk, 0, none⟩)]] W fun e w' => e = .returned (.int .i64 (posI (isLd g) l)) ∧ Below W.heap.size W w') := fun gk W hb hc => kcIndex g gk _ _ _ _ W (hi.keep hb) hlen hc
  clear hlen
  by_cases hg1 : g = 1
  · have hgb : (g == (1 : Int)) = true := by rw [beq_iff_eq]; exact hg1
    have HE : Hid (leadL g l = 1) := by show _ = _; unfold leadL; rw [if_pos hg1]
    have H := hidk (Sep.start Try.prog w)
    clear hg1 hi
    rw [HE.out]
    go_enter Try.func38, Try.ntmps38
    go_wp2_with (first
      | ((with_reducible show wpList _ _ _ (⟨_, .box _ _, _, _, _, _⟩ :: _) _ _); refine boxS (by rfl) (by rfl) H (by assumption) ?_; clear H; intro gq W hq H; clear hq; try simp only [Act.put, pS1, pS2, pS3])
      | ((with_reducible show wpList _ _ _ (⟨_, .load _ _, _, _, _, _⟩ :: _) _ _); refine fldS (by rfl) (by rfl) (by decide +kernel) H (by repeat constructor) (by first | exact k1.out | exact k2.out) ?_; try simp only [Act.put, pS1, pS2, pS3])
      | fail)
    go_ret
    exact ⟨rfl, H.out.b⟩
  have hgb : (g == (1 : Int)) = false := by rw [beq_eq_false_iff_ne]; exact hg1
  by_cases hp : 0 ≤ posI (isLd g) l
  · obtain ⟨k, hk, he, hy, hn⟩ := posI_at hp
    have HE : Hid (leadL g l = l[k].e.m.n) := lead_yes hg1 k hk (fun y hy => by
      obtain ⟨i, hi, rfl⟩ := List.mem_take_iff_getElem.1 hy
      exact hn i (by omega)) hy
    have hln := hi.ln
    have hkn : k < n := by omega
    have hd : decide ((k : Int) < (0 : Int)) = false := by rw [decide_eq_false_iff_not]; omega
    obtain ⟨gb, o, rfl, hgb'⟩ := hi.at (by omega)
    have ix := fun W => index_item W gb o n c k .i64 hkn
    obtain ⟨z, HZ⟩ : ∃ z, Hid (l[k].e.m.n = z) := ⟨_, hidk rfl⟩
    have HR : Hid (w.cell? ⟨gb, o + 110 * k + 1 + 73 + 2, none⟩ = some (.int .i64 z)) := by
      have := hi.cell k hk (74 + 2) _ (by have := itA_m (hi.ok _ (List.getElem_mem hk)) 2 _ rfl; rw [itA, List.getElem?_toArray] at this; exact this)
      rw [HZ.out] at this
      show _ = _
      rw [← this]
    have H := hidk (Sep.start Try.prog w)
    rw [he] at IX
    rw [HE.out, HZ.out]
    clear hy hn HE he hi hg1 HZ hp hln
    go_enter Try.func38, Try.ntmps38
    go_wp2_with (first
      | ((with_reducible show wpList _ _ _ (⟨_, .box _ _, _, _, _, _⟩ :: _) _ _); refine boxS (by rfl) (by rfl) H (by assumption) ?_; clear H; intro gq W hq H; clear hq; try simp only [Act.put, pS1, pS2, pS3])
      | ((with_reducible show wpList _ _ _ (⟨_, .load _ _, _, _, _, _⟩ :: _) _ _); refine outS (by rfl) (by rfl) (by decide +kernel) H (by assumption) ?_; try simp only [Act.put, pS1, pS2, pS3])
      | ((with_reducible show wpList _ _ _ (⟨_, .load _ _, _, _, _, _⟩ :: _) _ _); refine fldS (by rfl) (by rfl) (by decide +kernel) H (by repeat constructor) (by first | exact k1.out | exact k2.out) ?_; try simp only [Act.put, pS1, pS2, pS3])
      | (have hcc := H.out.cell (.head _) k1.out; (with_reducible refine (IX.out _ _ H.out.b hcc).mono ?_); clear hcc; rintro _ W ⟨rfl, hb⟩; replace H := hidk (H.out.call hb); clear hb; try simp only [Act.put, pS1, pS2, pS3])
      | fail)
    go_ret
    exact ⟨rfl, H.out.b⟩
  · obtain ⟨he, hn⟩ := posI_neg (by omega : posI (isLd g) l < 0)
    have HE : Hid (leadL g l = 0) := lead_none hg1 hn
    have H := hidk (Sep.start Try.prog w)
    rw [he] at IX
    rw [HE.out]
    clear hn HE he hi hg1 hp
    go_enter Try.func38, Try.ntmps38
    go_wp2_with (first
      | ((with_reducible show wpList _ _ _ (⟨_, .box _ _, _, _, _, _⟩ :: _) _ _); refine boxS (by rfl) (by rfl) H (by assumption) ?_; clear H; intro gq W hq H; clear hq; try simp only [Act.put, pS1, pS2, pS3])
      | ((with_reducible show wpList _ _ _ (⟨_, .load _ _, _, _, _, _⟩ :: _) _ _); refine fldS (by rfl) (by rfl) (by decide +kernel) H (by repeat constructor) (by first | exact k1.out | exact k2.out) ?_; try simp only [Act.put, pS1, pS2, pS3])
      | (have hcc := H.out.cell (.head _) k1.out; (with_reducible refine (IX.out _ _ H.out.b hcc).mono ?_); clear hcc; rintro _ W ⟨rfl, hb⟩; replace H := hidk (H.out.call hb); clear hb; try simp only [Act.put, pS1, pS2, pS3])
      | fail)
    go_ret
    exact ⟨rfl, H.out.b⟩
set_option maxHeartbeats 16000000 in
theorem kcRight_in (C : HistoryC) (e g : Int) (a : Option Addr) (n c : Nat) (l : List ItT) (b : Option Addr) (m d : Nat) (k : List ClT) (X : Array Value) (w : World) (hi : InL w a n c l) (hc : CReads w b m d k) (hm : m ≤ 1000000) (FX : Hid (Fit Try.prog 25 X)) (k0 : Hid (X[0]? = some (.int .i64 e))) (k1 : Hid (X[1]? = some (.int .i64 g))) (k2 : Hid (X[2]? = some (.slice a n c))) (k3 : Hid (X[3]? = some (.slice b m d))) :
    Calls Try.prog 32 #[.agg X] w fun x w' => x = .returned (.bool (rightKe ⟨e, g, l, k⟩)) ∧ Below w.heap.size w w' := by
  have hmx : n ≤ 9223372036854775807 := by have := hi.le; omega
  have HSZ : Hid ((Try.prog.info? 25).map (·.size) = some X.size) := FX.out.s
  obtain ⟨b1, h1⟩ : ∃ b, (decide (1 ≤ e) && decide (e ≤ 900000000)) = b := ⟨_, rfl⟩
  obtain ⟨c1, h2⟩ : ∃ b, decide (1 ≤ g) = b := ⟨_, rfl⟩
  obtain ⟨c2, h5⟩ : ∃ b, decide (g ≤ e) = b := ⟨_, rfl⟩
  obtain ⟨b3, h3⟩ : ∃ b, rightL l = b := ⟨_, rfl⟩
  obtain ⟨b4, h4⟩ : ∃ b, rightCs k = b := ⟨_, rfl⟩
  obtain ⟨E3, e3⟩ : ∃ x, chkE l = x := ⟨_, rfl⟩
  obtain ⟨E4, e4⟩ : ∃ x, chkCl k = x := ⟨_, rfl⟩
  have HE3 : Hid (E3 = if b3 = true then 0 else 100) := by show _ = _; rw [← e3, ← h3]; rfl
  have HE4 : Hid (E4 = if b4 = true then 0 else 110) := by show _ = _; rw [← e4, ← h4]; rfl
  obtain ⟨ld, Hld⟩ : ∃ x, Hid (leadL g l = x) := ⟨_, hidk rfl⟩
  have HLP : Hid (b3 = true → decide (0 < leadL g l) = !(ld == (0 : Int))) := fun hb => by
    have := lead_pos (t := ⟨e, g, l, k⟩) (by rw [← hb]; exact h3)
    rw [← Hld.out]
    by_cases q : leadL g l = 0
    · rw [q]; rfl
    · rw [decide_eq_true (this.1 q), (beq_eq_false_iff_ne).2 q]; rfl
  have HRES : Hid (rightKe ⟨e, g, l, k⟩ = (b1 && c1 && c2 && b3 && b4 && !lowB l g && decide (0 < leadL g l))) := by
    show _ = _
    rw [← h1, ← h2, ← h3, ← h4, ← h5]
    unfold rightKe
    simp only [Bool.and_assoc]
  have W1 : Hid (∀ W, Calls Try.prog 54 #[.int .i64 e] W fun e w' => e = .returned (.bool b1) ∧ W = w') := fun W => by rw [← h1]; exact kcEpoch _ W
  have W3 : Hid (∀ W, Below w.heap.size w W → Calls Try.prog 55 #[.slice a n c] W fun e w' => e = .returned (.int .i64 E3) ∧ Below W.heap.size W w') := fun W hb => by rw [← e3]; exact C.check _ _ _ _ W (hi.keep hb)
  have W4 : Hid (∀ W, Below w.heap.size w W → Calls Try.prog 56 #[.slice b m d] W fun e w' => e = .returned (.int .i64 E4) ∧ Below W.heap.size W w') := fun W hb => by rw [← e4]; exact kCheck_any _ _ _ _ W (hc.keep hb) hm
  have W5 : Hid (∀ W, Below w.heap.size w W → Calls Try.prog 38 #[.agg X] W fun e w' => e = .returned (.int .i64 ld) ∧ Below W.heap.size W w') := fun W hb => by rw [← Hld.out]; exact kcLead_in _ _ _ _ _ _ W (hi.rd.keep hb) (by have := hi.le; omega) FX k1 k2
  have HI := hidk hi.rd
  have HLN := hidk hi.rd.ln
  have H := hidk (Sep.start Try.prog w)
  clear hi hc h1 h3 h4 e3 e4 Hld hm C
  have HF : Hid (∀ y : Bool, rightKe ⟨e, g, l, k⟩ = y → Ending.returned (.bool y) = .returned (.bool (rightKe ⟨e, g, l, k⟩))) := fun y h => by rw [h]
  go_enter Try.func32, Try.ntmps32
  go_wp2_with (first
    | ((with_reducible show wpList _ _ _ (⟨_, .box _ _, _, _, _, _⟩ :: _) _ _); refine boxS (by rfl) (by rfl) H (by assumption) ?_; clear H; intro gq W hq H; clear hq; try simp only [Act.put, pS1, pS2, pS3])
    | ((with_reducible show wpList _ _ _ (⟨_, .load _ _, _, _, _, _⟩ :: _) _ _); refine fldS (by rfl) (by rfl) (by decide +kernel) H (by repeat constructor) (by first | exact k0.out | exact k1.out | exact k2.out | exact k3.out) ?_; try simp only [Act.put, pS1, pS2, pS3])
    | fail)
  have hs : b1 = false ∨ b1 = true ∧ c1 = false ∨ b1 = true ∧ c1 = true ∧ c2 = false ∨ b1 = true ∧ c1 = true ∧ c2 = true ∧ b3 = false ∨ b1 = true ∧ c1 = true ∧ c2 = true ∧ b3 = true := by cases b1 <;> cases c1 <;> cases c2 <;> cases b3 <;> simp
  rcases hs with rfl | ⟨rfl, rfl⟩ | ⟨rfl, rfl, rfl⟩ | ⟨rfl, rfl, rfl, rfl⟩ | ⟨rfl, rfl, rfl, rfl⟩
  rotate_left 4
  · obtain rfl : E3 = 0 := HE3.out
    have HL2 := hidk (HLP.out rfl)
    clear HLP HE3
    have hs : b4 = false ∨ b4 = true := by cases b4 <;> simp
    by_cases h0 : n = 0
    · subst h0
      have hlow : lowB l g = false := lowZ HLN.out
      rw [hlow, HL2.out] at HRES
      rcases hs with rfl | rfl
      all_goals first | obtain rfl : E4 = 110 := HE4.out | obtain rfl : E4 = 0 := HE4.out
      all_goals
        refine region_q (by kernel_rfl) (by kernel_rfl) H (fun hne => ?_)
        repeat (first
          | go_big_quiet_skip
          | (go_big_quiet_want; first | (refine qO (by rfl) (by decide +kernel) (by assumption) ?_; try simp only [Act.put, pS1, pS2, pS3]; go_big_quiet_on) | (refine qF (by rfl) (by decide +kernel) (by repeat constructor) (by first | exact k0.out | exact k1.out | exact k2.out | exact k3.out) ?_; try simp only [Act.put, pS1, pS2, pS3]; go_big_quiet_on) | (refine qR (by rfl) (by decide +kernel) (by repeat constructor) HSZ.out ?_; try simp only [Act.put, pS1, pS2, pS3]; go_big_quiet_on) | (go_big_quiet_op; first | go_big_quiet_on | (apply Exists.intro; refine ⟨fun n => (by first | exact q_call_same (fun W HS => W1.out W) n | exact q_call (fun W HS => W3.out W HS.b) n | exact q_call (fun W HS => W4.out W HS.b) n | exact q_call (fun W HS => W5.out W HS.b) n), ?_⟩; go_big_quiet_on))))
        refine wpQuiet_nil ?_
        rintro _ ⟨n, rfl⟩
        clear hne
        have HQ := hidk n.2
        clear H
        have H := HQ
        clear HQ
        obtain ⟨W, hW⟩ : ∃ W, W = n.1 := ⟨_, rfl⟩
        rw [← hW] at H ⊢
        clear hW n
        try simp only [Act.put, pS1, pS2, pS3]
        go_wp2
      all_goals (go_ret; exact ⟨by rw [HRES.out]; rfl, H.out.b⟩)
    · obtain ⟨j, Hjn⟩ : ∃ j, Hid (n = j + 1) := ⟨n - 1, hidk (by omega)⟩
      have hjn : j < n := by have := Hjn.out; omega
      obtain ⟨ga, o, rfl, hga⟩ := HI.out.at (by omega)
      have hj : j < l.length := by have := HLN.out; omega
      obtain ⟨px, Hpx⟩ : ∃ x, Hid ((l[j]).p = x) := ⟨_, hidk rfl⟩
      have cpx : Hid (w.cell? ⟨ga, o + 110 * j, none⟩ = some (.int .i64 px)) := by have := HI.out.cell j hj 0 _ (icells_p _); rw [Hpx.out] at this; show _ = _; simpa using this
      have HLB : lowB l g = decide (g < px) := by rw [lowS (j := j) (by have := HLN.out; have := Hjn.out; omega), Hpx.out]
      have hj1 : (n : Int) - 1 = j := by have := Hjn.out; omega
      have hjz : ((n : Int) == (0 : Int)) = false := by rw [beq_eq_false_iff_ne]; omega
      have hw1 := wrap_int (j : Int) (by omega) (by omega)
      have ix := fun W => index_item W ga o n c j .i64 hjn
      obtain ⟨bl, hbl⟩ : ∃ b, decide (px ≤ g) = b := ⟨_, rfl⟩
      have hbl2 : decide (g < px) = !bl := by
        rw [← hbl]
        by_cases q : px ≤ g
        · rw [decide_eq_true q, decide_eq_false (by omega)]; rfl
        · rw [decide_eq_false q, decide_eq_true (by omega)]; rfl
      rw [HLB, hbl2, HL2.out] at HRES
      clear HLB hbl2 hj Hpx
      have hs2 : bl = false ∨ bl = true ∧ b4 = false ∨ bl = true ∧ b4 = true := by cases bl <;> cases b4 <;> simp
      rcases hs2 with rfl | ⟨rfl, rfl⟩ | ⟨rfl, rfl⟩
      all_goals try obtain rfl : E4 = 110 := HE4.out
      all_goals try obtain rfl : E4 = 0 := HE4.out
      all_goals
        refine region_q (by kernel_rfl) (by kernel_rfl) H (fun hne => ?_)
        repeat (first
          | go_big_quiet_skip
          | (go_big_quiet_want; first | (refine qO (by rfl) (by decide +kernel) (by assumption) ?_; try simp only [Act.put, pS1, pS2, pS3]; go_big_quiet_on) | (refine qF (by rfl) (by decide +kernel) (by repeat constructor) (by first | exact k0.out | exact k1.out | exact k2.out | exact k3.out) ?_; try simp only [Act.put, pS1, pS2, pS3]; go_big_quiet_on) | (refine qR (by rfl) (by decide +kernel) (by repeat constructor) HSZ.out ?_; try simp only [Act.put, pS1, pS2, pS3]; go_big_quiet_on) | (go_big_quiet_op; first | go_big_quiet_on | (apply Exists.intro; refine ⟨fun n => (by first | exact q_call_same (fun W HS => W1.out W) n | exact q_call (fun W HS => W3.out W HS.b) n | exact q_call (fun W HS => W4.out W HS.b) n | exact q_call (fun W HS => W5.out W HS.b) n), ?_⟩; go_big_quiet_on))))
        refine wpQuiet_nil ?_
        rintro _ ⟨n, rfl⟩
        clear hne
        have HQ := hidk n.2
        clear H
        have H := HQ
        clear HQ
        obtain ⟨W, hW⟩ : ∃ W, W = n.1 := ⟨_, rfl⟩
        rw [← hW] at H ⊢
        clear hW n
        try simp only [Act.put, pS1, pS2, pS3]
        go_wp2
      all_goals (go_ret; exact ⟨by rw [HRES.out]; (try cases b4) <;> rfl, H.out.b⟩)
  all_goals try obtain rfl : E3 = 100 := HE3.out
  all_goals
    refine region_q (by kernel_rfl) (by kernel_rfl) H (fun hne => ?_)
    repeat (first
      | go_big_quiet_skip
      | (go_big_quiet_want; first | (refine qO (by rfl) (by decide +kernel) (by assumption) ?_; try simp only [Act.put, pS1, pS2, pS3]; go_big_quiet_on) | (refine qF (by rfl) (by decide +kernel) (by repeat constructor) (by first | exact k0.out | exact k1.out | exact k2.out | exact k3.out) ?_; try simp only [Act.put, pS1, pS2, pS3]; go_big_quiet_on) | (refine qR (by rfl) (by decide +kernel) (by repeat constructor) HSZ.out ?_; try simp only [Act.put, pS1, pS2, pS3]; go_big_quiet_on) | (go_big_quiet_op; first | go_big_quiet_on | (apply Exists.intro; refine ⟨fun n => (by first | exact q_call_same (fun W HS => W1.out W) n | exact q_call (fun W HS => W3.out W HS.b) n | exact q_call (fun W HS => W4.out W HS.b) n | exact q_call (fun W HS => W5.out W HS.b) n), ?_⟩; go_big_quiet_on))))
    refine wpQuiet_nil ?_
    rintro _ ⟨n, rfl⟩
    clear hne
    have HQ := hidk n.2
    clear H
    have H := HQ
    clear HQ
    obtain ⟨W, hW⟩ : ∃ W, W = n.1 := ⟨_, rfl⟩
    rw [← hW] at H ⊢
    clear hW n
    try simp only [Act.put, pS1, pS2, pS3]
    go_wp2
  all_goals (go_ret; exact ⟨by rw [HRES.out]; rfl, H.out.b⟩)
theorem kcBuiltNew : Try.prog.built 25 [(0, .int .i64 1), (1, .int .i64 1)] = some (keA newKv) := by kernel_rfl
set_option maxHeartbeats 8000000 in
theorem kcNew_any (w : World) : Calls Try.prog 17 #[] w fun x w' => x = .returned (.agg (keA newKv)) ∧ Below w.heap.size w w' := by
  have FX : Hid (Fit Try.prog 25 (keA newKv)) := keA_fit _
  have H := hidk (Sep.start Try.prog w)
  go_enter Try.func17, Try.ntmps17
  go_wp2_with (first
    | ((with_reducible show wpList _ _ _ (⟨_, .alloc _, _, _, _, _⟩ :: _) _ _); refine newS (by rfl) (by kernel_rfl) H ?_; clear H; intro gq W hq H; clear hq; try simp only [Act.put, pS1, pS2, pS3])
    | ((with_reducible show wpList _ _ _ (⟨_, .build _ _, _, _, _, _⟩ :: _) _ _); refine bldS (by rfl) (by with_reducible exact kcBuiltNew) (by rfl) ?_; try simp only [Act.put, pS1, pS2, pS3])
    | ((with_reducible show wpList _ _ _ (⟨_, .store _ _ _, _, _, _, _⟩ :: _) _ _); refine setS (by rfl) (by rfl) (by rfl) H (by assumption) (by repeat first | exact uH .. | refine uT _ ?_) ?_; clear H; intro W H; try simp only [Act.put, pS1, pS2, pS3])
    | fail)
  refine bodyPost_ret (resS1 rfl rfl H (by repeat constructor) (by kernel_rfl)) rfl ?_
  exact ⟨rfl, H.out.b⟩
theorem kcRight_any (C : HistoryC) (v : KeV) (w : World) (h : KIn w v) : Calls Try.prog 32 #[.agg (keA v)] w fun x w' => x = .returned (.bool (rightKe v.t)) ∧ Below w.heap.size w w' :=
  kcRight_in C v.e v.g v.a v.n v.c v.l v.b v.m v.d v.k _ w h.i h.c (by have := h.cl; omega) (keA_fit v) (keA_0 v) (keA_1 v) (keA_2 v) (keA_3 v)
set_option maxHeartbeats 8000000 in
theorem kcCheck_any (C : HistoryC) (v : KeV) (w : World) (h : KIn w v) : Calls Try.prog 11 #[.agg (keA v)] w fun x w' => x = .returned (.int .i64 (kchkE v.t)) ∧ Below w.heap.size w w' := by
  have FX : Hid (Fit Try.prog 25 (keA v)) := keA_fit v
  obtain ⟨b1, h1⟩ : ∃ b, rightKe v.t = b := ⟨_, rfl⟩
  have W1 : Hid (∀ W, Below w.heap.size w W → Calls Try.prog 32 #[.agg (keA v)] W fun e w' => e = .returned (.bool b1) ∧ Below W.heap.size W w') := fun W hb => by rw [← h1]; exact kcRight_any C v W (h.keep hb)
  have HE : Hid (kchkE v.t = if b1 = true then 0 else 1) := by show _ = _; unfold kchkE; rw [h1]
  have H := hidk (Sep.start Try.prog w)
  clear h h1 C
  go_enter Try.func11, Try.ntmps11
  cases b1
  all_goals
    go_wp2_with (first
      | ((with_reducible show wpList _ _ _ (⟨_, .box _ _, _, _, _, _⟩ :: _) _ _); refine boxS (by rfl) (by rfl) H (by assumption) ?_; clear H; intro gq W hq H; clear hq; try simp only [Act.put, pS1, pS2, pS3])
      | ((with_reducible show wpList _ _ _ (⟨_, .load _ _, _, _, _, _⟩ :: _) _ _); refine rdS (by rfl) (by rfl) (by decide +kernel) H (by repeat constructor) ?_; try simp only [Act.put, pS1, pS2, pS3])
      | ((with_reducible refine (W1.out _ H.out.b).mono ?_); rintro _ W ⟨rfl, hb⟩; replace H := hidk (H.out.call hb); clear hb; try simp only [Act.put, pS1, pS2, pS3])
      | fail)
  all_goals (go_ret; exact ⟨by rw [HE.out]; rfl, H.out.b⟩)
set_option maxHeartbeats 8000000 in
theorem kcLeader_any (C : HistoryC) (v : KeV) (w : World) (h : KIn w v) : Calls Try.prog 14 #[.agg (keA v)] w fun x w' => x = .returned (.int .i64 (leaderK v.t)) ∧ Below w.heap.size w w' := by
  have FX : Hid (Fit Try.prog 25 (keA v)) := keA_fit v
  obtain ⟨b1, h1⟩ : ∃ b, rightKe v.t = b := ⟨_, rfl⟩
  have W1 : Hid (∀ W, Below w.heap.size w W → Calls Try.prog 32 #[.agg (keA v)] W fun e w' => e = .returned (.bool b1) ∧ Below W.heap.size W w') := fun W hb => by rw [← h1]; exact kcRight_any C v W (h.keep hb)
  have W2 : Hid (∀ W, Below w.heap.size w W → Calls Try.prog 38 #[.agg (keA v)] W fun e w' => e = .returned (.int .i64 (leadL v.g v.l)) ∧ Below W.heap.size W w') := fun W hb => kcLead_in _ _ _ _ _ _ W (h.i.rd.keep hb) (by have := h.i.le; omega) (keA_fit v) (keA_1 v) (keA_2 v)
  have HE : Hid (leaderK v.t = if b1 = true then leadL v.g v.l else 0) := by show _ = _; unfold leaderK; rw [h1]; rfl
  have H := hidk (Sep.start Try.prog w)
  clear h h1 C
  go_enter Try.func14, Try.ntmps14
  cases b1
  all_goals
    go_wp2_with (first
      | ((with_reducible show wpList _ _ _ (⟨_, .box _ _, _, _, _, _⟩ :: _) _ _); refine boxS (by rfl) (by rfl) H (by assumption) ?_; clear H; intro gq W hq H; clear hq; try simp only [Act.put, pS1, pS2, pS3])
      | ((with_reducible show wpList _ _ _ (⟨_, .load _ _, _, _, _, _⟩ :: _) _ _); refine rdS (by rfl) (by rfl) (by decide +kernel) H (by repeat constructor) ?_; try simp only [Act.put, pS1, pS2, pS3])
      | ((with_reducible refine (W1.out _ H.out.b).mono ?_); rintro _ W ⟨rfl, hb⟩; replace H := hidk (H.out.call hb); clear hb; try simp only [Act.put, pS1, pS2, pS3])
      | ((with_reducible refine (W2.out _ H.out.b).mono ?_); rintro _ W ⟨rfl, hb⟩; replace H := hidk (H.out.call hb); clear hb; try simp only [Act.put, pS1, pS2, pS3])
      | fail)
  all_goals (go_ret; exact ⟨by rw [HE.out]; rfl, H.out.b⟩)
theorem kcBuiltI : Try.prog.built 40 [] = some (itA zeroI) := by kernel_rfl
theorem kcBuiltC : Try.prog.built 36 [] = some (clA zeroC) := by kernel_rfl
def noneR (v : ReV) : Bool := (v.e == (0 : Int)) && (v.f == (0 : Int)) && eqIB v.x zeroI && ((v.n : Int) == (0 : Int)) && eqCB v.m zeroC
set_option maxHeartbeats 16000000 in
theorem kcNothing_any (v : ReV) (ok : OkR v) (hmx : v.n ≤ 9223372036854775807) (w : World) : Calls Try.prog 62 #[.agg (reA v)] w fun x w' => x = .returned (.bool (noneR v)) ∧ Below w.heap.size w w' := by
  have FX : Hid (Fit Try.prog 42 (reA v)) := reA_fit v ok
  have FXS := hidk (itA_fit v.x ok.x).s
  have FMS := hidk (clA_fit v.m ok.m).s
  have r113 := hidk (reA_113 v ok)
  obtain ⟨i0, hi0⟩ : ∃ b, eqIB v.x zeroI = b := ⟨_, rfl⟩
  obtain ⟨m0, hm0⟩ : ∃ b, eqCB v.m zeroC = b := ⟨_, rfl⟩
  obtain ⟨e0, he0⟩ : ∃ b, (v.e == (0 : Int)) = b := ⟨_, rfl⟩
  obtain ⟨f0, hf0⟩ : ∃ b, (v.f == (0 : Int)) = b := ⟨_, rfl⟩
  obtain ⟨n0, hn0⟩ : ∃ b, ((v.n : Int) == (0 : Int)) = b := ⟨_, rfl⟩
  have HRES : Hid (noneR v = (e0 && f0 && i0 && n0 && m0)) := by show _ = _; unfold noneR; rw [hi0, hm0, he0, hf0, hn0]
  have EI : Hid (∀ W, (binOp .eql 40 (.agg (itA v.x)) (.agg (itA zeroI))).run Try.prog W = .ok (.bool i0) W) := fun W => eqItem _ _ ok.x zeroE_ok (itA v.x) (itA zeroI) (hidk rfl) (hidk rfl) i0 (by rw [← hi0, eqIB_iff]) W
  have EM : Hid (∀ W, (binOp .eql 36 (.agg (clA v.m)) (.agg (clA zeroC))).run Try.prog W = .ok (.bool m0) W) := fun W => eqClaim _ _ ok.m rfl (clA v.m) (clA zeroC) (hidk rfl) (hidk rfl) m0 (by rw [← hm0, eqCB_iff]) W
  have H := hidk (Sep.start Try.prog w)
  clear hi0 hm0
  go_enter Try.func62, Try.ntmps62
  go_wp2_with (first
    | ((with_reducible show wpList _ _ _ (⟨_, .box _ _, _, _, _, _⟩ :: _) _ _); refine boxS (by rfl) (by rfl) H (by assumption) ?_; clear H; intro gq W hq H; clear hq; try simp only [Act.put, pS1, pS2, pS3])
    | ((with_reducible show wpList _ _ _ (⟨_, .binOp .eql 40 _ _ _, _, _, _, _⟩ :: _) _ _); refine binS (by rfl) (by rfl) (by rfl) (by kernel_rfl) (EI.out _) ?_; try simp only [Act.put, pS1, pS2, pS3])
    | ((with_reducible show wpList _ _ _ (⟨_, .binOp .eql 36 _ _ _, _, _, _, _⟩ :: _) _ _); refine binS (by rfl) (by rfl) (by rfl) (by kernel_rfl) (EM.out _) ?_; try simp only [Act.put, pS1, pS2, pS3])
    | ((with_reducible show wpList _ _ _ (⟨_, .load _ _, _, _, _, _⟩ :: _) _ _); refine subS (by rfl) (by rfl) (by decide +kernel) H (by repeat constructor) (reA_x v) FXS.out ?_; try simp only [Act.put, pS1, pS2, pS3])
    | ((with_reducible show wpList _ _ _ (⟨_, .load _ _, _, _, _, _⟩ :: _) _ _); refine subS (by rfl) (by rfl) (by decide +kernel) H (by repeat constructor) (reA_m v ok) FMS.out ?_; try simp only [Act.put, pS1, pS2, pS3])
    | ((with_reducible show wpList _ _ _ (⟨_, .build _ _, _, _, _, _⟩ :: _) _ _); refine bldS (by rfl) (by with_reducible exact kcBuiltI) (by rfl) ?_; try simp only [Act.put, pS1, pS2, pS3])
      | ((with_reducible show wpList _ _ _ (⟨_, .build _ _, _, _, _, _⟩ :: _) _ _); refine bldS (by rfl) (by with_reducible exact kcBuiltC) (by rfl) ?_; try simp only [Act.put, pS1, pS2, pS3])
    | ((with_reducible show wpList _ _ _ (⟨_, .load _ _, _, _, _, _⟩ :: _) _ _); refine fldS (by rfl) (by rfl) (by decide +kernel) H (by repeat constructor) (by first | exact reA_0 _ | exact reA_1 _ | exact reA_2 _ | exact reA_3 _ | exact r113.out) ?_; try simp only [Act.put, pS1, pS2, pS3])
    | fail)
  all_goals (go_ret; exact ⟨by rw [HRES.out]; simp [*], H.out.b⟩)
theorem reA_s1 (v : ReV) (e : Int) : (reA v).setIfInBounds 1 (.int .i64 e) = reA { v with e := e } := rfl
theorem reA_s2 (v : ReV) (f : Int) : (reA v).setIfInBounds 2 (.int .i64 f) = reA { v with f := f } := rfl
theorem reA_mx (v : ReV) (ok : OkR v) (x : ItT) (hx : OkE x.e) : midA (reA v) 3 (itA x) = reA { v with x := x } := by
  have h1 : (icells v.x).length = 110 := icells_length _ ok.x
  have h2 : (icells x).length = 110 := icells_length _ hx
  unfold midA reA itA
  congr 1
  have e1 : (rcellsK v).toArray.toList.take 3 = [.int .i64 v.k, .int .i64 v.e, .int .i64 v.f] := rfl
  have e2 : (rcellsK v).toArray.toList.drop (3 + (icells x).toArray.size) = [.slice v.a v.n v.c] ++ ccells v.m := by
    show (rcellsK v).drop _ = _
    unfold rcellsK
    rw [List.size_toArray, h2, ← List.append_assoc, List.drop_append_of_le_length (by simp [h1])]
    rw [List.drop_of_length_le (by simp [h1]), List.nil_append]
  rw [e1, e2]
  show _ ++ icells x ++ _ = rcellsK _
  unfold rcellsK
  rw [List.append_assoc]
theorem reA_mm (v : ReV) (ok : OkR v) (m : ClT) (hm : m.d.length = 32) : midA (reA v) 114 (clA m) = reA { v with m := m } := by
  have h1 : (icells v.x).length = 110 := icells_length _ ok.x
  have h2 : (ccells m).length = 36 := ccells_length _ hm
  have h3 := rcellsK_length v ok
  unfold midA reA clA
  congr 1
  have e1 : (rcellsK v).toArray.toList.take 114 = [.int .i64 v.k, .int .i64 v.e, .int .i64 v.f] ++ (icells v.x ++ [.slice v.a v.n v.c]) := by
    show (rcellsK v).take _ = _
    unfold rcellsK
    rw [← List.append_assoc, ← List.append_assoc, List.take_append_of_le_length (by simp [h1]), List.take_of_length_le (by simp [h1]), List.append_assoc]
  rw [e1, List.drop_of_length_le (by show (rcellsK v).length ≤ _; rw [h3, List.size_toArray, h2]; omega)]
  show _ ++ ccells m ++ [] = rcellsK _
  unfold rcellsK
  simp only [List.append_assoc, List.append_nil]
theorem reA_e (v : ReV) : SubA (reA v) 4 (enA v.x.e) := fun j u hj => by
  have := reA_x v (1 + j) u (by
    unfold enA at hj
    unfold itA icells
    rw [List.getElem?_toArray] at hj ⊢
    rw [List.getElem?_append_right (by simp)]
    simpa using hj)
  rw [← this]
  congr 1
  omega
set_option maxHeartbeats 32000000 in
theorem kcMay_any (C : HistoryC) (D : EntryC) (v : ReV) (w : World) (h : RIn w v) : Calls Try.prog 40 #[.agg (reA v)] w fun x w' => x = .returned (.bool (mayR v.t)) ∧ Below w.heap.size w w' := by
  have ok := h.ok
  have hmx : v.n ≤ 9223372036854775807 := by have := h.i.le; omega
  have FX : Hid (Fit Try.prog 42 (reA v)) := reA_fit v ok
  have FES := hidk (enA_fit v.x.e h.xo).s
  have FMS := hidk (clA_fit v.m h.m.d).s
  have FZI := hidk (itA_fit zeroI zeroE_ok)
  have FZC := hidk (clA_fit zeroC rfl)
  have NZI : Hid ((itA zeroI).size = 110) := by show _ = _; simp [itA, icells_length zeroI zeroE_ok]
  have NZC : Hid ((clA zeroC).size = 36) := by show _ = _; simp [clA, ccells_length zeroC rfl]
  have HXE := hidk (reA_e v)
  have r113 := hidk (reA_113 v ok)
  have SZ : Hid (∀ e f a n c l, (reA { v with e := e, f := f, a := a, n := n, c := c, l := l }).size = 150) := fun e f a n c l => reA_size _ ⟨ok.x, ok.m⟩
  have S113 : Hid (∀ e f, (reA { v with e := e, f := f }).setIfInBounds 113 (.slice none 0 0) = reA { v with e := e, f := f, a := none, n := 0, c := 0, l := [] }) := fun e f => reA_s113 { v with e := e, f := f } ⟨ok.x, ok.m⟩ none 0 0 []
  have hl : decide (v.l.length = 0) = ((v.n : Int) == (0 : Int)) := by rw [h.i.rd.ln]; by_cases q : v.n = 0 <;> simp [q]
  have HH := hidk h
  have H := hidk (Sep.start Try.prog w)
  clear h
  go_enter Try.func40, Try.ntmps40
  go_wp2_with (first
    | ((with_reducible show wpList _ _ _ (⟨_, .box _ _, _, _, _, _⟩ :: _) _ _); refine boxS (by rfl) (by rfl) H (by assumption) ?_; clear H; intro gq W hq H; clear hq; try simp only [Act.put, pS1, pS2, pS3])
    | fail)
  refine region_mix [(gq, reA v, 42)] [] [1, 3] [] [0, 1, 2, 3] (by kernel_rfl) (by kernel_rfl) (by kernel_rfl) (by rfl) H (List.Sublist.refl _) (List.Sublist.refl _) ?_
  clear H
  intro W hne H
  repeat (first
    | (refine mix_skip (by rfl) (by rfl) ?_; try simp only [Act.put, pS1, pS2, pS3])
    | (refine mix_q (by rfl) (by rfl) (by rfl) (by rfl) ?_; intro K hK; first | (refine qR (by rfl) (by decide +kernel) (by repeat constructor) FX.out.s ?_; try simp only [Act.put, pS1, pS2, pS3]; go_big_quiet_on) | (go_big_quiet_op; go_big_quiet_on))
    | (refine mix_e (by rfl) (by rfl) (by rfl) ?_; go_wp2_with (first | ((with_reducible show wpList _ _ _ (⟨_, .alloc _, _, _, _, _⟩ :: _) _ _); refine newS (by rfl) (by kernel_rfl) H ?_; clear H; intro gq W hq H; clear hq; try simp only [Act.put, pS1, pS2, pS3]) | ((with_reducible show wpList _ _ _ (⟨_, .store _ _ _, _, _, _, _⟩ :: _) _ _); refine setS (by rfl) (by rfl) (by rfl) H (by assumption) (by repeat first | apply uH | apply uT) ?_; clear H; intro W H; try simp only [Act.put, pS1, pS2, pS3]) | fail); first | refine mix_fin (by rfl) ?_ | refine mix_fin2 ?_ | refine mix_on (by first | exact H.out | exact H.out.tl) ?_ | refine mix_on2 (by first | exact H.out | exact H.out.tl) ?_))
  refine mix_end ?_
  clear hne
  by_cases hk1 : v.k = 1
  · have q1 : (v.k == (1 : Int)) = true := by rw [beq_iff_eq]; exact hk1
    obtain ⟨we, hwe⟩ : ∃ b, (decide (1 ≤ v.e) && decide (v.e ≤ 900000000)) = b := ⟨_, rfl⟩
    have W1 : Hid (∀ W, Calls Try.prog 54 #[.int .i64 v.e] W fun e w' => e = .returned (.bool we) ∧ W = w') := fun W => by rw [← hwe]; exact kcEpoch _ W
    have HRES : Hid (mayR v.t = (we && noneR { v with e := 0 })) := by
      show _ = _
      unfold mayR ReV.t
      rw [if_pos hk1, ← hwe]; unfold noneR
      have z0 : ((0 : Int) == (0 : Int)) = true := rfl
      have ef : (v.f == (0 : Int)) = decide (v.f = 0) := rfl
      have ee : (v.e == (0 : Int)) = decide (v.e = 0) := rfl
      have ei : eqIB zeroI zeroI = true := (eqIB_iff _ _).2 rfl
      have em : eqCB zeroC zeroC = true := (eqCB_iff _ _).2 rfl
      have nz : (((0 : Nat) : Int) == (0 : Int)) = true := rfl
      simp only [hl, ef, ee, ei, em, z0, nz, Bool.and_true, Bool.true_and]
      generalize eqIB v.x zeroI = x1
      generalize eqCB v.m zeroC = x2
      generalize ((v.n : Int) == (0 : Int)) = x3
      generalize decide (v.f = 0) = x4
      generalize decide (v.e = 0) = x5
      generalize decide (1 ≤ v.e) = y1; generalize decide (v.e ≤ 900000000) = y2
      cases y1 <;> cases y2 <;> cases x1 <;> cases x2 <;> cases x3 <;> cases x4 <;> rfl
    obtain ⟨nn, hnn⟩ : ∃ b, noneR { v with e := 0 } = b := ⟨_, rfl⟩
    have okr : OkR { v with e := 0 } := by first | exact ok | exact ⟨zeroE_ok, ok.m⟩ | exact ⟨ok.x, rfl⟩ | exact ⟨ok.x, ok.m⟩
    have WN : Hid (∀ W, Calls Try.prog 62 #[.agg (reA { v with e := 0 })] W fun x w' => x = .returned (.bool nn) ∧ Below W.heap.size W w') := fun W => by rw [← hnn]; exact kcNothing_any _ okr (by first | exact hmx | (show 0 ≤ _; omega)) W
    rw [hnn] at HRES
    clear hnn hk1
    have hs : we = false ∨ we = true := by cases we <;> simp
    rcases hs with rfl | rfl
    all_goals
      go_wp2_with (first
        | ((with_reducible show wpList _ _ _ (⟨_, .store _ _ _, _, _, _, _⟩ :: _) _ _); refine putS (by rfl) (by rfl) (by rfl) (by exact ⟨rfl, rfl⟩) (by kernel_rfl) H (by repeat first | apply uH | apply uT) (by exact Nat.lt_of_lt_of_eq (by decide) (SZ.out _ _ _ _ _ _).symm) (by first | exact reA_s1 _ _ | exact reA_s2 _ _ | exact S113.out _ _) ?_; clear H; intro W H; try simp only [Act.put, pS1, pS2, pS3])
        | ((with_reducible show wpList _ _ _ (⟨_, .load _ _, _, _, _, _⟩ :: _) _ _); refine subS (by rfl) (by rfl) (by decide +kernel) H (by repeat constructor) (reA_m v ok) FMS.out ?_; try simp only [Act.put, pS1, pS2, pS3])
        | ((with_reducible show wpList _ _ _ (⟨_, .load _ _, _, _, _, _⟩ :: _) _ _); refine subS (by rfl) (by rfl) (by decide +kernel) H (by repeat constructor) (HXE) FES.out ?_; try simp only [Act.put, pS1, pS2, pS3])
        | ((with_reducible show wpList _ _ _ (⟨_, .build _ _, _, _, _, _⟩ :: _) _ _); refine bldS (by rfl) (by with_reducible exact kcBuiltI) (by rfl) ?_; try simp only [Act.put, pS1, pS2, pS3])
        | ((with_reducible show wpList _ _ _ (⟨_, .build _ _, _, _, _, _⟩ :: _) _ _); refine bldS (by rfl) (by with_reducible exact kcBuiltC) (by rfl) ?_; try simp only [Act.put, pS1, pS2, pS3])
        | ((with_reducible show wpList _ _ _ (⟨_, .load _ _, _, _, _, _⟩ :: _) _ _); refine rdS (by rfl) (by rfl) (by decide +kernel) H (by repeat constructor) ?_; try simp only [Act.put, pS1, pS2, pS3])
        | ((with_reducible show wpList _ _ _ (⟨_, .load _ _, _, _, _, _⟩ :: _) _ _); refine fldS (by rfl) (by rfl) (by decide +kernel) H (by repeat constructor) (by first | exact reA_0 _ | exact reA_1 _ | exact reA_2 _ | exact reA_3 _ | exact r113.out) ?_; try simp only [Act.put, pS1, pS2, pS3])
        | ((with_reducible refine (W1.out _).mono ?_); rintro _ _ ⟨rfl, rfl⟩; try simp only [Act.put, pS1, pS2, pS3])
        | ((with_reducible refine (W2.out _).mono ?_); rintro _ _ ⟨rfl, rfl⟩; try simp only [Act.put, pS1, pS2, pS3])
        | ((with_reducible refine (W3.out _ H.out.b).mono ?_); rintro _ W ⟨rfl, hb⟩; replace H := hidk (H.out.call hb); clear hb; try simp only [Act.put, pS1, pS2, pS3])
        | ((with_reducible refine (W4.out _).mono ?_); rintro _ W ⟨rfl, hb⟩; replace H := hidk (H.out.call hb); clear hb; try simp only [Act.put, pS1, pS2, pS3])
        | ((with_reducible refine (W5.out _).mono ?_); rintro _ W ⟨rfl, hb⟩; replace H := hidk (H.out.call hb); clear hb; try simp only [Act.put, pS1, pS2, pS3])
        | ((with_reducible refine (WN.out _).mono ?_); rintro _ W ⟨rfl, hb⟩; replace H := hidk (H.out.call hb); clear hb; try simp only [Act.put, pS1, pS2, pS3])
        | fail)
    all_goals (go_ret; exact ⟨by rw [HRES.out]; rfl, H.out.b⟩)
  have q1 : (v.k == (1 : Int)) = false := by rw [beq_eq_false_iff_ne]; exact hk1
  by_cases hk2 : v.k = 2
  · have q2 : (v.k == (2 : Int)) = true := by rw [beq_iff_eq]; exact hk2
    obtain ⟨wp, hwp⟩ : ∃ b, (decide (1 ≤ v.x.p) && decide (v.x.p ≤ 900000000)) = b := ⟨_, rfl⟩
    have W1 : Hid (∀ W, Calls Try.prog 54 #[.int .i64 v.x.p] W fun e w' => e = .returned (.bool wp) ∧ W = w') := fun W => by rw [← hwp]; exact kcEpoch _ W
    obtain ⟨re, hre⟩ : ∃ b, rightE v.x.e = b := ⟨_, rfl⟩
    obtain ⟨E, hE⟩ : ∃ x, eE v.x.e = x := ⟨_, rfl⟩
    have HEE : (E == (0 : Int)) = re := by rw [← hE, ← hre]; rcases eE_two v.x.e with ⟨a, b⟩ | ⟨a, b⟩ <;> rw [a, b] <;> rfl
    have W4 : Hid (∀ W, Calls Try.prog 60 #[.agg (enA v.x.e)] W fun e w' => e = .returned (.int .i64 E) ∧ Below W.heap.size W w') := fun W => by rw [← hE]; exact D.check v.x.e HH.out.x.e W _ (hidk rfl)
    clear hE
    have HRES : Hid (mayR v.t = (wp && re && noneR { v with x := zeroI })) := by
      show _ = _
      unfold mayR ReV.t
      rw [if_neg (by omega), if_pos hk2]; unfold noneR rightI; rw [← hwp, ← hre]
      have z0 : ((0 : Int) == (0 : Int)) = true := rfl
      have ef : (v.f == (0 : Int)) = decide (v.f = 0) := rfl
      have ee : (v.e == (0 : Int)) = decide (v.e = 0) := rfl
      have ei : eqIB zeroI zeroI = true := (eqIB_iff _ _).2 rfl
      have em : eqCB zeroC zeroC = true := (eqCB_iff _ _).2 rfl
      have nz : (((0 : Nat) : Int) == (0 : Int)) = true := rfl
      simp only [hl, ef, ee, ei, em, z0, nz, Bool.and_true, Bool.true_and]
      generalize eqIB v.x zeroI = x1
      generalize eqCB v.m zeroC = x2
      generalize ((v.n : Int) == (0 : Int)) = x3
      generalize decide (v.f = 0) = x4
      generalize decide (v.e = 0) = x5
      generalize decide (1 ≤ v.x.p) = y1; generalize decide (v.x.p ≤ 900000000) = y2; generalize rightE v.x.e = y3
      cases x2 <;> cases x3 <;> cases x4 <;> cases x5 <;> cases y1 <;> cases y2 <;> cases y3 <;> rfl
    obtain ⟨nn, hnn⟩ : ∃ b, noneR { v with x := zeroI } = b := ⟨_, rfl⟩
    have okr : OkR { v with x := zeroI } := by first | exact ok | exact ⟨zeroE_ok, ok.m⟩ | exact ⟨ok.x, rfl⟩ | exact ⟨ok.x, ok.m⟩
    have WN : Hid (∀ W, Calls Try.prog 62 #[.agg (reA { v with x := zeroI })] W fun x w' => x = .returned (.bool nn) ∧ Below W.heap.size W w') := fun W => by rw [← hnn]; exact kcNothing_any _ okr (by first | exact hmx | (show 0 ≤ _; omega)) W
    rw [hnn] at HRES
    clear hnn hk2
    have hs : wp = false ∨ wp = true ∧ re = false ∨ wp = true ∧ re = true := by cases wp <;> cases re <;> simp
    rcases hs with rfl | ⟨rfl, rfl⟩ | ⟨rfl, rfl⟩
    all_goals
      go_wp2_with (first
        | ((with_reducible show wpList _ _ _ (⟨_, .store _ _ _, _, _, _, _⟩ :: _) _ _); refine midS (by rfl) (by rfl) (by rfl) H (by exact FZI) (by repeat first | apply uH | apply uT) (by rw [reA_size _ (by assumption), NZI.out]; decide) (reA_mx _ (by assumption) zeroI zeroE_ok) ?_; clear H; intro W H; try simp only [Act.put, pS1, pS2, pS3])
        | ((with_reducible show wpList _ _ _ (⟨_, .load _ _, _, _, _, _⟩ :: _) _ _); refine subS (by rfl) (by rfl) (by decide +kernel) H (by repeat constructor) (reA_m v ok) FMS.out ?_; try simp only [Act.put, pS1, pS2, pS3])
        | ((with_reducible show wpList _ _ _ (⟨_, .load _ _, _, _, _, _⟩ :: _) _ _); refine subS (by rfl) (by rfl) (by decide +kernel) H (by repeat constructor) (HXE) FES.out ?_; try simp only [Act.put, pS1, pS2, pS3])
        | ((with_reducible show wpList _ _ _ (⟨_, .build _ _, _, _, _, _⟩ :: _) _ _); refine bldS (by rfl) (by with_reducible exact kcBuiltI) (by rfl) ?_; try simp only [Act.put, pS1, pS2, pS3])
        | ((with_reducible show wpList _ _ _ (⟨_, .build _ _, _, _, _, _⟩ :: _) _ _); refine bldS (by rfl) (by with_reducible exact kcBuiltC) (by rfl) ?_; try simp only [Act.put, pS1, pS2, pS3])
        | ((with_reducible show wpList _ _ _ (⟨_, .load _ _, _, _, _, _⟩ :: _) _ _); refine rdS (by rfl) (by rfl) (by decide +kernel) H (by repeat constructor) ?_; try simp only [Act.put, pS1, pS2, pS3])
        | ((with_reducible show wpList _ _ _ (⟨_, .load _ _, _, _, _, _⟩ :: _) _ _); refine fldS (by rfl) (by rfl) (by decide +kernel) H (by repeat constructor) (by first | exact reA_0 _ | exact reA_1 _ | exact reA_2 _ | exact reA_3 _ | exact r113.out) ?_; try simp only [Act.put, pS1, pS2, pS3])
        | ((with_reducible refine (W1.out _).mono ?_); rintro _ _ ⟨rfl, rfl⟩; try simp only [Act.put, pS1, pS2, pS3])
        | ((with_reducible refine (W2.out _).mono ?_); rintro _ _ ⟨rfl, rfl⟩; try simp only [Act.put, pS1, pS2, pS3])
        | ((with_reducible refine (W3.out _ H.out.b).mono ?_); rintro _ W ⟨rfl, hb⟩; replace H := hidk (H.out.call hb); clear hb; try simp only [Act.put, pS1, pS2, pS3])
        | ((with_reducible refine (W4.out _).mono ?_); rintro _ W ⟨rfl, hb⟩; replace H := hidk (H.out.call hb); clear hb; try simp only [Act.put, pS1, pS2, pS3])
        | ((with_reducible refine (W5.out _).mono ?_); rintro _ W ⟨rfl, hb⟩; replace H := hidk (H.out.call hb); clear hb; try simp only [Act.put, pS1, pS2, pS3])
        | ((with_reducible refine (WN.out _).mono ?_); rintro _ W ⟨rfl, hb⟩; replace H := hidk (H.out.call hb); clear hb; try simp only [Act.put, pS1, pS2, pS3])
        | fail)
    all_goals (go_ret; exact ⟨by rw [HRES.out]; rfl, H.out.b⟩)
  have q2 : (v.k == (2 : Int)) = false := by rw [beq_eq_false_iff_ne]; exact hk2
  by_cases hk3 : v.k = 3
  · have q3 : (v.k == (3 : Int)) = true := by rw [beq_iff_eq]; exact hk3
    obtain ⟨we, hwe⟩ : ∃ b, (decide (1 ≤ v.e) && decide (v.e ≤ 900000000)) = b := ⟨_, rfl⟩
    have W1 : Hid (∀ W, Calls Try.prog 54 #[.int .i64 v.e] W fun e w' => e = .returned (.bool we) ∧ W = w') := fun W => by rw [← hwe]; exact kcEpoch _ W
    obtain ⟨f1, hf1⟩ : ∃ b, decide (0 ≤ v.f) = b := ⟨_, rfl⟩
    obtain ⟨f2, hf2⟩ : ∃ b, decide (v.f ≤ 2000) = b := ⟨_, rfl⟩
    obtain ⟨rl, hrl⟩ : ∃ b, rightL v.l = b := ⟨_, rfl⟩
    obtain ⟨E, hE⟩ : ∃ x, chkE v.l = x := ⟨_, rfl⟩
    have HEE : (E == (0 : Int)) = rl := by rw [← hE, ← hrl]; unfold chkE; cases rightL v.l <;> rfl
    have W3 : Hid (∀ W, Below w.heap.size w W → Calls Try.prog 55 #[.slice v.a v.n v.c] W fun e w' => e = .returned (.int .i64 E) ∧ Below W.heap.size W w') := fun W hb => by rw [← hE]; exact C.check _ _ _ _ W (HH.out.i.keep hb)
    clear hE
    have HRES : Hid (mayR v.t = (we && f1 && f2 && rl && noneR { v with e := 0, f := 0, a := none, n := 0, c := 0, l := [] })) := by
      show _ = _
      unfold mayR ReV.t
      rw [if_neg (by omega), if_neg (by omega), if_pos hk3]; unfold noneR; rw [← hwe, ← hf1, ← hf2, ← hrl]
      have z0 : ((0 : Int) == (0 : Int)) = true := rfl
      have ef : (v.f == (0 : Int)) = decide (v.f = 0) := rfl
      have ee : (v.e == (0 : Int)) = decide (v.e = 0) := rfl
      have ei : eqIB zeroI zeroI = true := (eqIB_iff _ _).2 rfl
      have em : eqCB zeroC zeroC = true := (eqCB_iff _ _).2 rfl
      have nz : (((0 : Nat) : Int) == (0 : Int)) = true := rfl
      simp only [hl, ef, ee, ei, em, z0, nz, Bool.and_true, Bool.true_and]
      generalize eqIB v.x zeroI = x1
      generalize eqCB v.m zeroC = x2
      generalize ((v.n : Int) == (0 : Int)) = x3
      generalize decide (v.f = 0) = x4
      generalize decide (v.e = 0) = x5
      generalize decide (1 ≤ v.e) = y1; generalize decide (v.e ≤ 900000000) = y2; generalize decide (0 ≤ v.f) = y3; generalize decide (v.f ≤ 2000) = y4; generalize rightL v.l = y5
      cases x1 <;> cases x2 <;> cases y1 <;> cases y2 <;> cases y3 <;> cases y4 <;> cases y5 <;> rfl
    obtain ⟨nn, hnn⟩ : ∃ b, noneR { v with e := 0, f := 0, a := none, n := 0, c := 0, l := [] } = b := ⟨_, rfl⟩
    have okr : OkR { v with e := 0, f := 0, a := none, n := 0, c := 0, l := [] } := by first | exact ok | exact ⟨zeroE_ok, ok.m⟩ | exact ⟨ok.x, rfl⟩ | exact ⟨ok.x, ok.m⟩
    have WN : Hid (∀ W, Calls Try.prog 62 #[.agg (reA { v with e := 0, f := 0, a := none, n := 0, c := 0, l := [] })] W fun x w' => x = .returned (.bool nn) ∧ Below W.heap.size W w') := fun W => by rw [← hnn]; exact kcNothing_any _ okr (by first | exact hmx | (show 0 ≤ _; omega)) W
    rw [hnn] at HRES
    clear hnn hk3
    have hs : we = false ∨ we = true ∧ f1 = false ∨ we = true ∧ f1 = true ∧ f2 = false ∨ we = true ∧ f1 = true ∧ f2 = true ∧ rl = false ∨ we = true ∧ f1 = true ∧ f2 = true ∧ rl = true := by cases we <;> cases f1 <;> cases f2 <;> cases rl <;> simp
    rcases hs with rfl | ⟨rfl, rfl⟩ | ⟨rfl, rfl, rfl⟩ | ⟨rfl, rfl, rfl, rfl⟩ | ⟨rfl, rfl, rfl, rfl⟩
    all_goals
      go_wp2_with (first
        | ((with_reducible show wpList _ _ _ (⟨_, .store _ _ _, _, _, _, _⟩ :: _) _ _); refine putS (by rfl) (by rfl) (by rfl) (by exact ⟨rfl, rfl⟩) (by kernel_rfl) H (by repeat first | apply uH | apply uT) (by exact Nat.lt_of_lt_of_eq (by decide) (SZ.out _ _ _ _ _ _).symm) (by first | exact reA_s1 _ _ | exact reA_s2 _ _ | exact S113.out _ _) ?_; clear H; intro W H; try simp only [Act.put, pS1, pS2, pS3])
        | ((with_reducible show wpList _ _ _ (⟨_, .load _ _, _, _, _, _⟩ :: _) _ _); refine subS (by rfl) (by rfl) (by decide +kernel) H (by repeat constructor) (reA_m v ok) FMS.out ?_; try simp only [Act.put, pS1, pS2, pS3])
        | ((with_reducible show wpList _ _ _ (⟨_, .load _ _, _, _, _, _⟩ :: _) _ _); refine subS (by rfl) (by rfl) (by decide +kernel) H (by repeat constructor) (HXE) FES.out ?_; try simp only [Act.put, pS1, pS2, pS3])
        | ((with_reducible show wpList _ _ _ (⟨_, .build _ _, _, _, _, _⟩ :: _) _ _); refine bldS (by rfl) (by with_reducible exact kcBuiltI) (by rfl) ?_; try simp only [Act.put, pS1, pS2, pS3])
        | ((with_reducible show wpList _ _ _ (⟨_, .build _ _, _, _, _, _⟩ :: _) _ _); refine bldS (by rfl) (by with_reducible exact kcBuiltC) (by rfl) ?_; try simp only [Act.put, pS1, pS2, pS3])
        | ((with_reducible show wpList _ _ _ (⟨_, .load _ _, _, _, _, _⟩ :: _) _ _); refine rdS (by rfl) (by rfl) (by decide +kernel) H (by repeat constructor) ?_; try simp only [Act.put, pS1, pS2, pS3])
        | ((with_reducible show wpList _ _ _ (⟨_, .load _ _, _, _, _, _⟩ :: _) _ _); refine fldS (by rfl) (by rfl) (by decide +kernel) H (by repeat constructor) (by first | exact reA_0 _ | exact reA_1 _ | exact reA_2 _ | exact reA_3 _ | exact r113.out) ?_; try simp only [Act.put, pS1, pS2, pS3])
        | ((with_reducible refine (W1.out _).mono ?_); rintro _ _ ⟨rfl, rfl⟩; try simp only [Act.put, pS1, pS2, pS3])
        | ((with_reducible refine (W2.out _).mono ?_); rintro _ _ ⟨rfl, rfl⟩; try simp only [Act.put, pS1, pS2, pS3])
        | ((with_reducible refine (W3.out _ H.out.b).mono ?_); rintro _ W ⟨rfl, hb⟩; replace H := hidk (H.out.call hb); clear hb; try simp only [Act.put, pS1, pS2, pS3])
        | ((with_reducible refine (W4.out _).mono ?_); rintro _ W ⟨rfl, hb⟩; replace H := hidk (H.out.call hb); clear hb; try simp only [Act.put, pS1, pS2, pS3])
        | ((with_reducible refine (W5.out _).mono ?_); rintro _ W ⟨rfl, hb⟩; replace H := hidk (H.out.call hb); clear hb; try simp only [Act.put, pS1, pS2, pS3])
        | ((with_reducible refine (WN.out _).mono ?_); rintro _ W ⟨rfl, hb⟩; replace H := hidk (H.out.call hb); clear hb; try simp only [Act.put, pS1, pS2, pS3])
        | fail)
    all_goals (go_ret; exact ⟨by rw [HRES.out]; rfl, H.out.b⟩)
  have q3 : (v.k == (3 : Int)) = false := by rw [beq_eq_false_iff_ne]; exact hk3
  by_cases hk4 : v.k = 4
  · have q4 : (v.k == (4 : Int)) = true := by rw [beq_iff_eq]; exact hk4
    obtain ⟨rc, hrc⟩ : ∃ b, rightC v.m = b := ⟨_, rfl⟩
    obtain ⟨E, hE⟩ : ∃ x, cE v.m = x := ⟨_, rfl⟩
    have HEE : (E == (0 : Int)) = rc := by rw [← hE, ← hrc]; rcases cE_two v.m with ⟨a, b⟩ | ⟨a, b⟩ <;> rw [a, b] <;> rfl
    have W5 : Hid (∀ W, Calls Try.prog 61 #[.agg (clA v.m)] W fun e w' => e = .returned (.int .i64 E) ∧ Below W.heap.size W w') := fun W => by rw [← hE]; exact D.checkC v.m HH.out.m W _ (hidk rfl)
    clear hE
    have HRES : Hid (mayR v.t = (rc && noneR { v with m := zeroC })) := by
      show _ = _
      unfold mayR ReV.t
      rw [if_neg (by omega), if_neg (by omega), if_neg (by omega), if_pos hk4]; unfold noneR; rw [← hrc]
      have z0 : ((0 : Int) == (0 : Int)) = true := rfl
      have ef : (v.f == (0 : Int)) = decide (v.f = 0) := rfl
      have ee : (v.e == (0 : Int)) = decide (v.e = 0) := rfl
      have ei : eqIB zeroI zeroI = true := (eqIB_iff _ _).2 rfl
      have em : eqCB zeroC zeroC = true := (eqCB_iff _ _).2 rfl
      have nz : (((0 : Nat) : Int) == (0 : Int)) = true := rfl
      simp only [hl, ef, ee, ei, em, z0, nz, Bool.and_true, Bool.true_and]
      generalize eqIB v.x zeroI = x1
      generalize eqCB v.m zeroC = x2
      generalize ((v.n : Int) == (0 : Int)) = x3
      generalize decide (v.f = 0) = x4
      generalize decide (v.e = 0) = x5
      generalize rightC v.m = y1
      cases x1 <;> cases x3 <;> cases x4 <;> cases x5 <;> cases y1 <;> rfl
    obtain ⟨nn, hnn⟩ : ∃ b, noneR { v with m := zeroC } = b := ⟨_, rfl⟩
    have okr : OkR { v with m := zeroC } := by first | exact ok | exact ⟨zeroE_ok, ok.m⟩ | exact ⟨ok.x, rfl⟩ | exact ⟨ok.x, ok.m⟩
    have WN : Hid (∀ W, Calls Try.prog 62 #[.agg (reA { v with m := zeroC })] W fun x w' => x = .returned (.bool nn) ∧ Below W.heap.size W w') := fun W => by rw [← hnn]; exact kcNothing_any _ okr (by first | exact hmx | (show 0 ≤ _; omega)) W
    rw [hnn] at HRES
    clear hnn hk4
    have hs : rc = false ∨ rc = true := by cases rc <;> simp
    rcases hs with rfl | rfl
    all_goals
      go_wp2_with (first
        | ((with_reducible show wpList _ _ _ (⟨_, .store _ _ _, _, _, _, _⟩ :: _) _ _); refine midS (by rfl) (by rfl) (by rfl) H (by exact FZC) (by repeat first | apply uH | apply uT) (by rw [reA_size _ (by assumption), NZC.out]; decide) (reA_mm _ (by assumption) zeroC rfl) ?_; clear H; intro W H; try simp only [Act.put, pS1, pS2, pS3])
        | ((with_reducible show wpList _ _ _ (⟨_, .load _ _, _, _, _, _⟩ :: _) _ _); refine subS (by rfl) (by rfl) (by decide +kernel) H (by repeat constructor) (reA_m v ok) FMS.out ?_; try simp only [Act.put, pS1, pS2, pS3])
        | ((with_reducible show wpList _ _ _ (⟨_, .load _ _, _, _, _, _⟩ :: _) _ _); refine subS (by rfl) (by rfl) (by decide +kernel) H (by repeat constructor) (HXE) FES.out ?_; try simp only [Act.put, pS1, pS2, pS3])
        | ((with_reducible show wpList _ _ _ (⟨_, .build _ _, _, _, _, _⟩ :: _) _ _); refine bldS (by rfl) (by with_reducible exact kcBuiltI) (by rfl) ?_; try simp only [Act.put, pS1, pS2, pS3])
        | ((with_reducible show wpList _ _ _ (⟨_, .build _ _, _, _, _, _⟩ :: _) _ _); refine bldS (by rfl) (by with_reducible exact kcBuiltC) (by rfl) ?_; try simp only [Act.put, pS1, pS2, pS3])
        | ((with_reducible show wpList _ _ _ (⟨_, .load _ _, _, _, _, _⟩ :: _) _ _); refine rdS (by rfl) (by rfl) (by decide +kernel) H (by repeat constructor) ?_; try simp only [Act.put, pS1, pS2, pS3])
        | ((with_reducible show wpList _ _ _ (⟨_, .load _ _, _, _, _, _⟩ :: _) _ _); refine fldS (by rfl) (by rfl) (by decide +kernel) H (by repeat constructor) (by first | exact reA_0 _ | exact reA_1 _ | exact reA_2 _ | exact reA_3 _ | exact r113.out) ?_; try simp only [Act.put, pS1, pS2, pS3])
        | ((with_reducible refine (W1.out _).mono ?_); rintro _ _ ⟨rfl, rfl⟩; try simp only [Act.put, pS1, pS2, pS3])
        | ((with_reducible refine (W2.out _).mono ?_); rintro _ _ ⟨rfl, rfl⟩; try simp only [Act.put, pS1, pS2, pS3])
        | ((with_reducible refine (W3.out _ H.out.b).mono ?_); rintro _ W ⟨rfl, hb⟩; replace H := hidk (H.out.call hb); clear hb; try simp only [Act.put, pS1, pS2, pS3])
        | ((with_reducible refine (W4.out _).mono ?_); rintro _ W ⟨rfl, hb⟩; replace H := hidk (H.out.call hb); clear hb; try simp only [Act.put, pS1, pS2, pS3])
        | ((with_reducible refine (W5.out _).mono ?_); rintro _ W ⟨rfl, hb⟩; replace H := hidk (H.out.call hb); clear hb; try simp only [Act.put, pS1, pS2, pS3])
        | ((with_reducible refine (WN.out _).mono ?_); rintro _ W ⟨rfl, hb⟩; replace H := hidk (H.out.call hb); clear hb; try simp only [Act.put, pS1, pS2, pS3])
        | fail)
    all_goals (go_ret; exact ⟨by rw [HRES.out]; rfl, H.out.b⟩)
  have q4 : (v.k == (4 : Int)) = false := by rw [beq_eq_false_iff_ne]; exact hk4
  have HRES : Hid (mayR v.t = false) := by
    show _ = _
    unfold mayR ReV.t
    rw [if_neg hk1, if_neg hk2, if_neg hk3, if_neg hk4]
  go_wp2_with (first
    | ((with_reducible show wpList _ _ _ (⟨_, .load _ _, _, _, _, _⟩ :: _) _ _); refine fldS (by rfl) (by rfl) (by decide +kernel) H (by repeat constructor) (by first | exact reA_0 _ | exact reA_1 _ | exact reA_2 _ | exact reA_3 _ | exact r113.out) ?_; try simp only [Act.put, pS1, pS2, pS3])
    | ((with_reducible show wpList _ _ _ (⟨_, .load _ _, _, _, _, _⟩ :: _) _ _); refine rdS (by rfl) (by rfl) (by decide +kernel) H (by repeat constructor) ?_; try simp only [Act.put, pS1, pS2, pS3])
    | fail)
  go_ret
  exact ⟨by rw [HRES.out]; rfl, H.out.b⟩
theorem buildNoneI (w : World) : (Instr.buildSlice 22 0 #[]).run Try.prog w = .ok (.slice (some ⟨w.heap.size, 0, none⟩) 0 0) (w.alloc (.cells #[] 40)) := by
  simp [Instr.buildSlice, run_underlying Try.underlying22, sizeOfI, newRow, Instr.fill]
  rw [show Array.map (fun (_ : Nat) => (default : Value)) (Array.range 0) = #[] from Array.eq_empty_of_size_eq_zero (by simp)]
set_option maxHeartbeats 4000000 in
theorem cloneI15 (a : Option Addr) (len cap : Nat) (l : List ItT) (w : World) (h : IReads w a len cap l) (hc0 : a = none → cap = 0) (hlen : len ≤ 1000) :
    Calls Try.prog 63 #[.slice a len cap] w fun e w' => ∃ a2 c2, e = .returned (.slice a2 len c2) ∧ w'.ownsRow w.heap.size 40 110 (.slice a2 len c2) len (icL l) ∧ Below w.heap.size w w' := by
  cases a with
  | none =>
    obtain rfl : cap = 0 := hc0 rfl
    obtain rfl : len = 0 := by have := h.cp; omega
    obtain rfl : l = [] := List.eq_nil_of_length_eq_zero h.ln
    have hn : ∀ W : World, (binOp .eql 22 (.slice none 0 0) (.slice none 0 0)).run Try.prog W = .ok (.bool true) W := fun _ => rfl
    clear h
    go_enter Try.func63, Try.ntmps63
    go_wp2
    go_ret
    exact ⟨none, 0, rfl, ⟨rfl, .inl ⟨rfl, rfl⟩⟩, Below.refl _ _⟩
  | some ad =>
    have hb0 : Below w.heap.size w (w.alloc (.cells #[] 40)) := (Below.refl _ _).alloc (Nat.le_refl _) _
    have ho : (w.alloc (.cells #[] 40)).ownsRow w.heap.size 40 110 (.slice (some ⟨w.heap.size, 0, none⟩) 0 0) 0 (icL []) := World.ownsRow_made w #[] 0 (Nat.le_refl _) (Nat.zero_le _) (by simp)
    have hs : w.heap.size ≤ (w.alloc (.cells #[] 40)).heap.size := by simp
    obtain ⟨v, w1, hr, h1, hg⟩ := run_append_items (h.keep hb0) (fun e => by cases e) w.heap.size 0 _ [] ho hs (by omega)
    have HB : Hid (Below w.heap.size w w1) := hb0.grown hg hs (fun k e => (ho.lt k e).1)
    rw [List.nil_append, Nat.zero_add] at h1
    obtain ⟨a2, c2, rfl, _, _, _⟩ := IReads.own h1 h.ok
    have HO := hidk h1
    have hn : ∀ W : World, (binOp .eql 22 (.slice (some ad) len cap) (.slice none 0 0)).run Try.prog W = .ok (.bool false) W := fun _ => rfl
    have hbn := buildNoneI w
    clear h1 hg h ho hs hb0
    go_enter Try.func63, Try.ntmps63
    go_wp2_with (first
      | ((with_reducible show wpList _ _ _ (⟨_, .buildSlice _ _ _, _, _, _, _⟩ :: _) _ _); refine bslS (by rfl) (hbn) (by rfl) ?_; try simp only [Act.put, pS1, pS2, pS3])
      | ((with_reducible show wpList _ _ _ (⟨_, .call _, _, _, _, _⟩ :: _) _ _); refine appS (by rfl) (by rfl) (by rfl) (hr) ?_; try simp only [Act.put, pS1, pS2, pS3])
      | fail)
    go_ret
    exact ⟨a2, c2, rfl, HO.out, HB.out⟩
theorem buildNoneC15 (w : World) : (Instr.buildSlice 23 0 #[]).run Try.prog w = .ok (.slice (some ⟨w.heap.size, 0, none⟩) 0 0) (w.alloc (.cells #[] 36)) := by
  simp [Instr.buildSlice, run_underlying Try.underlying23, sizeOfClis, newRow, Instr.fill]
  rw [show Array.map (fun (_ : Nat) => (default : Value)) (Array.range 0) = #[] from Array.eq_empty_of_size_eq_zero (by simp)]
set_option maxHeartbeats 4000000 in
theorem cloneC15 (a : Option Addr) (len cap : Nat) (l : List ClT) (w : World) (h : CReads w a len cap l) (hc0 : a = none → cap = 0) (hlen : len ≤ 1000) :
    Calls Try.prog 64 #[.slice a len cap] w fun e w' => ∃ a2 c2, e = .returned (.slice a2 len c2) ∧ w'.ownsRow w.heap.size 36 36 (.slice a2 len c2) len (clcL l) ∧ Below w.heap.size w w' := by
  cases a with
  | none =>
    obtain rfl : cap = 0 := hc0 rfl
    obtain rfl : len = 0 := by have := h.cp; omega
    obtain rfl : l = [] := List.eq_nil_of_length_eq_zero h.ln
    have hn : ∀ W : World, (binOp .eql 23 (.slice none 0 0) (.slice none 0 0)).run Try.prog W = .ok (.bool true) W := fun _ => rfl
    clear h
    go_enter Try.func64, Try.ntmps64
    go_wp2
    go_ret
    exact ⟨none, 0, rfl, ⟨rfl, .inl ⟨rfl, rfl⟩⟩, Below.refl _ _⟩
  | some ad =>
    have hb0 : Below w.heap.size w (w.alloc (.cells #[] 36)) := (Below.refl _ _).alloc (Nat.le_refl _) _
    have ho : (w.alloc (.cells #[] 36)).ownsRow w.heap.size 36 36 (.slice (some ⟨w.heap.size, 0, none⟩) 0 0) 0 (clcL []) := World.ownsRow_made w #[] 0 (Nat.le_refl _) (Nat.zero_le _) (by simp)
    have hs : w.heap.size ≤ (w.alloc (.cells #[] 36)).heap.size := by simp
    obtain ⟨v, w1, hr, h1, hg⟩ := run_append_cls (h.keep hb0) (fun e => by cases e) w.heap.size 0 _ [] ho hs (by omega)
    have HB : Hid (Below w.heap.size w w1) := hb0.grown hg hs (fun k e => (ho.lt k e).1)
    rw [List.nil_append, Nat.zero_add] at h1
    obtain ⟨a2, c2, rfl, _, _, _⟩ := CReads.own h1 h.ok
    have HO := hidk h1
    have hn : ∀ W : World, (binOp .eql 23 (.slice (some ad) len cap) (.slice none 0 0)).run Try.prog W = .ok (.bool false) W := fun _ => rfl
    have hbn := buildNoneC15 w
    clear h1 hg h ho hs hb0
    go_enter Try.func64, Try.ntmps64
    go_wp2_with (first
      | ((with_reducible show wpList _ _ _ (⟨_, .buildSlice _ _ _, _, _, _, _⟩ :: _) _ _); refine bslS (by rfl) (hbn) (by rfl) ?_; try simp only [Act.put, pS1, pS2, pS3])
      | ((with_reducible show wpList _ _ _ (⟨_, .call _, _, _, _, _⟩ :: _) _ _); refine appS (by rfl) (by rfl) (by rfl) (hr) ?_; try simp only [Act.put, pS1, pS2, pS3])
      | fail)
    go_ret
    exact ⟨a2, c2, rfl, HO.out, HB.out⟩
theorem keA_fitW (v : KeV) : Fit Try.prog 73 (keA v) := ⟨(by kernel_rfl : (Try.prog.info? 73).map (·.size) = some 4), (keA_fit v).o⟩
theorem kcBuiltW (v : KeV) : Try.prog.built 73 [(0, .agg (keA v))] = some (keA v) := by kernel_rfl
structure WkAt (w0 W : World) (g : Nat) (L : List Vr) (M : List (Nat × Obj)) (v : KeV) (N1 N2 : List (Nat × Obj)) : Prop where
  s : Sep Try.prog w0 W ((g, keA v, 73) :: L) (N2 ++ (N1 ++ M))
  i : OwnIn (.slice v.a v.n v.c) N1 ∧ ∀ W, Has W N1 → W.ownsRow w0.heap.size 40 110 (.slice v.a v.n v.c) v.n (icL v.l)
  c : OwnIn (.slice v.b v.m v.d) N2 ∧ ∀ W, Has W N2 → W.ownsRow w0.heap.size 36 36 (.slice v.b v.m v.d) v.m (clcL v.k)
  n : v.n = v.l.length
  m : v.m = v.k.length
set_option maxHeartbeats 8000000 in
theorem kcWork_any (v : KeV) (w : World) (h : KIn w v) : Calls Try.prog 41 #[.agg (keA v)] w fun x w' => ∃ v', x = .returned (.agg (keA v')) ∧ v'.t = v.t ∧ v'.n = v'.l.length ∧ v'.m = v'.k.length ∧ OwnKe w' w.heap.size v' ∧ Below w.heap.size w w' := by
  have FX : Hid (Fit Try.prog 25 (keA v)) := keA_fit _
  have FY := hidk keA_fitW
  have W1 : Hid (∀ W, Below w.heap.size w W → Calls Try.prog 63 #[.slice v.a v.n v.c] W fun e w' => ∃ a2 c2, e = .returned (.slice a2 v.n c2) ∧ w'.ownsRow W.heap.size 40 110 (.slice a2 v.n c2) v.n (icL v.l) ∧ Below W.heap.size W w') := fun W hb => cloneI15 _ _ _ _ W (h.i.rd.keep hb) h.i.nil (by have := h.il; omega)
  have W2 : Hid (∀ W, Below w.heap.size w W → Calls Try.prog 64 #[.slice v.b v.m v.d] W fun e w' => ∃ a2 c2, e = .returned (.slice a2 v.m c2) ∧ w'.ownsRow W.heap.size 36 36 (.slice a2 v.m c2) v.m (clcL v.k) ∧ Below W.heap.size W w') := fun W hb => cloneC15 _ _ _ _ W (h.c.keep hb) h.cn (by have := h.cl; omega)
  have l1 : Hid (v.n = v.l.length) := h.i.rd.ln.symm
  have l2 : Hid (v.m = v.k.length) := h.c.ln.symm
  have H := hidk (Sep.start Try.prog w)
  clear h
  go_enter Try.func41, Try.ntmps41
  go_wp2_with (first
    | ((with_reducible show wpList _ _ _ (⟨_, .box _ _, _, _, _, _⟩ :: _) _ _); refine boxS (by rfl) (by rfl) H (by assumption) ?_; clear H; intro gq W hq H; clear hq; try simp only [Act.put, pS1, pS2, pS3])
    | ((with_reducible show wpList _ _ _ (⟨_, .alloc _, _, _, _, _⟩ :: _) _ _); refine newS (by rfl) (by kernel_rfl) H ?_; clear H; intro gq W hq H; clear hq; try simp only [Act.put, pS1, pS2, pS3])
    | ((with_reducible show wpList _ _ _ (⟨_, .load _ _, _, _, _, _⟩ :: _) _ _); refine rdS (by rfl) (by rfl) (by decide +kernel) H (by repeat constructor) ?_; try simp only [Act.put, pS1, pS2, pS3])
    | ((with_reducible show wpList _ _ _ (⟨_, .build _ _, _, _, _, _⟩ :: _) _ _); refine bldS (by rfl) (kcBuiltW _) (by rfl) ?_; try simp only [Act.put, pS1, pS2, pS3])
    | ((with_reducible show wpList _ _ _ (⟨_, .store _ _ _, _, _, _, _⟩ :: _) _ _); refine setS (by rfl) (by rfl) (by rfl) H (by exact FY.out _) (by repeat first | apply uH | apply uT) ?_; clear H; intro W H; try simp only [Act.put, pS1, pS2, pS3])
    | ((with_reducible show wpList _ _ _ (⟨_, .load _ _, _, _, _, _⟩ :: _) _ _); refine fldS (by rfl) (by rfl) (by decide +kernel) H (by repeat constructor) (by first | exact keA_0 _ | exact keA_1 _ | exact keA_2 _ | exact keA_3 _) ?_; try simp only [Act.put, pS1, pS2, pS3])
    | ((with_reducible show wpList _ _ _ (⟨_, .store _ _ _, _, _, _, _⟩ :: _) _ _); refine putS (by rfl) (by rfl) (by rfl) (by exact ⟨rfl, rfl⟩) (by kernel_rfl) H (by repeat first | apply uH | apply uT) (by rw [keA_size]; omega) (by first | exact keA_s2 _ _ _ _ v.l | exact keA_s3 _ _ _ _ v.k) ?_; clear H; intro W H; try simp only [Act.put, pS1, pS2, pS3])
    | ((with_reducible refine (W1.out _ H.out.b).mono ?_); rintro _ W ⟨a1, c1, rfl, ho, hb⟩; obtain ⟨N1, HQ, F1⟩ := H.out.own hb ho; clear H ho hb; have H := HQ; clear HQ; try simp only [Act.put, pS1, pS2, pS3])
    | ((with_reducible refine (W2.out _ H.out.b).mono ?_); rintro _ W ⟨a2, c2, rfl, ho, hb⟩; obtain ⟨N2, HQ, F2⟩ := H.out.own hb ho; clear H ho hb; have H := HQ; clear HQ; try simp only [Act.put, pS1, pS2, pS3])
    | fail)
  refine bodyPost_ret (resS1 rfl rfl H (by repeat constructor) (by kernel_rfl)) rfl ?_
  exact ⟨_, rfl, rfl, l1.out, l2.out, ⟨F1.out.2 _ H.out.has.r.l, F2.out.2 _ H.out.has.l⟩, H.out.b⟩
set_option maxHeartbeats 16000000 in
theorem kcPromise {w0 W : World} {g : Nat} {L : List Vr} {M N1 N2 : List (Nat × Obj)} {v : KeV} {r : ReV} (C : HistoryC) (hat : WkAt w0 W g L M v N1 N2) (hv : OkKe v.t) (hr : RIn w0 r) (hl : r.n ≤ 250) (hR : rightKe v.t = true) (hM : mayR r.t = true) (hk : r.k = 1) : Calls Try.prog 65 #[.pointer (some ⟨g, 0, none⟩), .agg (reA r)] W fun x W' => ∃ v' N1 N2, x = .returned (.int .i64 (kpE v.t r.t)) ∧ (kpE v.t r.t = 0 → v'.t = kpX v.t r.t) ∧ WkAt w0 W' g L M v' N1 N2 := by
  have ok := hr.ok
  have FX : Hid (Fit Try.prog 42 (reA r)) := reA_fit r ok
  have r113 := hidk (reA_113 r ok)
  have HAT := hidk hat
  have hkt : r.t.k = 1 := hk
  have H := hidk hat.s
  by_cases hlt : r.e < v.e
  · have hd : decide (r.e < v.e) = true := decide_eq_true hlt
    have hW : kpW v.t r.t = 140 := by unfold kpW; rw [if_pos hkt]; exact if_pos hlt
    have HE : Hid (kpE v.t r.t = 140) := by show _ = _; rw [kpE_3k hR hM (by rw [hW]; decide), hW]
    clear hat hr hv hM hkt hW hk hlt
    rw [HE.out]
    go_enter Try.func65, Try.ntmps65
    go_wp2_with (first
      | ((with_reducible show wpList _ _ _ (⟨_, .box _ _, _, _, _, _⟩ :: _) _ _); refine boxS (by rfl) (by rfl) H (by assumption) ?_; clear H; intro gq W hq H; clear hq; try simp only [Act.put, pS1, pS2, pS3])
      | fail)
    refine region_q (by kernel_rfl) (by kernel_rfl) H (fun hne => ?_)
    repeat (first
      | go_big_quiet_skip
      | (go_big_quiet_want; first | (refine qF (by rfl) (by decide +kernel) (by repeat constructor) (by first | exact reA_0 _ | exact reA_1 _ | exact reA_2 _ | exact reA_3 _ | exact r113.out | exact keA_0 _ | exact keA_1 _ | exact keA_2 _ | exact keA_3 _) ?_; try simp only [Act.put, pS1, pS2, pS3]; go_big_quiet_on) | (go_big_quiet_op; first | go_big_quiet_on)))
    refine wpQuiet_nil ?_
    rintro _ ⟨n, rfl⟩
    clear hne
    have HQ := hidk n.2
    clear H
    have H := HQ
    clear HQ
    obtain ⟨W, hW⟩ : ∃ W, W = n.1 := ⟨_, rfl⟩
    rw [← hW] at H ⊢
    clear hW n
    try simp only [Act.put, pS1, pS2, pS3]
    go_wp2
    go_ret
    exact ⟨v, N1, N2, rfl, (fun h => by cases h), ⟨H.out.tl, HAT.out.i, HAT.out.c, HAT.out.n, HAT.out.m⟩⟩
  · have hd : decide (r.e < v.e) = false := decide_eq_false hlt
    have hW : kpW v.t r.t = 0 := by unfold kpW; rw [if_pos hkt]; exact if_neg hlt
    have HE : Hid (kpE v.t r.t = 0) := kpE_5k hR hM hW (by rw [hkt]; decide)
    have HX : Hid (KeV.t { v with e := r.e } = kpX v.t r.t) := by show _ = _; unfold kpX; rw [if_pos hkt]; rfl
    clear hat hr hv hM hkt hW hk hlt
    rw [HE.out]
    go_enter Try.func65, Try.ntmps65
    go_wp2_with (first
      | ((with_reducible show wpList _ _ _ (⟨_, .box _ _, _, _, _, _⟩ :: _) _ _); refine boxS (by rfl) (by rfl) H (by assumption) ?_; clear H; intro gq W hq H; clear hq; try simp only [Act.put, pS1, pS2, pS3])
      | fail)
    refine region_q (by kernel_rfl) (by kernel_rfl) H (fun hne => ?_)
    repeat (first
      | go_big_quiet_skip
      | (go_big_quiet_want; first | (refine qF (by rfl) (by decide +kernel) (by repeat constructor) (by first | exact reA_0 _ | exact reA_1 _ | exact reA_2 _ | exact reA_3 _ | exact r113.out | exact keA_0 _ | exact keA_1 _ | exact keA_2 _ | exact keA_3 _) ?_; try simp only [Act.put, pS1, pS2, pS3]; go_big_quiet_on) | (go_big_quiet_op; first | go_big_quiet_on)))
    refine wpQuiet_nil ?_
    rintro _ ⟨n, rfl⟩
    clear hne
    have HQ := hidk n.2
    clear H
    have H := HQ
    clear HQ
    obtain ⟨W, hW⟩ : ∃ W, W = n.1 := ⟨_, rfl⟩
    rw [← hW] at H ⊢
    clear hW n
    try simp only [Act.put, pS1, pS2, pS3]
    go_wp2_with (first
      | ((with_reducible show wpList _ _ _ (⟨_, .load _ _, _, _, _, _⟩ :: _) _ _); refine fldS (by rfl) (by rfl) (by decide +kernel) H (by repeat constructor) (by first | exact reA_0 _ | exact reA_1 _ | exact reA_2 _ | exact reA_3 _ | exact r113.out | exact keA_0 _ | exact keA_1 _ | exact keA_2 _ | exact keA_3 _) ?_; try simp only [Act.put, pS1, pS2, pS3])
      | ((with_reducible show wpList _ _ _ (⟨_, .store _ _ _, _, _, _, _⟩ :: _) _ _); refine putS (by rfl) (by rfl) (by rfl) (by exact ⟨rfl, rfl⟩) (by kernel_rfl) H (by repeat first | apply uH | apply uT) (by rw [keA_size]; omega) (by first | exact keA_s0 _ _ | exact keA_s1 _ _) ?_; clear H; intro W H; try simp only [Act.put, pS1, pS2, pS3])
      | fail)
    go_ret
    exact ⟨{ v with e := r.e }, N1, N2, rfl, fun _ => HX.out, ⟨H.out.tl, HAT.out.i, HAT.out.c, HAT.out.n, HAT.out.m⟩⟩
set_option maxHeartbeats 16000000 in
theorem kcLay {w0 W : World} {g : Nat} {L : List Vr} {M N1 N2 : List (Nat × Obj)} {v : KeV} {r : ReV} (C : HistoryC) (hat : WkAt w0 W g L M v N1 N2) (hv : OkKe v.t) (hr : RIn w0 r) (hl : r.n ≤ 250) (hR : rightKe v.t = true) (hM : mayR r.t = true) (hk : r.k = 2) : Calls Try.prog 66 #[.pointer (some ⟨g, 0, none⟩), .agg (reA r)] W fun x W' => ∃ v' N1 N2, x = .returned (.int .i64 (kpE v.t r.t)) ∧ (kpE v.t r.t = 0 → v'.t = kpX v.t r.t) ∧ WkAt w0 W' g L M v' N1 N2 := by
  have ok := hr.ok
  have FX : Hid (Fit Try.prog 42 (reA r)) := reA_fit r ok
  have FXI := hidk (itA_fit r.x hr.xo).s
  have SXI := hidk (reA_x r)
  have r113 := hidk (reA_113 r ok)
  have HAT := hidk hat
  have hkt : r.t.k = 2 := hk
  have H := hidk hat.s
  obtain ⟨b1, hb1⟩ : ∃ b, (r.x.p != v.g) = b := ⟨_, rfl⟩
  obtain ⟨E, hE⟩ : ∃ x, mayE v.l r.x = x := ⟨_, rfl⟩
  obtain ⟨b2, hb2⟩ : ∃ b, (E != (0 : Int)) = b := ⟨_, rfl⟩
  have inl : ∀ V, Has V N1 → InL V v.a v.n v.c v.l := fun V hV => by
    obtain ⟨a2, c2, e, h1, h2, _⟩ := IReads.own (HAT.out.i.2 V hV) (fun x hx => (hv.i x hx).e.ok)
    cases e
    exact ⟨h1, h2, hv.i, by have hvn : v.l.length ≤ 250 := hv.n; have := HAT.out.n; omega⟩
  have hvn1 : v.n ≤ 1000 := by have hvn : v.l.length ≤ 250 := hv.n; have := HAT.out.n; omega
  have WM : Hid (∀ V, Sep Try.prog w0 V ((g, keA v, 73) :: L) (N2 ++ (N1 ++ M)) → Calls Try.prog 86 #[.slice v.a v.n v.c, .agg (itA r.x)] V fun e w' => e = .returned (.int .i64 E) ∧ Below V.heap.size V w') := fun V hS => by rw [← hE]; exact C.may _ _ _ _ _ V (inl V hS.has.r.l) hr.x hvn1 _ (hidk rfl)
  have hWE : b1 = false ∧ b2 = false ∧ kpE v.t r.t = 0 ∨ (b1 = true ∨ b1 = false ∧ b2 = true) ∧ kpE v.t r.t = 140 := by
    have hW : kpW v.t r.t = if r.x.p ≠ v.g ∨ mayE v.l r.x ≠ 0 then 140 else 0 := by unfold kpW; rw [if_neg (by rw [hkt]; decide), if_pos hkt]; rfl
    rw [hE] at hW
    by_cases q1 : r.x.p = v.g
    · have d1 : b1 = false := by rw [← hb1, q1]; simp
      by_cases q2 : E = 0
      · have d2 : b2 = false := by rw [← hb2, q2]; rfl
        exact .inl ⟨d1, d2, kpE_5k hR hM (by rw [hW, if_neg (by rw [q1, q2]; simp)]) (by rw [hkt]; decide)⟩
      · have d2 : b2 = true := by rw [← hb2, bne_iff_ne]; exact q2
        have hW' : kpW v.t r.t = 140 := by rw [hW, if_pos (.inr q2)]
        exact .inr ⟨.inr ⟨d1, d2⟩, by rw [kpE_3k hR hM (by rw [hW']; decide), hW']⟩
    · have d1 : b1 = true := by rw [← hb1, bne_iff_ne]; exact q1
      have hW' : kpW v.t r.t = 140 := by rw [hW, if_pos (.inl q1)]
      exact .inr ⟨.inl d1, by rw [kpE_3k hR hM (by rw [hW']; decide), hW']⟩
  have HV := hidk hv
  have HXI := hidk hr.x
  clear hat hr hv hM hR hE inl C
  rcases hWE with ⟨rfl, rfl, he⟩ | ⟨hs, he⟩
  · have HX : Hid (∀ a n c, KeV.t { v with a := a, n := n, c := c, l := v.l ++ [r.x] } = kpX v.t r.t) := fun a n c => by unfold kpX; rw [if_neg (by rw [hkt]; decide), if_pos hkt]; rfl
    rw [he]
    clear hkt hk he
    go_enter Try.func66, Try.ntmps66
    go_wp2_with (first
      | ((with_reducible show wpList _ _ _ (⟨_, .box _ _, _, _, _, _⟩ :: _) _ _); refine boxS (by rfl) (by rfl) H (by assumption) ?_; clear H; intro gq W hq H; clear hq; try simp only [Act.put, pS1, pS2, pS3])
      | fail)
    refine region_q (by kernel_rfl) (by kernel_rfl) H (fun hne => ?_)
    have W2 : Hid (∀ V, Sep Try.prog w0 V ((gq, reA r, 42) :: (g, keA v, 73) :: L) (N2 ++ (N1 ++ M)) → Calls Try.prog 86 #[.slice v.a v.n v.c, .agg (itA r.x)] V fun e w' => e = .returned (.int .i64 E) ∧ Below V.heap.size V w') := fun V hS => WM.out V hS.tl
    repeat (first
      | go_big_quiet_skip
      | (go_big_quiet_want; first | (refine qF (by rfl) (by decide +kernel) (by repeat constructor) (by first | exact reA_0 _ | exact reA_1 _ | exact reA_2 _ | exact reA_3 _ | exact r113.out | exact keA_0 _ | exact keA_1 _ | exact keA_2 _ | exact keA_3 _) ?_; try simp only [Act.put, pS1, pS2, pS3]; go_big_quiet_on) | (refine qU (by rfl) (by decide +kernel) (by repeat constructor) SXI FXI.out ?_; try simp only [Act.put, pS1, pS2, pS3]; go_big_quiet_on) | (go_big_quiet_op; first | go_big_quiet_on | (apply Exists.intro; refine ⟨fun n => (by first | exact q_call (fun V HS => W2.out V HS) n), ?_⟩; go_big_quiet_on))))
    refine wpQuiet_nil ?_
    rintro _ ⟨n, rfl⟩
    clear hne
    have HQ := hidk n.2
    clear H
    have H := HQ
    clear HQ
    obtain ⟨W, hW⟩ : ∃ W, W = n.1 := ⟨_, rfl⟩
    rw [← hW] at H ⊢
    clear hW n
    try simp only [Act.put, pS1, pS2, pS3]
    go_wp2
    refine region_mix [(gq, reA r, 42), (g, keA v, 73)] [] [8, 9, 13] [13] [0, 1, 2, 3, 4, 5, 6, 7, 8, 9, 10, 11, 12, 13] (by kernel_rfl) (by kernel_rfl) (by kernel_rfl) (by rfl) H (.cons_cons _ (.cons_cons _ (List.nil_sublist _))) (List.nil_sublist _) ?_
    clear H
    intro W hne H
    obtain ⟨hbr, a2, c2, V, N1x, har, HV, FV⟩ := app_item (A := N2) (N := N1) H.out HAT.out.i r.x (fun y hy => by rcases List.mem_append.1 hy with q | q; exact (HV.out.i y q).e.ok; rw [List.mem_singleton.1 q]; exact HXI.out.e.ok) (by have hvn : v.l.length ≤ 250 := HV.out.n; have := HAT.out.n; omega)
    repeat (first
      | (refine mix_skip (by rfl) (by rfl) ?_; try simp only [Act.put, pS1, pS2, pS3])
      | (refine mix_q (by rfl) (by rfl) (by rfl) (by rfl) ?_; intro K hK; first | (refine qF (by rfl) (by decide +kernel) (by repeat constructor) (by first | exact reA_0 _ | exact reA_1 _ | exact reA_2 _ | exact reA_3 _ | exact r113.out | exact keA_0 _ | exact keA_1 _ | exact keA_2 _ | exact keA_3 _) ?_; try simp only [Act.put, pS1, pS2, pS3]; go_big_quiet_on) | (refine qU (by rfl) (by decide +kernel) (by repeat constructor) SXI FXI.out ?_; try simp only [Act.put, pS1, pS2, pS3]; go_big_quiet_on) | (go_big_quiet_op; go_big_quiet_on))
      | (refine mix_e (by rfl) (by rfl) (by rfl) ?_; go_wp2_with (first | ((with_reducible show wpList _ _ _ (⟨_, .buildSlice _ _ _, _, _, _, _⟩ :: _) _ _); refine bslS (by rfl) (hbr) (by rfl) ?_; try simp only [Act.put, pS1, pS2, pS3]) | ((with_reducible show wpList _ _ _ (⟨_, .call _, _, _, _, _⟩ :: _) _ _); refine appS (by rfl) (by rfl) (by rfl) har ?_; clear H; have H := HV; clear HV; try simp only [Act.put, pS1, pS2, pS3]) | ((with_reducible show wpList _ _ _ (⟨_, .store _ _ _, _, _, _, _⟩ :: _) _ _); refine putS (by rfl) (by rfl) (by rfl) (by exact ⟨rfl, rfl⟩) (by kernel_rfl) H (by repeat first | apply uH | apply uT) (by rw [keA_size]; omega) (by first | exact keA_s2 _ _ _ _ (v.l ++ [r.x])) ?_; clear H; intro W H; try simp only [Act.put, pS1, pS2, pS3]) | fail); first | refine mix_fin (by rfl) ?_ | refine mix_fin2 ?_ | refine mix_on (by first | exact H.out.sub (.cons_cons _ (.cons_cons _ (List.nil_sublist _))) (List.nil_sublist _) | exact (H.out.call ((Below.refl _ _).alloc (Nat.le_refl _) _)).sub (.cons_cons _ (.cons_cons _ (List.nil_sublist _))) (List.nil_sublist _)) ?_ | refine mix_on2 (by first | exact H.out.sub (.cons_cons _ (.cons_cons _ (List.nil_sublist _))) (List.nil_sublist _) | exact (H.out.call ((Below.refl _ _).alloc (Nat.le_refl _) _)).sub (.cons_cons _ (.cons_cons _ (List.nil_sublist _))) (List.nil_sublist _)) ?_))
    refine mix_end ?_
    clear hne
    go_wp2
    go_ret
    exact ⟨_, _, _, rfl, fun _ => HX.out _ _ _, ⟨H.out.tl, FV.out, HAT.out.c, by show v.n + 1 = (v.l ++ [r.x]).length; rw [List.length_append, HAT.out.n]; rfl, HAT.out.m⟩⟩
  · rw [he]
    clear hkt hk he
    rcases hs with rfl | ⟨rfl, rfl⟩
    all_goals
      go_enter Try.func66, Try.ntmps66
      go_wp2_with (first
        | ((with_reducible show wpList _ _ _ (⟨_, .box _ _, _, _, _, _⟩ :: _) _ _); refine boxS (by rfl) (by rfl) H (by assumption) ?_; clear H; intro gq W hq H; clear hq; try simp only [Act.put, pS1, pS2, pS3])
        | fail)
      refine region_q (by kernel_rfl) (by kernel_rfl) H (fun hne => ?_)
      have W2 : Hid (∀ V, Sep Try.prog w0 V ((gq, reA r, 42) :: (g, keA v, 73) :: L) (N2 ++ (N1 ++ M)) → Calls Try.prog 86 #[.slice v.a v.n v.c, .agg (itA r.x)] V fun e w' => e = .returned (.int .i64 E) ∧ Below V.heap.size V w') := fun V hS => WM.out V hS.tl
      repeat (first
        | go_big_quiet_skip
        | (go_big_quiet_want; first | (refine qF (by rfl) (by decide +kernel) (by repeat constructor) (by first | exact reA_0 _ | exact reA_1 _ | exact reA_2 _ | exact reA_3 _ | exact r113.out | exact keA_0 _ | exact keA_1 _ | exact keA_2 _ | exact keA_3 _) ?_; try simp only [Act.put, pS1, pS2, pS3]; go_big_quiet_on) | (refine qU (by rfl) (by decide +kernel) (by repeat constructor) SXI FXI.out ?_; try simp only [Act.put, pS1, pS2, pS3]; go_big_quiet_on) | (go_big_quiet_op; first | go_big_quiet_on | (apply Exists.intro; refine ⟨fun n => (by first | exact q_call (fun V HS => W2.out V HS) n), ?_⟩; go_big_quiet_on))))
      refine wpQuiet_nil ?_
      rintro _ ⟨n, rfl⟩
      clear hne
      have HQ := hidk n.2
      clear H
      have H := HQ
      clear HQ
      obtain ⟨W, hW⟩ : ∃ W, W = n.1 := ⟨_, rfl⟩
      rw [← hW] at H ⊢
      clear hW n
      try simp only [Act.put, pS1, pS2, pS3]
      go_wp2
    all_goals (go_ret; exact ⟨v, N1, N2, rfl, (fun h => by cases h), ⟨H.out.tl, HAT.out.i, HAT.out.c, HAT.out.n, HAT.out.m⟩⟩)
set_option maxHeartbeats 16000000 in
theorem kcClaim {w0 W : World} {g : Nat} {L : List Vr} {M N1 N2 : List (Nat × Obj)} {v : KeV} {r : ReV} (C : HistoryC) (hat : WkAt w0 W g L M v N1 N2) (hv : OkKe v.t) (hr : RIn w0 r) (hl : r.n ≤ 250) (hR : rightKe v.t = true) (hM : mayR r.t = true) (hk : r.k = 4) : Calls Try.prog 68 #[.pointer (some ⟨g, 0, none⟩), .agg (reA r)] W fun x W' => ∃ v' N1 N2, x = .returned (.int .i64 (kpE v.t r.t)) ∧ (kpE v.t r.t = 0 → v'.t = kpX v.t r.t) ∧ WkAt w0 W' g L M v' N1 N2 := by
  have ok := hr.ok
  have FX : Hid (Fit Try.prog 42 (reA r)) := reA_fit r ok
  have FXM := hidk (clA_fit r.m hr.m.d).s
  have SXM := hidk (reA_m r ok)
  have r113 := hidk (reA_113 r ok)
  have HAT := hidk hat
  have hkt : r.t.k = 4 := hk
  have H := hidk hat.s
  obtain ⟨E, hE⟩ : ∃ x, recE v.k r.m = x := ⟨_, rfl⟩
  obtain ⟨b2, hb2⟩ : ∃ b, (E != (0 : Int)) = b := ⟨_, rfl⟩
  have WR : Hid (∀ V, Has V N2 → Calls Try.prog 87 #[.slice v.b v.m v.d, .agg (clA r.m)] V fun x V' => ∃ a2 c2, x = .returned (.tuple #[.slice a2 (recL v.k r.m).length c2, .int .i64 E]) ∧ V'.ownsRow V.heap.size 36 36 (.slice a2 (recL v.k r.m).length c2) (recL v.k r.m).length (clcL (recL v.k r.m)) ∧ Below V.heap.size V V') := fun V hV => by
    obtain ⟨a0, c0, e, h1, h2, _⟩ := CReads.own (HAT.out.c.2 V hV) (fun x hx => (hv.c x hx).d)
    cases e
    refine (kRecord_any _ _ _ _ r.m (clA r.m) (hidk rfl) hr.m.d V h1 h2 (by have hvm : v.k.length ≤ 250 := hv.m; have := HAT.out.m; omega)).mono ?_
    rintro x V' ⟨u, rfl, ho, hb⟩
    obtain ⟨a2, c2, rfl, _, _, _⟩ := CReads.own ho (fun x hx => by
      by_cases q : recE v.k r.m = 0
      · rcases (recL_mem q x).1 hx with e | e
        · rw [e]; exact hr.m.d
        · exact (hv.c x e).d
      · have e : recL v.k r.m = [] := by unfold recL; rw [if_neg q]
        rw [e] at hx; cases hx)
    exact ⟨a2, c2, by rw [hE], ho, hb⟩
  have hW : kpW v.t r.t = if E ≠ 0 then 140 else 0 := by unfold kpW; rw [if_neg (by rw [hkt]; decide), if_neg (by rw [hkt]; decide), if_neg (by rw [hkt]; decide), ← hE]; rfl
  have hWE : b2 = false ∧ kpE v.t r.t = 0 ∨ b2 = true ∧ kpE v.t r.t = 140 := by
    by_cases q2 : E = 0
    · exact .inl ⟨by rw [← hb2, q2]; rfl, kpE_5k hR hM (by rw [hW, if_neg (by rw [q2]; simp)]) (by rw [hkt]; decide)⟩
    · have hW' : kpW v.t r.t = 140 := by rw [hW, if_pos q2]
      exact .inr ⟨by rw [← hb2, bne_iff_ne]; exact q2, by rw [kpE_3k hR hM (by rw [hW']; decide), hW']⟩
  have HX : Hid (∀ a n c, KeV.t { v with b := a, m := n, d := c, k := recL v.k r.m } = kpX v.t r.t) := fun a n c => by unfold kpX; rw [if_neg (by rw [hkt]; decide), if_neg (by rw [hkt]; decide), if_neg (by rw [hkt]; decide)]; rfl
  clear hat hr hv hM hR hE C hW hkt hk
  rcases hWE with ⟨rfl, he⟩ | ⟨rfl, he⟩
  · rw [he]
    clear he
    go_enter Try.func68, Try.ntmps68
    go_wp2_with (first
      | ((with_reducible show wpList _ _ _ (⟨_, .box _ _, _, _, _, _⟩ :: _) _ _); refine boxS (by rfl) (by rfl) H (by assumption) ?_; clear H; intro gq W hq H; clear hq; try simp only [Act.put, pS1, pS2, pS3])
      | fail)
    refine region_mix [(gq, reA r, 42), (g, keA v, 73)] [] [7] [] [0, 1, 2, 3, 4, 5, 6, 7, 8, 9, 10, 11, 12] (by kernel_rfl) (by kernel_rfl) (by kernel_rfl) (by rfl) H (.cons_cons _ (.cons_cons _ (List.nil_sublist _))) (List.nil_sublist _) ?_
    clear H
    intro W hne H
    repeat (first
      | (refine mix_skip (by rfl) (by rfl) ?_; try simp only [Act.put, pS1, pS2, pS3])
      | (refine mix_q (by rfl) (by rfl) (by rfl) (by rfl) ?_; intro K hK; first | (refine qF (by rfl) (by decide +kernel) (by repeat constructor) (by first | exact reA_0 _ | exact reA_1 _ | exact reA_2 _ | exact reA_3 _ | exact r113.out | exact keA_0 _ | exact keA_1 _ | exact keA_2 _ | exact keA_3 _) ?_; try simp only [Act.put, pS1, pS2, pS3]; go_big_quiet_on) | (refine qU (by rfl) (by decide +kernel) (by repeat constructor) SXM FXM.out ?_; try simp only [Act.put, pS1, pS2, pS3]; go_big_quiet_on) | (go_big_quiet_op; go_big_quiet_on))
      | (refine mix_e (by rfl) (by rfl) (by rfl) ?_; go_wp2_with (first | ((with_reducible refine (WR.out _ H.out.has.l).mono ?_); rintro _ V ⟨a2, c2, rfl, ho, hb⟩; obtain ⟨N3, HQ, F3⟩ := H.out.own hb ho; clear H ho hb; have H := HQ; clear HQ; try simp only [Act.put, pS1, pS2, pS3]) | fail); first | refine mix_fin (by rfl) ?_ | refine mix_fin2 ?_ | refine mix_on (by exact H.out.sub (.cons_cons _ (.cons_cons _ (List.nil_sublist _))) (List.nil_sublist _)) ?_ | refine mix_on2 (by exact H.out.sub (.cons_cons _ (.cons_cons _ (List.nil_sublist _))) (List.nil_sublist _)) ?_))
    refine mix_end ?_
    clear hne
    go_wp2_with (first
      | ((with_reducible show wpList _ _ _ (⟨_, .store _ _ _, _, _, _, _⟩ :: _) _ _); refine putS (by rfl) (by rfl) (by rfl) (by exact ⟨rfl, rfl⟩) (by kernel_rfl) H (by repeat first | apply uH | apply uT) (by rw [keA_size]; omega) (by first | exact keA_s3 _ _ _ _ (recL v.k r.m)) ?_; clear H; intro W H; try simp only [Act.put, pS1, pS2, pS3])
      | fail)
    go_ret
    exact ⟨_, _, _, rfl, fun _ => HX.out _ _ _, ⟨(H.out.sub (List.sublist_cons_self ..) (List.Sublist.append (List.Sublist.refl _) (List.sublist_append_right ..))), HAT.out.i, F3.out, HAT.out.n, rfl⟩⟩
  · rw [he]
    clear he
    go_enter Try.func68, Try.ntmps68
    go_wp2_with (first
      | ((with_reducible show wpList _ _ _ (⟨_, .box _ _, _, _, _, _⟩ :: _) _ _); refine boxS (by rfl) (by rfl) H (by assumption) ?_; clear H; intro gq W hq H; clear hq; try simp only [Act.put, pS1, pS2, pS3])
      | fail)
    refine region_mix [(gq, reA r, 42), (g, keA v, 73)] [] [7] [] [0, 1, 2, 3, 4, 5, 6, 7, 8, 9, 10, 11, 12] (by kernel_rfl) (by kernel_rfl) (by kernel_rfl) (by rfl) H (.cons_cons _ (.cons_cons _ (List.nil_sublist _))) (List.nil_sublist _) ?_
    clear H
    intro W hne H
    repeat (first
      | (refine mix_skip (by rfl) (by rfl) ?_; try simp only [Act.put, pS1, pS2, pS3])
      | (refine mix_q (by rfl) (by rfl) (by rfl) (by rfl) ?_; intro K hK; first | (refine qF (by rfl) (by decide +kernel) (by repeat constructor) (by first | exact reA_0 _ | exact reA_1 _ | exact reA_2 _ | exact reA_3 _ | exact r113.out | exact keA_0 _ | exact keA_1 _ | exact keA_2 _ | exact keA_3 _) ?_; try simp only [Act.put, pS1, pS2, pS3]; go_big_quiet_on) | (refine qU (by rfl) (by decide +kernel) (by repeat constructor) SXM FXM.out ?_; try simp only [Act.put, pS1, pS2, pS3]; go_big_quiet_on) | (go_big_quiet_op; go_big_quiet_on))
      | (refine mix_e (by rfl) (by rfl) (by rfl) ?_; go_wp2_with (first | ((with_reducible refine (WR.out _ H.out.has.l).mono ?_); rintro _ V ⟨a2, c2, rfl, ho, hb⟩; obtain ⟨N3, HQ, F3⟩ := H.out.own hb ho; clear H ho hb; have H := HQ; clear HQ; try simp only [Act.put, pS1, pS2, pS3]) | fail); first | refine mix_fin (by rfl) ?_ | refine mix_fin2 ?_ | refine mix_on (by exact H.out.sub (.cons_cons _ (.cons_cons _ (List.nil_sublist _))) (List.nil_sublist _)) ?_ | refine mix_on2 (by exact H.out.sub (.cons_cons _ (.cons_cons _ (List.nil_sublist _))) (List.nil_sublist _)) ?_))
    refine mix_end ?_
    clear hne
    go_wp2
    go_ret
    exact ⟨v, N1, N2, rfl, (fun h => by cases h), ⟨H.out.sub (List.sublist_cons_self ..) (List.sublist_append_right ..), HAT.out.i, HAT.out.c, HAT.out.n, HAT.out.m⟩⟩
theorem icL_take (l : List ItT) (h : ∀ x ∈ l, OkE x.e) (f : Nat) (hf : f ≤ l.length) : icL (l.take f) = (icL l).take (f * 110) := by
  have e : icL l = icL (l.take f) ++ icL (l.drop f) := by rw [← icL_append, List.take_append_drop]
  have hl : (icL (l.take f)).length = f * 110 := by rw [icL_length _ (fun x hx => h x (List.mem_of_mem_take hx)), List.length_take, Nat.min_eq_left hf]
  have : (icL l).take (f * 110) = icL (l.take f) := by rw [e, List.take_append_of_le_length (by omega), List.take_of_length_le (by omega)]
  exact this.symm
theorem cut_items {P0 : List (Nat × Obj) → World → Prop} {B : Nat} {a : Option Addr} {n c : Nat} {l : List ItT} {N : List (Nat × Obj)} (F : OwnIn (.slice a n c) N ∧ ∀ W, Has W N → W.ownsRow B 40 110 (.slice a n c) n (icL l)) {W0 : World} (h0 : Has W0 N) (okl : ∀ x ∈ l, OkE x.e) (hn : n = l.length) (f : Nat) (hf : f ≤ n) :
    (∀ W, (Instr.sliceAt 22 (.slice a n c) none (some (.int .i64 f)) none).run Try.prog W = .ok (.slice a f c) W) ∧ (OwnIn (.slice a f c) N ∧ ∀ W, Has W N → W.ownsRow B 40 110 (.slice a f c) f (icL (l.take f))) := by
  have hl := icL_take l okl f (by omega)
  have hlen : (icL (l.take f)).length = f * 110 := by rw [icL_length _ (fun x hx => okl x (List.mem_of_mem_take hx)), List.length_take, Nat.min_eq_left (by omega)]
  refine ⟨fun W => ?_, fun g hg => ?_, fun W hW => ⟨hlen, ?_⟩⟩
  · rcases (F.2 W0 h0).2 with ⟨e, h⟩ | ⟨g, cap, cur, e, hb, hg, hc, hm, hs, ht⟩
    · cases e
      obtain rfl : f = 0 := by omega
      exact slice_items_none W
    · cases e
      exact slice_items W g 0 n c f (by omega)
  · have : (Value.slice a f c).ownBlock = (Value.slice a n c).ownBlock := by cases a <;> rfl
    exact F.1 g (by rw [← this]; exact hg)
  · rcases (F.2 W hW).2 with ⟨e, h⟩ | ⟨g, cap, cur, e, hb, hg, hc, hm, hs, ht⟩
    · cases e
      obtain rfl : f = 0 := by omega
      exact .inl ⟨rfl, rfl⟩
    · cases e
      refine .inr ⟨g, c, cur, rfl, hb, hg, by omega, hm, hs, ?_⟩
      rw [hl, ← ht, List.take_take, Nat.min_eq_left (by omega)]
theorem kpX_3k {v1 v : KeV} {r : ReV} {a : Option Addr} {n c j : Nat} (hk : r.k = 3) (et : v1.t = v.t) (hf : r.f = j) : KeV.t { v1 with e := r.e, g := r.e, a := a, n := n, c := c, l := v.l.take j ++ r.l } = kpX v.t r.t := by
  have h4 : v1.k = v.k := congrArg KeT.k et
  have hkt : r.t.k = 3 := hk
  unfold kpX
  rw [if_neg (by rw [hkt]; decide), if_neg (by rw [hkt]; decide), if_pos hkt]
  show KeT.mk r.e r.e (v.l.take j ++ r.l) v1.k = KeT.mk r.e r.e (v.l.take r.f.toNat ++ r.l) v.k
  rw [hf, h4, Int.toNat_natCast]
set_option maxHeartbeats 32000000 in
theorem kcAdopt {w0 W : World} {g : Nat} {L : List Vr} {M N1 N2 : List (Nat × Obj)} {v : KeV} {r : ReV} (C : HistoryC) (hat : WkAt w0 W g L M v N1 N2) (hv : OkKe v.t) (hr : RIn w0 r) (hl : r.n ≤ 250) (hR : rightKe v.t = true) (hM : mayR r.t = true) (hk : r.k = 3) : Calls Try.prog 67 #[.pointer (some ⟨g, 0, none⟩), .agg (reA r)] W fun x W' => ∃ v' N1 N2, x = .returned (.int .i64 (kpE v.t r.t)) ∧ (kpE v.t r.t = 0 → v'.t = kpX v.t r.t) ∧ WkAt w0 W' g L M v' N1 N2 := by
  have ok := hr.ok
  have FX : Hid (Fit Try.prog 42 (reA r)) := reA_fit r ok
  have r113 := hidk (reA_113 r ok)
  have HAT := hidk hat
  have hkt : r.t.k = 3 := hk
  have hvl : v.l.length ≤ 250 := hv.n
  have hvm : v.k.length ≤ 250 := hv.m
  have hmx : v.n ≤ 9223372036854775807 := by have := hat.n; omega
  have HKE := hidk keA_fit
  have H := hidk hat.s
  have hf0 : 0 ≤ r.f := by
    have h2 := hM
    unfold mayR at h2
    rw [if_neg (by rw [hkt]; decide), if_neg (by rw [hkt]; decide), if_pos hkt] at h2
    simp only [Bool.and_eq_true, decide_eq_true_eq] at h2
    exact h2.1.1.2.1
  by_cases hlt : r.e < v.e
  · have hd : decide (r.e < v.e) = true := decide_eq_true hlt
    have hW : kpW v.t r.t = 140 := by unfold kpW; rw [if_neg (by rw [hkt]; decide), if_neg (by rw [hkt]; decide), if_pos hkt]; exact if_pos hlt
    have HE : Hid (kpE v.t r.t = 140) := by show _ = _; rw [kpE_3k hR hM (by rw [hW]; decide), hW]
    clear hat hr hv hM hkt hW hk hlt hf0 C
    rw [HE.out]
    go_enter Try.func67, Try.ntmps67
    go_wp2_with (first
      | ((with_reducible show wpList _ _ _ (⟨_, .box _ _, _, _, _, _⟩ :: _) _ _); refine boxS (by rfl) (by rfl) H (by assumption) ?_; clear H; intro gq W hq H; clear hq; try simp only [Act.put, pS1, pS2, pS3])
      | fail)
    refine region_q (by kernel_rfl) (by kernel_rfl) H (fun hne => ?_)
    repeat (first
      | go_big_quiet_skip
      | (go_big_quiet_want; first | (refine qF (by rfl) (by decide +kernel) (by repeat constructor) (by first | exact r2.out | exact reA_2 _ | exact reA_0 _ | exact reA_1 _ | exact r2.out | exact r113.out | exact keA_0 _ | exact keA_1 _ | exact keA_2 _ | exact keA_3 _) ?_; try simp only [Act.put, pS1, pS2, pS3]; go_big_quiet_on) | (go_big_quiet_op; first | go_big_quiet_on)))
    refine wpQuiet_nil ?_
    rintro _ ⟨n, rfl⟩
    clear hne
    have HQ := hidk n.2
    clear H
    have H := HQ
    clear HQ
    obtain ⟨W, hW⟩ : ∃ W, W = n.1 := ⟨_, rfl⟩
    rw [← hW] at H ⊢
    clear hW n
    try simp only [Act.put, pS1, pS2, pS3]
    go_wp2
    go_ret
    exact ⟨v, N1, N2, rfl, (fun h => by cases h), ⟨H.out.tl, HAT.out.i, HAT.out.c, HAT.out.n, HAT.out.m⟩⟩
  have hd : decide (r.e < v.e) = false := decide_eq_false hlt
  by_cases hgt : (v.n : Int) < r.f
  · have hd2 : decide ((v.n : Int) < r.f) = true := decide_eq_true hgt
    have hW : kpW v.t r.t = 141 := by
      unfold kpW
      rw [if_neg (by rw [hkt]; decide), if_neg (by rw [hkt]; decide), if_pos hkt]
      refine (if_neg hlt).trans (if_pos ?_)
      have h1 := hat.n
      rw [h1] at hgt
      exact hgt
    have HE : Hid (kpE v.t r.t = 141) := by show _ = _; rw [kpE_3k hR hM (by rw [hW]; decide), hW]
    clear hat hr hv hM hkt hW hk hlt hgt hf0 C
    rw [HE.out]
    go_enter Try.func67, Try.ntmps67
    go_wp2_with (first
      | ((with_reducible show wpList _ _ _ (⟨_, .box _ _, _, _, _, _⟩ :: _) _ _); refine boxS (by rfl) (by rfl) H (by assumption) ?_; clear H; intro gq W hq H; clear hq; try simp only [Act.put, pS1, pS2, pS3])
      | fail)
    refine region_q (by kernel_rfl) (by kernel_rfl) H (fun hne => ?_)
    repeat (first
      | go_big_quiet_skip
      | (go_big_quiet_want; first | (refine qF (by rfl) (by decide +kernel) (by repeat constructor) (by first | exact r2.out | exact reA_2 _ | exact reA_0 _ | exact reA_1 _ | exact r2.out | exact r113.out | exact keA_0 _ | exact keA_1 _ | exact keA_2 _ | exact keA_3 _) ?_; try simp only [Act.put, pS1, pS2, pS3]; go_big_quiet_on) | (go_big_quiet_op; first | go_big_quiet_on)))
    refine wpQuiet_nil ?_
    rintro _ ⟨n, rfl⟩
    clear hne
    have HQ := hidk n.2
    clear H
    have H := HQ
    clear HQ
    obtain ⟨W, hW⟩ : ∃ W, W = n.1 := ⟨_, rfl⟩
    rw [← hW] at H ⊢
    clear hW n
    try simp only [Act.put, pS1, pS2, pS3]
    go_wp2
    refine region_q (by kernel_rfl) (by kernel_rfl) H (fun hne => ?_)
    repeat (first
      | go_big_quiet_skip
      | (go_big_quiet_want; first | (refine qF (by rfl) (by decide +kernel) (by repeat constructor) (by first | exact r2.out | exact reA_2 _ | exact reA_0 _ | exact reA_1 _ | exact r2.out | exact r113.out | exact keA_0 _ | exact keA_1 _ | exact keA_2 _ | exact keA_3 _) ?_; try simp only [Act.put, pS1, pS2, pS3]; go_big_quiet_on) | (go_big_quiet_op; first | go_big_quiet_on)))
    refine wpQuiet_nil ?_
    rintro _ ⟨n, rfl⟩
    clear hne
    have HQ := hidk n.2
    clear H
    have H := HQ
    clear HQ
    obtain ⟨W, hW⟩ : ∃ W, W = n.1 := ⟨_, rfl⟩
    rw [← hW] at H ⊢
    clear hW n
    try simp only [Act.put, pS1, pS2, pS3]
    go_wp2
    go_ret
    exact ⟨v, N1, N2, rfl, (fun h => by cases h), ⟨H.out.tl, HAT.out.i, HAT.out.c, HAT.out.n, HAT.out.m⟩⟩
  have hd2 : decide ((v.n : Int) < r.f) = false := decide_eq_false hgt
  obtain ⟨f, Hf⟩ : ∃ f : Nat, Hid (r.f = f) := ⟨r.f.toNat, hidk (by omega)⟩
  have hfn : f ≤ v.n := by have := Hf.out; omega
  have okv : ∀ x ∈ v.l, OkE x.e := fun x hx => (hv.i x hx).e.ok
  obtain ⟨hsl, hcut⟩ := cut_items (P0 := fun _ _ => True) hat.i hat.s.has.r.l okv hat.n f hfn
  have FC := hidk hcut
  have hW : kpW v.t r.t = 0 := by
    unfold kpW
    rw [if_neg (by rw [hkt]; decide), if_neg (by rw [hkt]; decide), if_pos hkt]
    refine (if_neg hlt).trans (if_neg ?_)
    have h1 := hat.n
    rw [h1] at hgt
    exact hgt
  obtain ⟨bR, hbR⟩ : ∃ b, rightKe (kpX v.t r.t) = b := ⟨_, rfl⟩
  have HE : Hid (kpE v.t r.t = if bR = false then 140 else 0) := by show _ = _; rw [kpE_4k hR hM hW, hbR]
  have HX : Hid (∀ a n c, KeV.t { v with e := r.e, g := r.e, a := a, n := n, c := c, l := v.l.take f ++ r.l } = kpX v.t r.t) := fun a n c => kpX_3k hk rfl Hf.out
  have OKL : Hid (∀ x ∈ v.l.take f ++ r.l, OkE x.e) := fun x hx => by
    rcases List.mem_append.1 hx with q | q
    · exact okv x (List.mem_of_mem_take q)
    · exact hr.i.rd.ok x q
  have INL : Hid (∀ x ∈ v.l.take f ++ r.l, InI x) := fun x hx => by
    rcases List.mem_append.1 hx with q | q
    · exact hv.i x (List.mem_of_mem_take q)
    · exact hr.i.its x q
  have HN : Hid (f + r.n ≤ 3000) := by show _ ≤ _; have := hat.n; omega
  have HRN : Hid (r.l.length = r.n) := hr.i.rd.ln
  have RN : Hid (r.a = none → r.c = 0) := hr.i.nil
  have RD := hidk hr.i.rd
  have HCS : Hid (∀ x ∈ v.k, OkC x) := fun x hx => (hv.c x hx).d
  have HFL : Hid (f ≤ v.l.length) := by show _ ≤ _; have := hat.n; omega
  have WI : Hid (∀ (a2 : Option Addr) (c2 : Nat) (N1x : List (Nat × Obj)), (∀ W, Has W N1x → W.ownsRow w0.heap.size 40 110 (.slice a2 (f + r.n) c2) (f + r.n) (icL (v.l.take f ++ r.l))) → ∀ V, Has V N1x → Has V N2 → Calls Try.prog 32 #[.agg (keA { v with e := r.e, g := r.e, a := a2, n := f + r.n, c := c2, l := v.l.take f ++ r.l })] V fun x w' => x = .returned (.bool bR) ∧ Below V.heap.size V w') := fun a2 c2 N1x h1 V hV1 hV2 => by
    obtain ⟨a3, c3, e3, h3, h4, _⟩ := IReads.own (h1 V hV1) OKL.out
    cases e3
    obtain ⟨a5, c5, e5, h5, h6, _⟩ := CReads.own (HAT.out.c.2 V hV2) HCS.out
    cases e5
    rw [← hbR, ← HX.out a2 (f + r.n) c2]
    exact kcRight_in C _ _ _ _ _ _ _ _ _ _ _ V ⟨h3, h4, INL.out, by have := HN.out; omega⟩ h5 (by have := HAT.out.m; omega) (keA_fit _) (keA_0 _) (keA_1 _) (keA_2 _) (keA_3 _)
  have fSz : Hid ((f : Int) = r.f) := Hf.out.symm
  rw [Hf.out] at hd2
  have rfF : Hid (ReV.mk r.k r.e f r.x r.a r.n r.c r.l r.m = r) := by show _ = _; rw [← Hf.out]
  have r2 := hidk (reA_2 r)
  rw [Hf.out] at r2
  clear hat hr hv hM hR hkt hW hk hlt hgt hf0 hcut okv C hvm hbR
  obtain ⟨E, hE⟩ : ∃ E, kpE v.t r.t = E := ⟨_, rfl⟩
  rw [hE] at HE ⊢
  clear hE
  go_enter Try.func67, Try.ntmps67
  go_wp2_with (first
    | ((with_reducible show wpList _ _ _ (⟨_, .box _ _, _, _, _, _⟩ :: _) _ _); refine boxS (by rfl) (by rfl) H (by assumption) ?_; clear H; intro gq W hq H; clear hq; try simp only [Act.put, pS1, pS2, pS3])
    | fail)
  refine region_q (by kernel_rfl) (by kernel_rfl) H (fun hne => ?_)
  repeat (first
    | go_big_quiet_skip
    | (go_big_quiet_want; first | (refine qF (by rfl) (by decide +kernel) (by repeat constructor) (by first | exact r2.out | exact reA_2 _ | exact reA_0 _ | exact reA_1 _ | exact r2.out | exact r113.out | exact keA_0 _ | exact keA_1 _ | exact keA_2 _ | exact keA_3 _) ?_; try simp only [Act.put, pS1, pS2, pS3]; go_big_quiet_on) | (go_big_quiet_op; first | go_big_quiet_on)))
  refine wpQuiet_nil ?_
  rintro _ ⟨n, rfl⟩
  clear hne
  have HQ := hidk n.2
  clear H
  have H := HQ
  clear HQ
  obtain ⟨W, hW⟩ : ∃ W, W = n.1 := ⟨_, rfl⟩
  rw [← hW] at H ⊢
  clear hW n
  try simp only [Act.put, pS1, pS2, pS3]
  go_wp2
  refine region_q (by kernel_rfl) (by kernel_rfl) H (fun hne => ?_)
  repeat (first
    | go_big_quiet_skip
    | (go_big_quiet_want; first | (refine qF (by rfl) (by decide +kernel) (by repeat constructor) (by first | exact r2.out | exact reA_2 _ | exact reA_0 _ | exact reA_1 _ | exact r2.out | exact r113.out | exact keA_0 _ | exact keA_1 _ | exact keA_2 _ | exact keA_3 _) ?_; try simp only [Act.put, pS1, pS2, pS3]; go_big_quiet_on) | (go_big_quiet_op; first | go_big_quiet_on)))
  refine wpQuiet_nil ?_
  rintro _ ⟨n, rfl⟩
  clear hne
  have HQ := hidk n.2
  clear H
  have H := HQ
  clear HQ
  obtain ⟨W, hW⟩ : ∃ W, W = n.1 := ⟨_, rfl⟩
  rw [← hW] at H ⊢
  clear hW n
  try simp only [Act.put, pS1, pS2, pS3]
  go_wp2
  refine region_mix [(gq, reA r, 42)] [] [9, 13] [] [0, 1, 2, 3, 4, 5, 6, 7, 8, 9, 10, 11, 12, 13] (by kernel_rfl) (by kernel_rfl) (by kernel_rfl) (by rfl) H (.cons_cons _ (List.nil_sublist _)) (List.nil_sublist _) ?_
  clear H
  intro W hne H
  repeat (first
    | (refine mix_skip (by rfl) (by rfl) ?_; try simp only [Act.put, pS1, pS2, pS3])
    | (refine mix_q (by rfl) (by rfl) (by rfl) (by rfl) ?_; intro K hK; first | (refine qF (by rfl) (by decide +kernel) (by repeat constructor) (by first | exact r2.out | exact reA_2 _ | exact reA_0 _ | exact reA_1 _ | exact r2.out | exact r113.out | exact keA_0 _ | exact keA_1 _ | exact keA_2 _ | exact keA_3 _) ?_; try simp only [Act.put, pS1, pS2, pS3]; go_big_quiet_on) | (go_big_quiet_op; go_big_quiet_on))
    | (refine mix_e (by rfl) (by rfl) (by rfl) ?_; go_wp2_with (first | ((with_reducible show wpList _ _ _ (⟨_, .store _ _ _, _, _, _, _⟩ :: _) _ _); refine putS (D := keA { v with e := r.e }) (by rfl) (by rfl) (by rfl) (by exact ⟨rfl, rfl⟩) (by kernel_rfl) H (by repeat first | apply uH | apply uT) (by rw [keA_size]; omega) (by exact keA_s0 v r.e) ?_; clear H; intro W H; try simp only [Act.put, pS1, pS2, pS3]) | ((with_reducible show wpList _ _ _ (⟨_, .store _ _ _, _, _, _, _⟩ :: _) _ _); refine putS (D := keA { v with e := r.e, g := r.e }) (by rfl) (by rfl) (by rfl) (by exact ⟨rfl, rfl⟩) (by kernel_rfl) H (by repeat first | apply uH | apply uT) (by rw [keA_size]; omega) (by exact keA_s1 { v with e := r.e } r.e) ?_; clear H; intro W H; try simp only [Act.put, pS1, pS2, pS3]) | fail); first | refine mix_fin (by rfl) ?_ | refine mix_fin2 ?_ | refine mix_on (by exact H.out.sub (.cons_cons _ (List.nil_sublist _)) (List.nil_sublist _)) ?_ | refine mix_on2 (by exact H.out.sub (.cons_cons _ (List.nil_sublist _)) (List.nil_sublist _)) ?_))
  refine mix_end ?_
  clear hne
  go_wp2
  refine region_mix [(gq, reA r, 42), (g, keA { v with e := r.e, g := r.e }, 73)] [] [11, 15] [15] [0, 1, 2, 3, 4, 5, 6, 7, 8, 9, 10, 11, 12, 13, 14, 15] (by kernel_rfl) (by kernel_rfl) (by kernel_rfl) (by rfl) H (.cons_cons _ (.cons_cons _ (List.nil_sublist _))) (List.nil_sublist _) ?_
  clear H
  intro W hne H
  obtain ⟨a2, c2, V, N1x, har, HV, FV⟩ := app_items (A := N2) (N := N1) H.out FC.out (RD.out.keep H.out.b) RN.out OKL.out HN.out
  repeat (first
    | (refine mix_skip (by rfl) (by rfl) ?_; try simp only [Act.put, pS1, pS2, pS3])
    | (refine mix_q (by rfl) (by rfl) (by rfl) (by rfl) ?_; intro K hK; first | (refine qF (by rfl) (by decide +kernel) (by repeat constructor) (by first | exact r2.out | exact reA_2 _ | exact reA_0 _ | exact reA_1 _ | exact r2.out | exact r113.out | exact keA_0 _ | exact keA_1 _ | exact keA_2 _ | exact keA_3 _) ?_; try simp only [Act.put, pS1, pS2, pS3]; go_big_quiet_on) | (go_big_quiet_op; go_big_quiet_on))
    | (refine mix_e (by rfl) (by rfl) (by rfl) ?_; go_wp2_with (first | ((with_reducible show wpList _ _ _ (⟨_, .call _, _, _, _, _⟩ :: _) _ _); refine appS (by rfl) (by rfl) (by rfl) har ?_; clear H; have H := HV; clear HV; try simp only [Act.put, pS1, pS2, pS3]) | ((with_reducible show wpList _ _ _ (⟨_, .store _ _ _, _, _, _, _⟩ :: _) _ _); refine putS (D := keA { v with e := r.e, g := r.e, a := a2, n := f + r.n, c := c2, l := v.l.take f ++ r.l }) (by rfl) (by rfl) (by rfl) (by exact ⟨rfl, rfl⟩) (by kernel_rfl) H (by repeat first | apply uH | apply uT) (by rw [keA_size]; omega) (by exact keA_s2 { v with e := r.e, g := r.e } a2 (f + r.n) c2 (v.l.take f ++ r.l)) ?_; clear H; intro W H; try simp only [Act.put, pS1, pS2, pS3]) | fail); first | refine mix_fin (by rfl) ?_ | refine mix_fin2 ?_ | refine mix_on (by exact H.out.sub (.cons_cons _ (.cons_cons _ (List.nil_sublist _))) (List.nil_sublist _)) ?_ | refine mix_on2 (by exact H.out.sub (.cons_cons _ (.cons_cons _ (List.nil_sublist _))) (List.nil_sublist _)) ?_))
  refine mix_end ?_
  clear hne
  cases bR
  all_goals
    go_wp2_with (first
      | ((with_reducible show wpList _ _ _ (⟨_, .load _ _, _, _, _, _⟩ :: _) _ _); refine subS (by rfl) (by rfl) (by decide +kernel) H (by repeat constructor) ((show Hid _ from subA_self _)) (keA_fit _).s ?_; try simp only [Act.put, pS1, pS2, pS3])
      | ((with_reducible refine (WI.out _ _ _ FV.out.2 _ H.out.has.r.l H.out.has.l).mono ?_); rintro _ V ⟨rfl, hb⟩; replace H := hidk (H.out.call hb); clear hb; try simp only [Act.put, pS1, pS2, pS3])
      | fail)
  · obtain rfl : E = 140 := HE.out
    go_ret
    exact ⟨rfl, _, (fun h => by cases h), _, _, ⟨H.out.tl, FV.out, HAT.out.c, by show f + r.n = (v.l.take f ++ r.l).length; rw [List.length_append, List.length_take, HRN.out, Nat.min_eq_left HFL.out], HAT.out.m⟩⟩
  · obtain rfl : E = 0 := HE.out
    go_ret
    exact ⟨_, _, _, rfl, fun _ => HX.out _ _ _, ⟨H.out.tl, FV.out, HAT.out.c, by show f + r.n = (v.l.take f ++ r.l).length; rw [List.length_append, List.length_take, HRN.out, Nat.min_eq_left HFL.out], HAT.out.m⟩⟩
set_option maxHeartbeats 4000000 in
theorem kcMeth1 (k : Int) (q : (k == (1 : Int)) = true) (w : World) : Calls Try.prog 42 #[.int .i64 k] w fun e w' => e = .returned (.func (.func 65) #[] #[]) ∧ w = w' := by
  go_enter Try.func42, Try.ntmps42
  go_wp2
  go_ret
  exact ⟨rfl, rfl⟩
set_option maxHeartbeats 4000000 in
theorem kcMeth2 (k : Int) (q1 : (k == (1 : Int)) = false) (q : (k == (2 : Int)) = true) (w : World) : Calls Try.prog 42 #[.int .i64 k] w fun e w' => e = .returned (.func (.func 66) #[] #[]) ∧ w = w' := by
  go_enter Try.func42, Try.ntmps42
  go_wp2
  go_ret
  exact ⟨rfl, rfl⟩
set_option maxHeartbeats 4000000 in
theorem kcMeth3 (k : Int) (q1 : (k == (1 : Int)) = false) (q2 : (k == (2 : Int)) = false) (q : (k == (3 : Int)) = true) (w : World) : Calls Try.prog 42 #[.int .i64 k] w fun e w' => e = .returned (.func (.func 67) #[] #[]) ∧ w = w' := by
  go_enter Try.func42, Try.ntmps42
  go_wp2
  go_ret
  exact ⟨rfl, rfl⟩
set_option maxHeartbeats 4000000 in
theorem kcMeth4 (k : Int) (q1 : (k == (1 : Int)) = false) (q2 : (k == (2 : Int)) = false) (q3 : (k == (3 : Int)) = false) (w : World) : Calls Try.prog 42 #[.int .i64 k] w fun e w' => e = .returned (.func (.func 68) #[] #[]) ∧ w = w' := by
  go_enter Try.func42, Try.ntmps42
  go_wp2
  go_ret
  exact ⟨rfl, rfl⟩
theorem kcMeth (C : HistoryC) {w0 : World} {v : KeV} {r : ReV} (ok : OkKe v.t) (hr : RIn w0 r) (hl : r.n ≤ 250) (hR : rightKe v.t = true) (hM : mayR r.t = true) : ∃ fn : FuncId, (∀ (caps : Array Value) W, (callFunc fn caps).run Try.prog W = .ok (.enter fn caps) W) ∧ (∀ W, Calls Try.prog 42 #[.int .i64 r.k] W fun e w' => e = .returned (.func (.func fn) #[] #[]) ∧ W = w') ∧ (∀ (W : World) (g : Nat) (L : List Vr) (M N1 N2 : List (Nat × Obj)) (u : KeV), u.t = v.t → WkAt w0 W g L M u N1 N2 → Calls Try.prog fn #[.pointer (some ⟨g, 0, none⟩), .agg (reA r)] W fun x W' => ∃ v' N1 N2, x = .returned (.int .i64 (kpE v.t r.t)) ∧ (kpE v.t r.t = 0 → v'.t = kpX v.t r.t) ∧ WkAt w0 W' g L M v' N1 N2) := by
  have n1 : ∀ j : Int, r.k ≠ j → (r.k == j) = false := fun j h => by rw [beq_eq_false_iff_ne]; exact h
  have y1 : ∀ j : Int, r.k = j → (r.k == j) = true := fun j h => by rw [beq_iff_eq]; exact h
  rcases mayR_kinds hM with q | q | q | q
  · refine ⟨65, (fun caps W => by simp [go_sem]), fun W => kcMeth1 r.k (y1 1 q) W, fun W g L M N1 N2 u hu hat => ?_⟩
    have := kcPromise C hat (by rw [hu]; exact ok) hr hl (by rw [hu]; exact hR) hM q
    rw [hu] at this
    exact this
  · refine ⟨66, (fun caps W => by simp [go_sem]), fun W => kcMeth2 r.k (n1 1 (by have : r.k = 2 := q; omega)) (y1 2 q) W, fun W g L M N1 N2 u hu hat => ?_⟩
    have := kcLay C hat (by rw [hu]; exact ok) hr hl (by rw [hu]; exact hR) hM q
    rw [hu] at this
    exact this
  · refine ⟨67, (fun caps W => by simp [go_sem]), fun W => kcMeth3 r.k (n1 1 (by have : r.k = 3 := q; omega)) (n1 2 (by have : r.k = 3 := q; omega)) (y1 3 q) W, fun W g L M N1 N2 u hu hat => ?_⟩
    have := kcAdopt C hat (by rw [hu]; exact ok) hr hl (by rw [hu]; exact hR) hM q
    rw [hu] at this
    exact this
  · refine ⟨68, (fun caps W => by simp [go_sem]), fun W => kcMeth4 r.k (n1 1 (by have : r.k = 4 := q; omega)) (n1 2 (by have : r.k = 4 := q; omega)) (n1 3 (by have : r.k = 4 := q; omega)) W, fun W g L M N1 N2 u hu hat => ?_⟩
    have := kcClaim C hat (by rw [hu]; exact ok) hr hl (by rw [hu]; exact hR) hM q
    rw [hu] at this
    exact this
theorem FoldC.no {t : KeT} {r : ReT} {w w' : World} {E : Int} (h : kpE t r = E) (h0 : E ≠ 0) (hb : Below w.heap.size w w') : FoldC t r w (.returned (.tuple #[.agg (keA zeroKv), .int .i64 E])) w' :=
  ⟨zeroKv, by rw [h], (kp_no (by rw [h]; exact h0)).symm, ⟨.inl ⟨rfl, rfl⟩, .inl ⟨rfl, rfl⟩, rfl, rfl⟩, hb⟩
set_option maxHeartbeats 32000000 in
theorem kcFold_any (C : HistoryC) (D : EntryC) (v : KeV) (r : ReV) (w : World) (h : KIn w v) (hr : RIn w r) (hl : r.n ≤ 250) : Calls Try.prog 20 #[.agg (keA v), .agg (reA r)] w (FoldC v.t r.t w) := by
  have FX : Hid (Fit Try.prog 25 (keA v)) := keA_fit v
  have FR : Hid (Fit Try.prog 42 (reA r)) := reA_fit r hr.ok
  have FK := hidk keA_fit
  have FW := hidk keA_fitW
  have BZ : Hid (Try.prog.built 25 [] = some (keA zeroKv)) := builtK_0
  have okk : OkKe v.t := ⟨h.i.its, h.cs, by have := h.i.rd.ln; have := h.il; show v.l.length ≤ 250; omega, by have := h.c.ln; have := h.cl; show v.k.length ≤ 250; omega, h.e, h.g⟩
  obtain ⟨b1, h1⟩ : ∃ b, rightKe v.t = b := ⟨_, rfl⟩
  obtain ⟨b2, h2⟩ : ∃ b, mayR r.t = b := ⟨_, rfl⟩
  have W1 : Hid (∀ W, Below w.heap.size w W → Calls Try.prog 32 #[.agg (keA v)] W fun e w' => e = .returned (.bool b1) ∧ Below W.heap.size W w') := fun W hb => by rw [← h1]; exact kcRight_any C v W (h.keep hb)
  have WR : Hid (∀ W, Below w.heap.size w W → Calls Try.prog 40 #[.agg (reA r)] W fun e w' => e = .returned (.bool b2) ∧ Below W.heap.size W w') := fun W hb => by rw [← h2]; exact kcMay_any C D r W (hr.keep hb)
  have W2 : Hid (∀ W, Below w.heap.size w W → Calls Try.prog 41 #[.agg (keA v)] W fun x w' => ∃ v', x = .returned (.agg (keA v')) ∧ v'.t = v.t ∧ v'.n = v'.l.length ∧ v'.m = v'.k.length ∧ OwnKe w' W.heap.size v' ∧ Below W.heap.size W w') := fun W hb => kcWork_any v W (h.keep hb)
  have r0 := hidk (reA_0 r)
  have RO := hidk hr.ok
  have H := hidk (Sep.start Try.prog w)
  cases b1
  · have hE : kpE v.t r.t = 1 := by unfold kpE; rw [if_pos h1]
    have HNO : Hid (∀ w', Below w.heap.size w w' → FoldC v.t r.t w (.returned (.tuple #[.agg (keA zeroKv), .int .i64 1])) w') := fun w' hb => FoldC.no hE (by decide) hb
    clear h hr okk h1 h2 hE C D
    go_enter Try.func20, Try.ntmps20
    go_wp2_with (first
      | ((with_reducible show wpList _ _ _ (⟨some 3, .box _ _, _, _, _, _⟩ :: _) _ _); refine boxS (by rfl) (by rfl) H (by assumption) ?_; clear H; intro gr W hq H; clear hq; try simp only [Act.put, pS1, pS2, pS3])
      | ((with_reducible show wpList _ _ _ (⟨_, .box _ _, _, _, _, _⟩ :: _) _ _); refine boxS (by rfl) (by rfl) H (by assumption) ?_; clear H; intro gq W hq H; clear hq; try simp only [Act.put, pS1, pS2, pS3])
      | ((with_reducible show wpList _ _ _ (⟨_, .alloc _, _, _, _, _⟩ :: _) _ _); refine newS (by rfl) (by kernel_rfl) H ?_; clear H; intro gq W hq H; clear hq; try simp only [Act.put, pS1, pS2, pS3])
      | fail)
    refine scope_fwd 0 (by rfl) ?_
    go_wp2_with (first
      | ((with_reducible show wpList _ _ _ (⟨_, .alloc _, _, _, _, _⟩ :: _) _ _); refine newS (by rfl) (by kernel_rfl) H ?_; clear H; intro gq W hq H; clear hq; try simp only [Act.put, pS1, pS2, pS3])
      | ((with_reducible show wpList _ _ _ (⟨_, .load _ _, _, _, _, _⟩ :: _) _ _); refine rdS (by rfl) (by rfl) (by decide +kernel) H (by repeat constructor) ?_; try simp only [Act.put, pS1, pS2, pS3])
      | ((with_reducible show wpList _ _ _ (⟨_, .build _ _, _, _, _, _⟩ :: _) _ _); refine bldS (by rfl) (by with_reducible exact BZ.out) (by rfl) ?_; try simp only [Act.put, pS1, pS2, pS3])
      | ((with_reducible show wpList _ _ _ (⟨_, .store _ _ _, _, _, _, _⟩ :: _) _ _); refine setS (by rfl) (by rfl) (by rfl) H (by first | exact FK.out _ | exact FW.out _) (by repeat first | apply uH | apply uT) ?_; clear H; intro W H; try simp only [Act.put, pS1, pS2, pS3])
      | ((with_reducible refine (W1.out _ H.out.b).mono ?_); rintro _ W ⟨rfl, hb⟩; replace H := hidk (H.out.call hb); clear hb; try simp only [Act.put, pS1, pS2, pS3])
      | ((with_reducible refine (WR.out _ H.out.b).mono ?_); rintro _ W ⟨rfl, hb⟩; replace H := hidk (H.out.call hb); clear hb; try simp only [Act.put, pS1, pS2, pS3])
      | fail)
    go_step3
    go_wp2_with (first
      | ((with_reducible show wpList _ _ _ (⟨_, .alloc _, _, _, _, _⟩ :: _) _ _); refine newS (by rfl) (by kernel_rfl) H ?_; clear H; intro gq W hq H; clear hq; try simp only [Act.put, pS1, pS2, pS3])
      | ((with_reducible show wpList _ _ _ (⟨_, .load _ _, _, _, _, _⟩ :: _) _ _); refine rdS (by rfl) (by rfl) (by decide +kernel) H (by repeat constructor) ?_; try simp only [Act.put, pS1, pS2, pS3])
      | ((with_reducible show wpList _ _ _ (⟨_, .build _ _, _, _, _, _⟩ :: _) _ _); refine bldS (by rfl) (by with_reducible exact BZ.out) (by rfl) ?_; try simp only [Act.put, pS1, pS2, pS3])
      | ((with_reducible show wpList _ _ _ (⟨_, .store _ _ _, _, _, _, _⟩ :: _) _ _); refine setS (by rfl) (by rfl) (by rfl) H (by first | exact FK.out _ | exact FW.out _) (by repeat first | apply uH | apply uT) ?_; clear H; intro W H; try simp only [Act.put, pS1, pS2, pS3])
      | ((with_reducible refine (W1.out _ H.out.b).mono ?_); rintro _ W ⟨rfl, hb⟩; replace H := hidk (H.out.call hb); clear hb; try simp only [Act.put, pS1, pS2, pS3])
      | ((with_reducible refine (WR.out _ H.out.b).mono ?_); rintro _ W ⟨rfl, hb⟩; replace H := hidk (H.out.call hb); clear hb; try simp only [Act.put, pS1, pS2, pS3])
      | fail)
    refine jump_to ?_
    go_wp2_with (first
      | ((with_reducible show wpList _ _ _ (⟨_, .alloc _, _, _, _, _⟩ :: _) _ _); refine newS (by rfl) (by kernel_rfl) H ?_; clear H; intro gq W hq H; clear hq; try simp only [Act.put, pS1, pS2, pS3])
      | ((with_reducible show wpList _ _ _ (⟨_, .load _ _, _, _, _, _⟩ :: _) _ _); refine rdS (by rfl) (by rfl) (by decide +kernel) H (by repeat constructor) ?_; try simp only [Act.put, pS1, pS2, pS3])
      | ((with_reducible show wpList _ _ _ (⟨_, .build _ _, _, _, _, _⟩ :: _) _ _); refine bldS (by rfl) (by with_reducible exact BZ.out) (by rfl) ?_; try simp only [Act.put, pS1, pS2, pS3])
      | ((with_reducible show wpList _ _ _ (⟨_, .store _ _ _, _, _, _, _⟩ :: _) _ _); refine setS (by rfl) (by rfl) (by rfl) H (by first | exact FK.out _ | exact FW.out _) (by repeat first | apply uH | apply uT) ?_; clear H; intro W H; try simp only [Act.put, pS1, pS2, pS3])
      | ((with_reducible refine (W1.out _ H.out.b).mono ?_); rintro _ W ⟨rfl, hb⟩; replace H := hidk (H.out.call hb); clear hb; try simp only [Act.put, pS1, pS2, pS3])
      | ((with_reducible refine (WR.out _ H.out.b).mono ?_); rintro _ W ⟨rfl, hb⟩; replace H := hidk (H.out.call hb); clear hb; try simp only [Act.put, pS1, pS2, pS3])
      | fail)
    rw [Exit.noGoto_ret]
    refine bodyPost_ret (resS2 rfl rfl H (by repeat constructor) (by kernel_rfl)) rfl ?_
    exact HNO.out _ H.out.b
  have hE0 : mayR r.t = false → kpE v.t r.t = 140 := fun q => by unfold kpE; rw [if_neg (by rw [h1]; decide), if_pos q]
  cases b2
  · have HNO : Hid (∀ w', Below w.heap.size w w' → FoldC v.t r.t w (.returned (.tuple #[.agg (keA zeroKv), .int .i64 140])) w') := fun w' hb => FoldC.no (hE0 h2) (by decide) hb
    clear h hr okk h1 h2 C D hE0
    go_enter Try.func20, Try.ntmps20
    go_wp2_with (first
      | ((with_reducible show wpList _ _ _ (⟨some 3, .box _ _, _, _, _, _⟩ :: _) _ _); refine boxS (by rfl) (by rfl) H (by assumption) ?_; clear H; intro gr W hq H; clear hq; try simp only [Act.put, pS1, pS2, pS3])
      | ((with_reducible show wpList _ _ _ (⟨_, .box _ _, _, _, _, _⟩ :: _) _ _); refine boxS (by rfl) (by rfl) H (by assumption) ?_; clear H; intro gq W hq H; clear hq; try simp only [Act.put, pS1, pS2, pS3])
      | ((with_reducible show wpList _ _ _ (⟨_, .alloc _, _, _, _, _⟩ :: _) _ _); refine newS (by rfl) (by kernel_rfl) H ?_; clear H; intro gq W hq H; clear hq; try simp only [Act.put, pS1, pS2, pS3])
      | fail)
    refine scope_fwd 0 (by rfl) ?_
    go_wp2_with (first
      | ((with_reducible show wpList _ _ _ (⟨_, .alloc _, _, _, _, _⟩ :: _) _ _); refine newS (by rfl) (by kernel_rfl) H ?_; clear H; intro gq W hq H; clear hq; try simp only [Act.put, pS1, pS2, pS3])
      | ((with_reducible show wpList _ _ _ (⟨_, .load _ _, _, _, _, _⟩ :: _) _ _); refine rdS (by rfl) (by rfl) (by decide +kernel) H (by repeat constructor) ?_; try simp only [Act.put, pS1, pS2, pS3])
      | ((with_reducible show wpList _ _ _ (⟨_, .build _ _, _, _, _, _⟩ :: _) _ _); refine bldS (by rfl) (by with_reducible exact BZ.out) (by rfl) ?_; try simp only [Act.put, pS1, pS2, pS3])
      | ((with_reducible show wpList _ _ _ (⟨_, .store _ _ _, _, _, _, _⟩ :: _) _ _); refine setS (by rfl) (by rfl) (by rfl) H (by first | exact FK.out _ | exact FW.out _) (by repeat first | apply uH | apply uT) ?_; clear H; intro W H; try simp only [Act.put, pS1, pS2, pS3])
      | ((with_reducible refine (W1.out _ H.out.b).mono ?_); rintro _ W ⟨rfl, hb⟩; replace H := hidk (H.out.call hb); clear hb; try simp only [Act.put, pS1, pS2, pS3])
      | ((with_reducible refine (WR.out _ H.out.b).mono ?_); rintro _ W ⟨rfl, hb⟩; replace H := hidk (H.out.call hb); clear hb; try simp only [Act.put, pS1, pS2, pS3])
      | fail)
    go_step3
    go_wp2_with (first
      | ((with_reducible show wpList _ _ _ (⟨_, .alloc _, _, _, _, _⟩ :: _) _ _); refine newS (by rfl) (by kernel_rfl) H ?_; clear H; intro gq W hq H; clear hq; try simp only [Act.put, pS1, pS2, pS3])
      | ((with_reducible show wpList _ _ _ (⟨_, .load _ _, _, _, _, _⟩ :: _) _ _); refine rdS (by rfl) (by rfl) (by decide +kernel) H (by repeat constructor) ?_; try simp only [Act.put, pS1, pS2, pS3])
      | ((with_reducible show wpList _ _ _ (⟨_, .build _ _, _, _, _, _⟩ :: _) _ _); refine bldS (by rfl) (by with_reducible exact BZ.out) (by rfl) ?_; try simp only [Act.put, pS1, pS2, pS3])
      | ((with_reducible show wpList _ _ _ (⟨_, .store _ _ _, _, _, _, _⟩ :: _) _ _); refine setS (by rfl) (by rfl) (by rfl) H (by first | exact FK.out _ | exact FW.out _) (by repeat first | apply uH | apply uT) ?_; clear H; intro W H; try simp only [Act.put, pS1, pS2, pS3])
      | ((with_reducible refine (W1.out _ H.out.b).mono ?_); rintro _ W ⟨rfl, hb⟩; replace H := hidk (H.out.call hb); clear hb; try simp only [Act.put, pS1, pS2, pS3])
      | ((with_reducible refine (WR.out _ H.out.b).mono ?_); rintro _ W ⟨rfl, hb⟩; replace H := hidk (H.out.call hb); clear hb; try simp only [Act.put, pS1, pS2, pS3])
      | fail)
    refine jump_to ?_
    go_wp2_with (first
      | ((with_reducible show wpList _ _ _ (⟨_, .alloc _, _, _, _, _⟩ :: _) _ _); refine newS (by rfl) (by kernel_rfl) H ?_; clear H; intro gq W hq H; clear hq; try simp only [Act.put, pS1, pS2, pS3])
      | ((with_reducible show wpList _ _ _ (⟨_, .load _ _, _, _, _, _⟩ :: _) _ _); refine rdS (by rfl) (by rfl) (by decide +kernel) H (by repeat constructor) ?_; try simp only [Act.put, pS1, pS2, pS3])
      | ((with_reducible show wpList _ _ _ (⟨_, .build _ _, _, _, _, _⟩ :: _) _ _); refine bldS (by rfl) (by with_reducible exact BZ.out) (by rfl) ?_; try simp only [Act.put, pS1, pS2, pS3])
      | ((with_reducible show wpList _ _ _ (⟨_, .store _ _ _, _, _, _, _⟩ :: _) _ _); refine setS (by rfl) (by rfl) (by rfl) H (by first | exact FK.out _ | exact FW.out _) (by repeat first | apply uH | apply uT) ?_; clear H; intro W H; try simp only [Act.put, pS1, pS2, pS3])
      | ((with_reducible refine (W1.out _ H.out.b).mono ?_); rintro _ W ⟨rfl, hb⟩; replace H := hidk (H.out.call hb); clear hb; try simp only [Act.put, pS1, pS2, pS3])
      | ((with_reducible refine (WR.out _ H.out.b).mono ?_); rintro _ W ⟨rfl, hb⟩; replace H := hidk (H.out.call hb); clear hb; try simp only [Act.put, pS1, pS2, pS3])
      | fail)
    rw [Exit.noGoto_ret]
    refine bodyPost_ret (resS2 rfl rfl H (by repeat constructor) (by kernel_rfl)) rfl ?_
    exact HNO.out _ H.out.b
  obtain ⟨fn, hcf, hWM, hMC⟩ := kcMeth C okk hr hl h1 h2
  have WM := hidk hWM
  have MC := hidk hMC
  obtain ⟨E, hE⟩ : ∃ E, kpE v.t r.t = E := ⟨_, rfl⟩
  obtain ⟨b3, hb3⟩ : ∃ b, (E != (0 : Int)) = b := ⟨_, rfl⟩
  have HNO : Hid (E ≠ 0 → ∀ w', Below w.heap.size w w' → FoldC v.t r.t w (.returned (.tuple #[.agg (keA zeroKv), .int .i64 E])) w') := fun q w' hb => FoldC.no hE q hb
  have HYE : Hid (∀ (v2 : KeV) w', E = 0 → v2.t = kpX v.t r.t → KOut w' w.heap.size v2 → Below w.heap.size w w' → FoldC v.t r.t w (.returned (.tuple #[.agg (keA v2), .int .i64 0])) w') := fun v2 w' q e ho hb => ⟨v2, by rw [hE, q], by rw [e]; exact (kpE_ok (hE.trans q)).2.2.2.2.symm, ho, hb⟩
  rw [hE] at MC
  clear h hr okk h1 h2 C D hE0 hWM hMC hE
  go_enter Try.func20, Try.ntmps20
  go_wp2_with (first
    | ((with_reducible show wpList _ _ _ (⟨some 3, .box _ _, _, _, _, _⟩ :: _) _ _); refine boxS (by rfl) (by rfl) H (by assumption) ?_; clear H; intro gr W hq H; clear hq; try simp only [Act.put, pS1, pS2, pS3])
    | ((with_reducible show wpList _ _ _ (⟨_, .box _ _, _, _, _, _⟩ :: _) _ _); refine boxS (by rfl) (by rfl) H (by assumption) ?_; clear H; intro gq W hq H; clear hq; try simp only [Act.put, pS1, pS2, pS3])
    | ((with_reducible show wpList _ _ _ (⟨_, .alloc _, _, _, _, _⟩ :: _) _ _); refine newS (by rfl) (by kernel_rfl) H ?_; clear H; intro gq W hq H; clear hq; try simp only [Act.put, pS1, pS2, pS3])
    | fail)
  refine scope_fwd 0 (by rfl) ?_
  go_wp2_with (first
    | ((with_reducible show wpList _ _ _ (⟨_, .alloc _, _, _, _, _⟩ :: _) _ _); refine newS (by rfl) (by kernel_rfl) H ?_; clear H; intro gq W hq H; clear hq; try simp only [Act.put, pS1, pS2, pS3])
    | ((with_reducible show wpList _ _ _ (⟨_, .load _ _, _, _, _, _⟩ :: _) _ _); refine rdS (by rfl) (by rfl) (by decide +kernel) H (by repeat constructor) ?_; try simp only [Act.put, pS1, pS2, pS3])
    | ((with_reducible show wpList _ _ _ (⟨_, .build _ _, _, _, _, _⟩ :: _) _ _); refine bldS (by rfl) (by with_reducible exact BZ.out) (by rfl) ?_; try simp only [Act.put, pS1, pS2, pS3])
    | ((with_reducible show wpList _ _ _ (⟨_, .store _ _ _, _, _, _, _⟩ :: _) _ _); refine setS (by rfl) (by rfl) (by rfl) H (by first | exact FK.out _ | exact FW.out _) (by repeat first | apply uH | apply uT) ?_; clear H; intro W H; try simp only [Act.put, pS1, pS2, pS3])
    | ((with_reducible refine (W1.out _ H.out.b).mono ?_); rintro _ W ⟨rfl, hb⟩; replace H := hidk (H.out.call hb); clear hb; try simp only [Act.put, pS1, pS2, pS3])
    | ((with_reducible refine (WR.out _ H.out.b).mono ?_); rintro _ W ⟨rfl, hb⟩; replace H := hidk (H.out.call hb); clear hb; try simp only [Act.put, pS1, pS2, pS3])
    | ((with_reducible refine (W2.out _ H.out.b).mono ?_); rintro _ V ⟨v1, rfl, et, hn1, hm1, ho, hb⟩; obtain ⟨N1, N2, HQ, F1, F2⟩ := H.out.own2 hb ho.1 ho.2 (by decide); replace hn1 := hidk hn1; replace hm1 := hidk hm1; replace et := hidk et; clear H ho hb; have H := HQ; clear HQ; try simp only [Act.put, pS1, pS2, pS3])
    | fail)
  refine region_mix [(gr, reA r, 42)] [] [2, 4] [] [0, 1, 3, 2, 4, 5] (by kernel_rfl) (by kernel_rfl) (by kernel_rfl) (by rfl) H (.cons _ (.cons _ (.cons_cons _ (List.nil_sublist _)))) (List.nil_sublist _) ?_
  clear H
  intro W hne H
  repeat (first
    | (refine mix_skip (by rfl) (by rfl) ?_; try simp only [Act.put, pS1, pS2, pS3])
    | (refine mix_q (by rfl) (by rfl) (by rfl) (by rfl) ?_; intro K hK; first | (refine qF (by rfl) (by decide +kernel) (by repeat constructor) (by first | exact reA_0 _) ?_; try simp only [Act.put, pS1, pS2, pS3]; go_big_quiet_on) | (refine qR (by rfl) (by decide +kernel) (by repeat constructor) (reA_fit r RO.out).s ?_; try simp only [Act.put, pS1, pS2, pS3]; go_big_quiet_on) | (go_big_quiet_op; go_big_quiet_on))
    | (refine mix_e (by rfl) (by rfl) (by rfl) ?_; go_wp2_with (first | ((with_reducible refine (WM.out _).mono ?_); rintro _ _ ⟨rfl, rfl⟩; try simp only [Act.put, pS1, pS2, pS3]) | (have hat1 := WkAt.mk H.out F1.out F2.out hn1.out hm1.out; (with_reducible refine (MC.out _ _ _ _ _ _ _ et.out hat1).mono ?_); clear hat1; rintro _ V ⟨v2, N3, N4, rfl, et2, hat2⟩; have HQ := hidk hat2.s; replace et2 := hidk et2; have F3 := hidk hat2.i; have F4 := hidk hat2.c; have hn2 := hidk hat2.n; have hm2 := hidk hat2.m; clear H hat2; have H := HQ; clear HQ; try simp only [Act.put, pS1, pS2, pS3]) | fail); first | refine mix_fin (by rfl) ?_ | refine mix_fin2 ?_ | refine mix_on (by exact H.out.sub (.cons _ (.cons _ (.cons_cons _ (List.nil_sublist _)))) (List.nil_sublist _)) ?_ | refine mix_on2 (by exact H.out.sub (.cons _ (.cons _ (.cons_cons _ (List.nil_sublist _)))) (List.nil_sublist _)) ?_))
  refine mix_end ?_
  clear hne
  cases b3
  · obtain rfl : E = 0 := by simpa using hb3
    go_wp2_with (first
      | ((with_reducible show wpList _ _ _ (⟨_, .build _ _, _, _, _, _⟩ :: _) _ _); refine bldS (by rfl) (by with_reducible exact BZ.out) (by rfl) ?_; try simp only [Act.put, pS1, pS2, pS3])
      | ((with_reducible show wpList _ _ _ (⟨_, .store _ _ _, _, _, _, _⟩ :: _) _ _); refine setS (by rfl) (by rfl) (by rfl) H (by first | exact FK.out _ | exact FW.out _) (by repeat first | apply uH | apply uT) ?_; clear H; intro W H; try simp only [Act.put, pS1, pS2, pS3])
      | ((with_reducible show wpList _ _ _ (⟨_, .load _ _, _, _, _, _⟩ :: _) _ _); refine subS (by rfl) (by rfl) (by decide +kernel) H (by repeat constructor) ((show Hid _ from subA_self _)) (keA_fit _).s ?_; try simp only [Act.put, pS1, pS2, pS3])
      | fail)
    rw [jump_ret]
    refine bodyPost_ret (resS2 rfl rfl H (by repeat constructor) (by kernel_rfl)) rfl ?_
    exact HYE.out _ _ (by trivial) (et2.out (by trivial)) ⟨.inr (F3.out.2 _ H.out.has.r.l), .inr (F4.out.2 _ H.out.has.l), hn2.out, hm2.out⟩ H.out.b
  · have hne : E ≠ 0 := by simpa using hb3
    go_wp2_with (first
      | ((with_reducible show wpList _ _ _ (⟨_, .build _ _, _, _, _, _⟩ :: _) _ _); refine bldS (by rfl) (by with_reducible exact BZ.out) (by rfl) ?_; try simp only [Act.put, pS1, pS2, pS3])
      | ((with_reducible show wpList _ _ _ (⟨_, .store _ _ _, _, _, _, _⟩ :: _) _ _); refine setS (by rfl) (by rfl) (by rfl) H (by first | exact FK.out _ | exact FW.out _) (by repeat first | apply uH | apply uT) ?_; clear H; intro W H; try simp only [Act.put, pS1, pS2, pS3])
      | ((with_reducible show wpList _ _ _ (⟨_, .load _ _, _, _, _, _⟩ :: _) _ _); refine subS (by rfl) (by rfl) (by decide +kernel) H (by repeat constructor) ((show Hid _ from subA_self _)) (keA_fit _).s ?_; try simp only [Act.put, pS1, pS2, pS3])
      | fail)
    go_step3
    go_wp2_with (first
      | ((with_reducible show wpList _ _ _ (⟨_, .alloc _, _, _, _, _⟩ :: _) _ _); refine newS (by rfl) (by kernel_rfl) H ?_; clear H; intro gq W hq H; clear hq; try simp only [Act.put, pS1, pS2, pS3])
      | ((with_reducible show wpList _ _ _ (⟨_, .load _ _, _, _, _, _⟩ :: _) _ _); refine rdS (by rfl) (by rfl) (by decide +kernel) H (by repeat constructor) ?_; try simp only [Act.put, pS1, pS2, pS3])
      | ((with_reducible show wpList _ _ _ (⟨_, .build _ _, _, _, _, _⟩ :: _) _ _); refine bldS (by rfl) (by with_reducible exact BZ.out) (by rfl) ?_; try simp only [Act.put, pS1, pS2, pS3])
      | ((with_reducible show wpList _ _ _ (⟨_, .store _ _ _, _, _, _, _⟩ :: _) _ _); refine setS (by rfl) (by rfl) (by rfl) H (by first | exact FK.out _ | exact FW.out _) (by repeat first | apply uH | apply uT) ?_; clear H; intro W H; try simp only [Act.put, pS1, pS2, pS3])
      | ((with_reducible refine (W1.out _ H.out.b).mono ?_); rintro _ W ⟨rfl, hb⟩; replace H := hidk (H.out.call hb); clear hb; try simp only [Act.put, pS1, pS2, pS3])
      | ((with_reducible refine (WR.out _ H.out.b).mono ?_); rintro _ W ⟨rfl, hb⟩; replace H := hidk (H.out.call hb); clear hb; try simp only [Act.put, pS1, pS2, pS3])
      | fail)
    refine jump_to ?_
    go_wp2_with (first
      | ((with_reducible show wpList _ _ _ (⟨_, .alloc _, _, _, _, _⟩ :: _) _ _); refine newS (by rfl) (by kernel_rfl) H ?_; clear H; intro gq W hq H; clear hq; try simp only [Act.put, pS1, pS2, pS3])
      | ((with_reducible show wpList _ _ _ (⟨_, .load _ _, _, _, _, _⟩ :: _) _ _); refine rdS (by rfl) (by rfl) (by decide +kernel) H (by repeat constructor) ?_; try simp only [Act.put, pS1, pS2, pS3])
      | ((with_reducible show wpList _ _ _ (⟨_, .build _ _, _, _, _, _⟩ :: _) _ _); refine bldS (by rfl) (by with_reducible exact BZ.out) (by rfl) ?_; try simp only [Act.put, pS1, pS2, pS3])
      | ((with_reducible show wpList _ _ _ (⟨_, .store _ _ _, _, _, _, _⟩ :: _) _ _); refine setS (by rfl) (by rfl) (by rfl) H (by first | exact FK.out _ | exact FW.out _) (by repeat first | apply uH | apply uT) ?_; clear H; intro W H; try simp only [Act.put, pS1, pS2, pS3])
      | ((with_reducible refine (W1.out _ H.out.b).mono ?_); rintro _ W ⟨rfl, hb⟩; replace H := hidk (H.out.call hb); clear hb; try simp only [Act.put, pS1, pS2, pS3])
      | ((with_reducible refine (WR.out _ H.out.b).mono ?_); rintro _ W ⟨rfl, hb⟩; replace H := hidk (H.out.call hb); clear hb; try simp only [Act.put, pS1, pS2, pS3])
      | fail)
    rw [Exit.noGoto_ret]
    refine bodyPost_ret (resS2 rfl rfl H (by repeat constructor) (by kernel_rfl)) rfl ?_
    exact HNO.out hne _ H.out.b
end Go.Proofs.Ytjpmmbmhkpgjcaa
/- What the calls of package keep answer, at this commit of the code. -/
namespace Go.Proofs.Ytjpmmbmhkpgjcaa
open Go.RowKit Nums Sums
set_option maxRecDepth 100000
set_option linter.unusedVariables false
theorem keepC : KeepC where
  new := fun w => kcNew_any w
  check := fun v w h => kcCheck_any historyC v w h
  leader := fun v w h => kcLeader_any historyC v w h
  fold := fun v r w h hr hl => kcFold_any historyC entryC v r w h hr hl
end Go.Proofs.Ytjpmmbmhkpgjcaa
