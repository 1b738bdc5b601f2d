/- Texts of our own that the row of AnchorsAdmits leans on, part 34. -/
import Derived.Test.YtjalebncfnekiaaGreatDoorAnchorsAdmitsJ0
import Derived.Test.YtjalebncfnekiaaGreatDoorAnchorsAdmitsJ20
import Derived.Test.YtjalebncfnekiaaGreatDoorAnchorsAdmitsJ24
import Derived.Test.YtjalebncfnekiaaGreatDoorAnchorsAdmitsJ25
import Derived.Test.YtjalebncfnekiaaGreatDoorAnchorsAdmitsJ27
import Derived.Test.YtjalebncfnekiaaGreatDoorAnchorsAdmitsJ30
import Derived.Test.YtjalebncfnekiaaGreatDoorAnchorsAdmitsJ33
/- HistoryHeads. -/
namespace Go.Proofs.YtjalebncfnekiaaGreatDoor
open Go.RowKit Nums Sums
set_option linter.unusedVariables false
set_option linter.unusedSimpArgs false
set_option maxRecDepth 100000
theorem inL_of {w : World} {a : Option Addr} {len cap : Nat} {l : List ItT} (h : IReads w a len cap l) (hc0 : a = none → cap = 0) (hm : ∀ x ∈ l, CmI x) (hb : bigL l = false) : InL w a len cap l := by
  obtain ⟨h1, h2⟩ := bigL_false hb
  exact ⟨h, hc0, fun x hx => (hm x hx).in (by have := h2 x hx; omega), by have := h.ln; omega⟩
structure HeldG (w : World) (L : List ItT) (len1 : Nat) (aa : Option Addr) (ca : Nat) (X : Array Value) (V : World) : Prop where
  b : Below w.heap.size w V
  o : IReads V aa len1 ca L
  g : V.heap[w.heap.size]? = some (.cells X 47 (0, 0))
theorem HeldG.keep {w : World} {L : List ItT} {len1 : Nat} {aa : Option Addr} {ca : Nat} {X : Array Value} {V V' : World} (h : HeldG w L len1 aa ca X V) (hb : Below V.heap.size V V') : HeldG w L len1 aa ca X V' :=
  ⟨h.b.trans (hb.mono h.b.size), h.o.keep hb, (hb.block _ (heap_lt h.g)).trans h.g⟩
structure HeldD (w : World) (K A B : Array Value) (ao : Option Addr) (len co : Nat) (l : List ItT) (po : Option Addr) (pl pco : Nat) (proof : List (List UInt8)) (V : World) : Prop where
  t : HeldT w K A B V
  i : IReads V ao len co l
  p : LReads V po pl pco proof
theorem HeldD.keep {w : World} {K A B : Array Value} {ao : Option Addr} {len co : Nat} {l : List ItT} {po : Option Addr} {pl pco : Nat} {proof : List (List UInt8)} {V V' : World} (h : HeldD w K A B ao len co l po pl pco proof V) (hb : Below V.heap.size V V') : HeldD w K A B ao len co l po pl pco proof V' :=
  ⟨h.t.keep hb, h.i.keep hb, h.p.keep hb⟩
theorem HeldD.drew {w : World} {K A B : Array Value} {ao : Option Addr} {len co : Nat} {l : List ItT} {po : Option Addr} {pl pco : Nat} {proof : List (List UInt8)} {V : World} (h : HeldD w K A B ao len co l po pl pco proof V) : HeldD w K A B ao len co l po pl pco proof V.drew := h.keep (Below.refl _ _).drew
theorem row_at {V : World} {g : Nat} {t : TypeId} {X : Array Value} (h : V.heap[g]? = some (.cells X t (0, 0))) : V.rangeAt g 0 X.toList := by
  have := range_row (l := X.toList) (W := V) (g := g) (t := t) (fr := (0, 0)) (by simpa using h)
  exact this
set_option maxHeartbeats 16000000 in
theorem anchorsAdmits_of (hd : HeadC) (an : AnchorsC) (master : List UInt8) (l : List ItT) (s t : SgT) (proof : List (List UInt8)) (w : World) (K A B : Array Value) (a : Option Addr) (len cap : Nat) (m : Int) (p : Option Addr) (pl pc : Nat) (HK : Hid (K = (cellsOf master).toArray)) (HA : Hid (A = (scells s).toArray)) (HB : Hid (B = (scells t).toArray)) (hml : master.length = 32) (hs : InS s) (ht : InS t) (h : IReads w a len cap l) (hc0 : a = none → cap = 0) (hm : ∀ x ∈ l, CmI x) (im : In64 m) (hp : LReads w p pl pc proof) (hT : TabH w) (hC : Table 0 w) :
    Calls Tryz.prog 3 #[.agg K, .slice a len cap, .agg A, .int .i64 m, .slice p pl pc, .agg B] w fun x w' => x = .returned (.bool true) ∧ Below w.heap.size w w' := by
  have H0 := hidk (heldT w K A B)
  have HSK : Hid ((Tryz.prog.info? 23).map (·.size) = some K.size) := by show _ = _; rw [sizeY, HK.out]; simp [cellsOf_length, hml]
  have HSA : Hid ((Tryz.prog.info? 29).map (·.size) = some A.size) := by show _ = _; rw [sizeS, HA.out]; simp [scells_length _ hs.h.d hs.g]
  have HSB : Hid ((Tryz.prog.info? 29).map (·.size) = some B.size) := by show _ = _; rw [sizeS, HB.out]; simp [scells_length _ ht.h.d ht.g]
  have BG : Hid (∀ W, Below w.heap.size w W → Calls Tryz.prog 4 #[.slice a len cap] W fun x w' => x = .returned (.bool (bigL l)) ∧ W = w') := fun W hb => refBig_any a len cap l W (h.keep hb) (fun x hx => (hm x hx).e.t)
  obtain ⟨b, Hb⟩ : ∃ b, Hid (bigL l = b) := ⟨_, hidk rfl⟩
  rw [Hb.out] at BG
  cases b
  · have hin := inL_of h hc0 hm Hb.out
    have hle := (bigL_false Hb.out).1
    have hln := h.ln
    by_cases hpn : 100 < pl
    · have dp : decide ((100 : Int) < (pl : Int)) = true := by rw [decide_eq_true_eq]; omega
      clear hd an HK HA HB hml hs ht h hc0 hm im hp hT hC Hb hin
      go_enter Tryz.func3, Tryz.ntmps3
      go_wp2_with fail
      refine (BG.out _ H0.out.b).mono ?_
      rintro x w1 ⟨rfl, rfl⟩
      go_wp2
      go_ret
      exact ⟨rfl, H0.out.b⟩
    · have dp : decide ((100 : Int) < (pl : Int)) = false := by rw [decide_eq_false_iff_not]; omega
      obtain ⟨z, Hz⟩ : ∃ z, Hid (admE master l s m proof = z) := ⟨_, hidk rfl⟩
      obtain ⟨q, Hq⟩ : ∃ q, Hid (apB master s t = q) := ⟨_, hidk rfl⟩
      have AD : Hid (∀ W, Below w.heap.size w W → Calls Tryz.prog 8 #[] W fun x w' => x = .returned (.bool true) ∧ Below W.heap.size W w') := fun W hb => admits_true hd an W (hT.keep hb)
      have A1 : Hid (∀ W, Below w.heap.size w W → Calls Tryz.prog 7 #[.agg K, .slice a len cap, .agg A, .int .i64 m, .slice p pl pc] W fun x w' => x = .returned (.int .i64 z) ∧ Below W.heap.size W w') := fun W hb => by rw [← Hz.out]; exact an.adm master a len cap l s m p pl pc proof W K A HK HA hml (hin.keep hb) hs im (hp.keep hb) (hT.keep hb)
      have A2 : Hid (∀ W ao co po pco, Below w.heap.size w W → IReads W ao len co l → LReads W po pl pco proof → Calls Tryz.prog 9 #[.agg K, .slice ao len co, .agg A, .int .i64 m, .slice po pl pco] W fun x w' => x = .returned (.int .i64 z) ∧ Below W.heap.size W w') := fun W ao co po pco hb hi hl => by rw [← Hz.out]; exact refAdmit_any master ao len co l s m po pl pco proof W K A HK HA hml hi (by omega) hs im hl (hC.keep hb)
      have P1 : Hid (∀ W, Below w.heap.size w W → Calls Tryz.prog 10 #[.agg K, .agg A, .agg B] W fun x w' => x = .returned (.bool q) ∧ Below W.heap.size W w') := fun W hb => by rw [← Hq.out]; exact an.apart master s t W K A B HK HA HB hml hs ht (hT.keep hb)
      have P2 : Hid (∀ W, Below w.heap.size w W → Calls Tryz.prog 11 #[.agg K, .agg A, .agg B] W fun x w' => x = .returned (.bool q) ∧ Below W.heap.size W w') := fun W hb => by rw [← Hq.out]; exact refApart_any master s t W K A B HK HA HB hml hs ht (hC.keep hb)
      have OW : Hid (∀ W, Below w.heap.size w W → Calls Tryz.prog 5 #[.slice a len cap] W fun x w' => ∃ ao co, x = .returned (.slice ao len co) ∧ IReads w' ao len co l ∧ Below W.heap.size W w') := fun W hb => by
        refine (refOwn_any a len cap l W (h.keep hb) hc0 (by omega)).mono ?_
        rintro x w' ⟨v, rfl, ho, hbw⟩
        obtain ⟨ao, co, rfl, hr, _, _⟩ := IReads.own ho h.ok
        exact ⟨ao, co, rfl, hr, hbw⟩
      have KO : Hid (∀ W, Below w.heap.size w W → Calls Tryz.prog 6 #[.slice p pl pc] W fun e w' => ∃ x cx, e = .returned (.slice x pl cx) ∧ LReads w' x pl cx proof ∧ Below W.heap.size W w') := fun W hb => own_reads p pl pc proof W (hp.keep hb) (by omega)
      have SM : Hid (∀ W ao co, Below w.heap.size w W → IReads W ao len co l → Calls Tryz.prog 12 #[.slice a len cap, .slice ao len co] W fun x w' => x = .returned (.bool true) ∧ Below W.heap.size W w') := fun W ao co hb hi => refSame_any a ao len cap co l W (h.keep hb) hi
      have DG : Hid (∀ W x cx, Below w.heap.size w W → LReads W x pl cx proof → Calls Tryz.prog 13 #[.slice p pl pc, .slice x pl cx] W fun x w' => x = .returned (.bool true) ∧ Below W.heap.size W w') := fun W x cx hb hx => same_digs p x pl pc cx proof W (hp.keep hb) hx
      clear hd an HK HA HB hml hs ht h hc0 hm im hp hT hC Hb hin Hz Hq
      go_enter Tryz.func3, Tryz.ntmps3
      go_wp2_with fail
      refine (BG.out _ H0.out.b).mono ?_
      rintro x w1 ⟨rfl, rfl⟩
      clear BG
      go_wp2_with fail
      refine (OW.out _ H0.out.b).mono ?_
      rintro x v1 ⟨ao, co, rfl, hi1, hb1⟩
      have H1 := hidk (H0.out.keep hb1)
      have HI1 := hidk hi1
      clear hi1 hb1 H0 OW
      go_wp2_with fail
      refine (KO.out _ H1.out.b).mono ?_
      rintro x v2 ⟨po, pco, rfl, hp2, hb2⟩
      have H2 : Hid (HeldD w K A B ao len co l po pl pco proof v2) := ⟨H1.out.keep hb2, HI1.out.keep hb2, hp2⟩
      clear hp2 hb2 H1 HI1 KO
      go_wp2_with (first
        | ((with_reducible show aD 27 _ _ _ _ _ _ _ _ _ _ _); refine wpList_load_row_w (by rfl) 23 (.tmp 6) rfl w.heap.size rfl 23 K (0, 0) _ H2.out.t.k Tryz.underlying23 rfl HSK.out ?_; try simp only [Act.put, pS1, pS2, pS3])
        | ((with_reducible show aD 29 _ _ _ _ _ _ _ _ _ _ _); refine wpList_load_row_w (by rfl) 29 (.tmp 8) rfl (w.heap.size + 1) rfl 29 A (0, 0) _ H2.out.t.a Tryz.underlying29 rfl HSA.out ?_; try simp only [Act.put, pS1, pS2, pS3])
        | fail)
      refine (A1.out _ H2.out.t.b).mono ?_
      rintro x v3 ⟨rfl, hb3⟩
      have H3 := hidk (H2.out.keep hb3)
      clear hb3 H2 A1
      go_wp2_with fail
      refine wp_region_held_drew (S := (HeldD w K A B ao len co l po pl pco proof)) (by kernel_rfl) H3.out.drew (fun hHeld => ?_)
      refine wpAnyH_ready (rs := [0]) (by kernel_rfl) (by simp) ?_
      refine (AllReadyH.cons (o := { dst := some 33, op := .call { callee := .value (.func 8), args := #[], argTypes := #[] }, type := 4, pos := "law.go:57", after := #[], guard := none }) rfl (fun K hK => ?_) AllReadyH.nil)
      go_simp
      refine (AD.out _ hHeld.t.b).mono ?_
      rintro x w0 ⟨rfl, hb0⟩
      go_wp2_with fail
      refine hK.out _ _ (hHeld.keep hb0) (fun hHeld => ?_)
      clear hK K
      try simp only [Act.put, pS1, pS2, pS3]
      refine zX 1 (.bool true) rfl hHeld ?_
      try simp only [Act.put, pS1, pS2, pS3]
      refine zX 2 (.int .i64 z) rfl hHeld ?_
      try simp only [Act.put, pS1, pS2, pS3]
      refine zW 3 (.agg K) rfl (yieldsIf_mid (by rfl) 23 (.tmp 6) rfl w.heap.size 0 rfl K _ (fun V hv => row_at hv.t.k) Tryz.underlying23 rfl HSK.out) hHeld ?_
      try simp only [Act.put, pS1, pS2, pS3]
      refine zX 4 (.slice ao len co) rfl hHeld ?_
      try simp only [Act.put, pS1, pS2, pS3]
      refine zW 5 (.agg A) rfl (yieldsIf_mid (by rfl) 29 (.tmp 8) rfl (w.heap.size + 1) 0 rfl A _ (fun V hv => row_at hv.t.a) Tryz.underlying29 rfl HSA.out) hHeld ?_
      try simp only [Act.put, pS1, pS2, pS3]
      refine zX 6 (.int .i64 m) rfl hHeld ?_
      try simp only [Act.put, pS1, pS2, pS3]
      refine zX 7 (.slice po pl pco) rfl hHeld ?_
      try simp only [Act.put, pS1, pS2, pS3]
      refine wpAnyH_ready (rs := [8]) (by kernel_rfl) (by simp) ?_
      refine (AllReadyH.cons (o := { dst := some 41, op := .call { callee := .value (.func 9), args := #[.tmp 36, .tmp 37, .tmp 38, .tmp 39, .tmp 40], argTypes := #[23, 24, 29, 3, 30] }, type := 34, pos := "law.go:57", after := #[zD 3, zD 4, zD 5, zD 6, zD 7, zC 1, zG 1], guard := some (1, true) }) rfl (fun K hK => ?_) AllReadyH.nil)
      go_simp
      refine (A2.out _ _ _ _ _ hHeld.t.b hHeld.i hHeld.p).mono ?_
      rintro x w8 ⟨rfl, hb8⟩
      go_wp2_with fail
      refine hK.out _ _ (hHeld.keep hb8) (fun hHeld => ?_)
      clear hK K
      try simp only [Act.put, pS1, pS2, pS3]
      refine zX 9 (.bool true) rfl hHeld ?_
      try simp only [Act.put, pS1, pS2, pS3]
      refine zX 10 (.bool true) rfl hHeld ?_
      try simp only [Act.put, pS1, pS2, pS3]
      refine zX 11 (.bool true) rfl hHeld ?_
      try simp only [Act.put, pS1, pS2, pS3]
      refine zW 12 (.agg K) rfl (yieldsIf_mid (by rfl) 23 (.tmp 6) rfl w.heap.size 0 rfl K _ (fun V hv => row_at hv.t.k) Tryz.underlying23 rfl HSK.out) hHeld ?_
      try simp only [Act.put, pS1, pS2, pS3]
      refine zW 13 (.agg A) rfl (yieldsIf_mid (by rfl) 29 (.tmp 8) rfl (w.heap.size + 1) 0 rfl A _ (fun V hv => row_at hv.t.a) Tryz.underlying29 rfl HSA.out) hHeld ?_
      try simp only [Act.put, pS1, pS2, pS3]
      refine zW 14 (.agg B) rfl (yieldsIf_mid (by rfl) 29 (.tmp 11) rfl (w.heap.size + 1 + 1) 0 rfl B _ (fun V hv => row_at hv.t.c) Tryz.underlying29 rfl HSB.out) hHeld ?_
      try simp only [Act.put, pS1, pS2, pS3]
      refine zW 16 (.agg K) rfl (yieldsIf_mid (by rfl) 23 (.tmp 6) rfl w.heap.size 0 rfl K _ (fun V hv => row_at hv.t.k) Tryz.underlying23 rfl HSK.out) hHeld ?_
      try simp only [Act.put, pS1, pS2, pS3]
      refine zW 17 (.agg A) rfl (yieldsIf_mid (by rfl) 29 (.tmp 8) rfl (w.heap.size + 1) 0 rfl A _ (fun V hv => row_at hv.t.a) Tryz.underlying29 rfl HSA.out) hHeld ?_
      try simp only [Act.put, pS1, pS2, pS3]
      refine zW 18 (.agg B) rfl (yieldsIf_mid (by rfl) 29 (.tmp 11) rfl (w.heap.size + 1 + 1) 0 rfl B _ (fun V hv => row_at hv.t.c) Tryz.underlying29 rfl HSB.out) hHeld ?_
      try simp only [Act.put, pS1, pS2, pS3]
      refine wpAnyH_ready (rs := [15]) (by kernel_rfl) (by simp) ?_
      refine (AllReadyH.cons (o := { dst := some 48, op := .call { callee := .value (.func 10), args := #[.tmp 45, .tmp 46, .tmp 47], argTypes := #[23, 29, 29] }, type := 4, pos := "law.go:57", after := #[zD 12, zD 13, zD 14, zC 11, zG 11], guard := some (11, true) }) rfl (fun K hK => ?_) AllReadyH.nil)
      go_simp
      refine (P1.out _ hHeld.t.b).mono ?_
      rintro x w15 ⟨rfl, hb15⟩
      go_wp2_with fail
      refine hK.out _ _ (hHeld.keep hb15) (fun hHeld => ?_)
      clear hK K
      try simp only [Act.put, pS1, pS2, pS3]
      refine wpAnyH_ready (rs := [19]) (by kernel_rfl) (by simp) ?_
      refine (AllReadyH.cons (o := { dst := some 52, op := .call { callee := .value (.func 11), args := #[.tmp 49, .tmp 50, .tmp 51], argTypes := #[23, 29, 29] }, type := 4, pos := "law.go:57", after := #[zD 16, zD 17, zD 18, zC 15, zG 11], guard := some (11, true) }) rfl (fun K hK => ?_) AllReadyH.nil)
      go_simp
      refine (P2.out _ hHeld.t.b).mono ?_
      rintro x w19 ⟨rfl, hb19⟩
      go_wp2_with fail
      refine hK.out _ _ (hHeld.keep hb19) (fun hHeld => ?_)
      clear hK K
      try simp only [Act.put, pS1, pS2, pS3]
      refine zW 20 (.bool true) rfl (Or.inl ⟨by rfl, by intro W hSw; cases q <;> go_simp⟩) hHeld ?_
      try simp only [Act.put, pS1, pS2, pS3]
      refine zX 21 (.bool true) rfl hHeld ?_
      try simp only [Act.put, pS1, pS2, pS3]
      refine zX 22 (.bool true) rfl hHeld ?_
      try simp only [Act.put, pS1, pS2, pS3]
      refine zX 23 (.slice a len cap) rfl hHeld ?_
      try simp only [Act.put, pS1, pS2, pS3]
      refine zX 24 (.slice ao len co) rfl hHeld ?_
      try simp only [Act.put, pS1, pS2, pS3]
      refine wpAnyH_ready (rs := [25]) (by kernel_rfl) (by simp) ?_
      refine (AllReadyH.cons (o := { dst := some 58, op := .call { callee := .value (.func 12), args := #[.tmp 56, .tmp 57], argTypes := #[24, 24] }, type := 4, pos := "law.go:57", after := #[zD 23, zD 24, zC 22, zG 22], guard := some (22, true) }) rfl (fun K hK => ?_) AllReadyH.nil)
      go_simp
      refine (SM.out _ _ _ hHeld.t.b hHeld.i).mono ?_
      rintro x w25 ⟨rfl, hb25⟩
      go_wp2_with fail
      refine hK.out _ _ (hHeld.keep hb25) (fun hHeld => ?_)
      clear hK K
      try simp only [Act.put, pS1, pS2, pS3]
      refine zX 26 (.bool true) rfl hHeld ?_
      try simp only [Act.put, pS1, pS2, pS3]
      refine zX 27 (.bool true) rfl hHeld ?_
      try simp only [Act.put, pS1, pS2, pS3]
      refine zX 28 (.slice p pl pc) rfl hHeld ?_
      try simp only [Act.put, pS1, pS2, pS3]
      refine zX 29 (.slice po pl pco) rfl hHeld ?_
      try simp only [Act.put, pS1, pS2, pS3]
      refine wpAnyH_ready (rs := [30]) (by kernel_rfl) (by simp) ?_
      refine (AllReadyH.cons (o := { dst := some 63, op := .call { callee := .value (.func 13), args := #[.tmp 61, .tmp 62], argTypes := #[30, 30] }, type := 4, pos := "law.go:57", after := #[zD 28, zD 29, zC 27, zG 27], guard := some (27, true) }) rfl (fun K hK => ?_) AllReadyH.nil)
      go_simp
      refine (DG.out _ _ _ hHeld.t.b hHeld.p).mono ?_
      rintro x w30 ⟨rfl, hb30⟩
      go_wp2_with fail
      refine hK.out _ _ (hHeld.keep hb30) (fun hHeld => ?_)
      clear hK K
      try simp only [Act.put, pS1, pS2, pS3]
      refine zX 31 (.bool true) rfl hHeld ?_
      try simp only [Act.put, pS1, pS2, pS3]
      refine zX 32 (.bool true) rfl hHeld ?_
      try simp only [Act.put, pS1, pS2, pS3]
      refine wpAnyH_done (by kernel_rfl) ?_ _
      have HZ9 := hidk hHeld.t.b
      clear hHeld
      go_wp2
      go_ret
      exact ⟨rfl, HZ9.out⟩
  · clear hd an HK HA HB hml hs ht h hc0 hm im hp hT hC Hb
    go_enter Tryz.func3, Tryz.ntmps3
    go_wp2_with fail
    refine (BG.out _ H0.out.b).mono ?_
    rintro x w1 ⟨rfl, rfl⟩
    go_wp2
    go_ret
    exact ⟨rfl, H0.out.b⟩
theorem anchorsAdmits_in (hd : HeadC) (an : AnchorsC) (z0 : List UInt8) (a1 : Option Addr) (len1 cap1 : Nat) (z1 : List ItT) (z2 : SgT) (a3 : Int) (a4 : Option Addr) (len4 cap4 : Nat) (z4 : List (List UInt8)) (z5 : SgT) (w : World) (w0 : z0.length = 32) (w1 : IReads w a1 len1 cap1 z1) (n1 : a1 = none → cap1 = 0) (m1 : ∀ x ∈ z1, CmI x) (w2 : InS z2) (w3 : In64 a3) (w4 : LReads w a4 len4 cap4 z4) (w5 : InS z5) (hT : TabH w) (hC : Table 0 w) :
    Calls Tryz.prog 3 #[.agg (cellsOf z0).toArray, .slice a1 len1 cap1, signV z2, .int .i64 a3, .slice a4 len4 cap4, signV z5] w fun e w' => e = .returned (.bool true) ∧ Below w.heap.size w w' :=
  anchorsAdmits_of hd an z0 z1 z2 z5 z4 w _ _ _ a1 len1 cap1 a3 a4 len4 cap4 (hidk rfl) (hidk rfl) (hidk rfl) w0 w2 w5 w1 n1 m1 w3 w4 hT hC
end Go.Proofs.YtjalebncfnekiaaGreatDoor
