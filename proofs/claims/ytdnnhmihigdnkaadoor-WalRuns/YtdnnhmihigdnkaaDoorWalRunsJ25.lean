/- Texts of our own that the row of WalRuns leans on, part 25. -/
import Derived.Test.YtdnnhmihigdnkaaDoorWalRunsJ0
import Derived.Test.YtdnnhmihigdnkaaDoorWalRunsJ24

/- The document's Opens behind a crash, where something may be beside; Opens. -/
namespace Go.Proofs.YtdnnhmihigdnkaaDoor
open Go.RowKit Nums
set_option linter.unusedVariables false
set_option linter.unusedSimpArgs false
set_option maxRecDepth 100000
set_option maxHeartbeats 16000000 in
theorem opens_may (w : World) (m g scap n : Nat) (L : LgT) (cs : List SvT) (x : SvT) (M : Nat → Prop) (a : Option Addr) (len cap : Nat) (rs : List ByteArray) (hmb : L.maybe = true) (hh : OpHyp w m g scap n L cs x M a len cap rs true) :
    Calls Tryd.prog 14 #[.pointer (some ⟨m, 0, none⟩), .slice a len cap, .bool true] w fun e w' => e = .returned (.bool (opensB L rs true)) ∧ WentL w m (opensL L rs true) M (fun _ => False) w' := by
  have HH := hidd hh
  have hn1 := hh.n1
  have hmx : n ≤ 9223372036854775807 := by omega
  have hd0 : 0 < n := by omega
  have HC : Hid (∀ V, Below w.heap.size w V → V.cell? ⟨m, 0, none⟩ = some (.slice (some ⟨g, 0, none⟩) n scap) ∧ V.cell? ⟨m, 1, none⟩ = some (.slice x.a x.len x.cap) ∧ V.cell? ⟨m, 2, none⟩ = some (.int .i64 (x.cost : Int)) ∧ V.cell? ⟨m, 3, none⟩ = some (.bool true)) := fun V hV => by have := hh.cells V hV; rw [hmb] at this; exact this
  have NX : Hid (∀ W1 d, (d ∈ cs ∨ d = x) → StOf w d (opensX L rs true) → Below w.heap.size w W1 → WentL w m (opensL L rs true) M (fun _ => False) (((W1.setCell ⟨m, 0, none⟩ (.slice (some ⟨W1.heap.size, 0, none⟩) 1 1)).setCell ⟨m, 3, none⟩ (.bool false)).alloc (.cells #[.slice d.a d.len d.cap, .int .i64 (d.cost : Int)] 44)) ∧ W1.cell? ⟨m, 0, none⟩ = some (.slice (some ⟨g, 0, none⟩) n scap) ∧ W1.cell? ⟨m, 3, none⟩ = some (.bool true) ∧ W1.frozen? ⟨m, 0, none⟩ = false ∧ W1.frozen? ⟨m, 3, none⟩ = false ∧ m < W1.heap.size) := fun W1 d hd hst hw => by have := hh.fin W1 d hd hst hw; rw [hmb] at this; exact this
  have NOW := hidd hh.now
  have HPE := hidd (pickS_eq L rs true)
  have HMB := hidd hmb
  have HOB : Hid (opensB L rs true = (pickS L rs true).2) := rfl
  have HXE : Hid (opensX L rs true = dearer rs ((statesL L).foldl (dearer rs) (pickS L rs true).1) L.may) := by
    show _ = _
    unfold opensX
    rw [if_pos rfl]
    show (if L.maybe = true then _ else _) = _
    rw [hmb]
    rfl
  obtain ⟨ob, Hob⟩ : ∃ b, Hid (b = opensB L rs true) := ⟨_, hidd rfl⟩
  rw [← Hob.out]
  clear hh hmb
  go_enter Tryd.func14, Tryd.ntmps14
  go_wp2_with fail
  refine NOW.out.mono ?_
  rintro e W1 ⟨⟨d, rfl, hd, hst⟩, hbw⟩
  have hmem : L.now ∈ statesL L := (statesL_mem L _).2 (.inr rfl)
  have HB2 : Hid (Below w.heap.size w (W1.alloc (.cells #[.slice d.a d.len d.cap, .int .i64 (d.cost : Int)] 44))) := hbw.alloc hbw.size _
  have HGW : Hid (w.heap.size ≤ W1.heap.size) := hbw.size
  have HGM : Hid (m < W1.heap.size) := by
    have h1 := (HC.out W1 hbw).1
    have := World.block_lt_of_cell? _ _ h1
    exact this
  have hx1 := heap_alloc_new W1 (.cells #[.slice d.a d.len d.cap, .int .i64 (d.cost : Int)] 44)
  have y0 : (W1.alloc (.cells #[.slice d.a d.len d.cap, .int .i64 (d.cost : Int)] 44)).cell? ⟨W1.heap.size, 0, none⟩ = some (.slice d.a d.len d.cap) := row0 hx1
  have SM := hidd (HH.out.same d L.now hst (.inl hmem) _ HB2.out)
  have HPS := hidd (PL1.start (rs := rs) hd hst)
  have HX1 := hidd hx1
  unfold SvT.v
  clear NOW hbw hst hd hmem hx1
  go_wp2_with fail
  refine SM.out.mono ?_
  rintro e W3 ⟨rfl, hb3⟩
  have HBX := hidd (HB2.out.trans (hb3.mono (HB2.out.size)))
  have HXX : Hid (W3.heap[W1.heap.size]? = some (.cells #[.slice d.a d.len d.cap, .int .i64 (d.cost : Int)] 44 (0, 0))) := (hb3.block _ (heap_lt HX1.out)).trans HX1.out
  obtain ⟨fd, Hfd⟩ : ∃ b, Hid (b = decide (rs = L.now.recs)) := ⟨_, hidd rfl⟩
  rw [← Hfd.out] at HPS ⊢
  clear hb3 SM y0 HB2 HX1 Hfd
  go_wp2
  go_loopw [8, 9] (fun f i wr => ∃ (k : Nat) (fd : Bool) (d : SvT), k ≤ n ∧ i = .int .i64 (k : Int) ∧ f = .bool fd ∧ Hid (PL1 w L rs cs k fd d) ∧ Hid (Below w.heap.size w wr) ∧ Hid (wr.heap[W1.heap.size]? = some (.cells #[.slice d.a d.len d.cap, .int .i64 (d.cost : Int)] 44 (0, 0)))) (fun _ i _ => n - (intOf i).toNat)
  case atStart => exact ⟨0, fd, d, Nat.zero_le _, rfl, rfl, HPS, HBX, HXX⟩
  case round =>
    clear HBX HXX HPS
    obtain ⟨k, fd, d, hk, rfl, rfl, HP1, HBX, HXX⟩ := hrel
    obtain ⟨m0, m1, m2, m3⟩ := HC.out wr HBX.out
    cases fd
    · by_cases hlt : k < n
      · obtain ⟨q, hq, hqs, hqc⟩ := HH.out.at_ k hlt
        have hks : k < (statesL L).length := by rw [HH.out.slen]; exact hlt
        have hqst := hqs hks
        obtain ⟨q0, q1⟩ := hqc wr HBX.out
        have ix := fun V => index_st g n scap k hlt V
        have hw1 := wrap_int ((k : Int) + 1) (by omega) (by omega)
        have x0 := row0 HXX.out
        have x1 := row1 HXX.out
        have xf0 := frozen_of_row wr W1.heap.size 0 _ _ HXX.out
        have xf1 := frozen_of_row wr W1.heap.size 1 _ _ HXX.out
        have HB3 : Hid (Below w.heap.size w ((wr.setCell ⟨W1.heap.size, 0, none⟩ (.slice q.a q.len q.cap)).setCell ⟨W1.heap.size, 1, none⟩ (.int .i64 (q.cost : Int)))) := (HBX.out.setCell HGW.out _).setCell HGW.out _
        have HX3 : Hid (((wr.setCell ⟨W1.heap.size, 0, none⟩ (.slice q.a q.len q.cap)).setCell ⟨W1.heap.size, 1, none⟩ (.int .i64 (q.cost : Int))).heap[W1.heap.size]? = some (.cells #[.slice q.a q.len q.cap, .int .i64 (q.cost : Int)] 44 (0, 0))) := by show _ = _; rw [Go.heap_setCell_same _ _ 1 _ _ (.int .i64 (q.cost : Int)) (Go.heap_setCell_same wr _ 0 _ _ (.slice q.a q.len q.cap) HXX.out)]; simp
        have SMQ := hidd (HH.out.same q _ hqst (.inl (List.getElem_mem hks)) _ HB3.out)
        obtain ⟨f2, Hf2⟩ : ∃ b, Hid (b = decide (rs = (statesL L)[k].recs)) := ⟨_, hidd rfl⟩
        have HN := hidd (HP1.out.step hks hq hqst)
        rw [← Hf2.out] at SMQ HN
        clear hqs hqc hqst hq hks HP1 Hf2
        go_wp2_with fail
        refine SMQ.out.mono ?_
        rintro e W4 ⟨rfl, hb4⟩
        have HB4 := hidd (HB3.out.trans (hb4.mono HB3.out.size))
        have HX4 : Hid (W4.heap[W1.heap.size]? = some (.cells #[.slice q.a q.len q.cap, .int .i64 (q.cost : Int)] 44 (0, 0))) := (hb4.block _ (heap_lt HX3.out)).trans HX3.out
        clear hb4 SMQ HB3 HX3 HBX HXX
        go_wp2
        go_roundw
        case rel => exact ⟨k + 1, f2, q, by omega, by go_num, rfl, HN, HB4, HX4⟩
        case measure => simp [intOf]; omega
      · obtain rfl : n = k := by omega
        obtain ⟨hp1, hp2, hp3⟩ := HP1.out.done HH.out.slen (by omega) (.inr rfl)
        have hpk : pickS L rs true = (L.may, decide (rs = L.may.recs)) := by rw [HPE.out, if_pos ⟨hp1, (by trivial), HMB.out⟩]
        have HB3 : Hid (Below w.heap.size w ((wr.setCell ⟨W1.heap.size, 0, none⟩ (.slice x.a x.len x.cap)).setCell ⟨W1.heap.size, 1, none⟩ (.int .i64 (x.cost : Int)))) := (HBX.out.setCell HGW.out _).setCell HGW.out _
        have HX3 : Hid (((wr.setCell ⟨W1.heap.size, 0, none⟩ (.slice x.a x.len x.cap)).setCell ⟨W1.heap.size, 1, none⟩ (.int .i64 (x.cost : Int))).heap[W1.heap.size]? = some (.cells #[.slice x.a x.len x.cap, .int .i64 (x.cost : Int)] 44 (0, 0))) := by show _ = _; rw [Go.heap_setCell_same _ _ 1 _ _ (.int .i64 (x.cost : Int)) (Go.heap_setCell_same wr _ 0 _ _ (.slice x.a x.len x.cap) HXX.out)]; simp
        have SMY := hidd (HH.out.same x L.may HH.out.may (.inr rfl) _ HB3.out)
        obtain ⟨f2, Hf2⟩ : ∃ b, Hid (b = decide (rs = L.may.recs)) := ⟨_, hidd rfl⟩
        have HFD : Hid (ob = f2) := by show _ = _; rw [Hob.out, HOB.out, hpk, Hf2.out]
        have HOX : Hid (opensX L rs true = dearer rs ((statesL L).foldl (dearer rs) L.may) L.may) := by show _ = _; rw [HXE.out, hpk]
        have HPS2 := hidd (PL2.start (cs := cs) (rs := rs) (L := L) (.inr rfl) HH.out.may)
        rw [← Hf2.out] at SMY
        have hnn : ¬ ((n : Int) < (n : Int)) := by omega
        have x0 := row0 HXX.out
        have x1 := row1 HXX.out
        have xf0 := frozen_of_row wr W1.heap.size 0 _ _ HXX.out
        have xf1 := frozen_of_row wr W1.heap.size 1 _ _ HXX.out
        clear hp1 hp2 hp3 hpk HP1 hlt Hf2
        go_wp2_with fail
        refine SMY.out.mono ?_
        rintro e W4 ⟨rfl, hb4⟩
        replace HBX := hidd (HB3.out.trans (hb4.mono HB3.out.size))
        replace HXX : Hid (W4.heap[W1.heap.size]? = some (.cells #[.slice x.a x.len x.cap, .int .i64 (x.cost : Int)] 44 (0, 0))) := (hb4.block _ (heap_lt HX3.out)).trans HX3.out
        clear hb4 SMY HB3 HX3 x0 x1 xf0 xf1 m0 m1 m2 m3
        go_wp2
        go_loopw [10] (fun i wr => ∃ (k : Nat) (d : SvT), k ≤ n ∧ i = .int .i64 (k : Int) ∧ Hid (PL2 w L rs cs x (L.may) k d) ∧ Hid (Below w.heap.size w wr) ∧ Hid (wr.heap[W1.heap.size]? = some (.cells #[.slice d.a d.len d.cap, .int .i64 (d.cost : Int)] 44 (0, 0)))) (fun i _ => n - (intOf i).toNat)
        case atStart => exact ⟨0, _, Nat.zero_le _, rfl, HPS2.out, HBX.out, HXX.out⟩
        case round =>
          clear HBX HXX HPS2
          obtain ⟨k, d, hk, rfl, HP2, HBW, HX⟩ := hrel
          obtain ⟨m0, m1, m2, m3⟩ := HC.out wr HBW.out
          by_cases hlt : k < n
          · obtain ⟨q, hq, hqs, hqc⟩ := HH.out.at_ k hlt
            have hks : k < (statesL L).length := by rw [HH.out.slen]; exact hlt
            have hmem : (statesL L)[k] ∈ statesL L := List.getElem_mem hks
            have hqst := hqs hks
            have HQ := hidd hqc
            have SMQ := hidd (HH.out.same q _ hqst (.inl hmem))
            have IX : Hid (∀ V, (Instr.indexAt 60 (.slice (some ⟨g, 0, none⟩) n scap) (.int .i64 (k : Int))).run Tryd.prog V = .ok (.pointer (some ⟨g, k * 2, none⟩)) V) := fun V => index_st g n scap k hlt V
            have hw1 := wrap_int ((k : Int) + 1) (by omega) (by omega)
            by_cases hs : rs = (statesL L)[k].recs
            · rw [decide_eq_true hs] at SMQ
              by_cases hcs : d.cost < q.cost
              · have hdc : decide ((d.cost : Int) < (q.cost : Int)) = true := by rw [decide_eq_true_eq]; omega
                have HN := hidd (HP2.out.dear hks hq hqst hs.symm hcs)
                clear hqs hqc hqst hq hmem hks hs HP2
                go_wp2
                refine wp_region_held_drew (S := (fun V => Below w.heap.size w V ∧ V.heap[W1.heap.size]? = some (.cells #[.slice d.a d.len d.cap, .int .i64 (d.cost : Int)] 44 (0, 0)))) (by kernel_rfl) ⟨HBW.out.drew, HX.out⟩ (fun hHeld => ?_)
                refine wpAnyH_take (i := 0) (oi := { dst := some 75, op := Op.move (Operand.tmp 1), type := 29, pos := "ref.go:108", after := #[], guard := none }) (v := .slice a len cap) rfl (by kernel_rfl) (by kernel_rfl) (by kernel_rfl) (fun _ _ _ h => h) (Or.inl ⟨by rfl, by intro W hSw; go_simp⟩) hHeld ?_
                try simp only [Act.put, pS1, pS2, pS3]
                refine wpAnyH_take (i := 1) (oi := { dst := some 76, op := Op.move (Operand.tmp 0), type := 26, pos := "ref.go:108", after := #[], guard := none }) (v := .pointer (some ⟨m, 0, none⟩)) rfl (by kernel_rfl) (by kernel_rfl) (by kernel_rfl) (fun _ _ _ h => h) (Or.inl ⟨by rfl, by intro W hSw; go_simp⟩) hHeld ?_
                try simp only [Act.put, pS1, pS2, pS3]
                refine wpAnyH_take (i := 2) (oi := { dst := some 77, op := Op.nilCheck (Operand.tmp 76), type := 0, pos := "ref.go:108", after := #[zD 1], guard := none }) (v := .pointer (some ⟨m, 0, none⟩)) rfl (by kernel_rfl) (by kernel_rfl) (by kernel_rfl) (fun _ _ _ h => h) (Or.inl ⟨by rfl, by intro W hSw; go_simp⟩) hHeld ?_
                try simp only [Act.put, pS1, pS2, pS3]
                refine wpAnyH_take (i := 3) (oi := { dst := some 78, op := Op.fieldAddr 62 (Operand.tmp 77) 0, type := 0, pos := "ref.go:108", after := #[zD 2], guard := none }) (v := .pointer (some ⟨m, 0, none⟩)) rfl (by kernel_rfl) (by kernel_rfl) (by kernel_rfl) (fun _ _ _ h => h) (Or.inl ⟨by rfl, by intro W hSw; go_simp⟩) hHeld ?_
                try simp only [Act.put, pS1, pS2, pS3]
                refine wpAnyH_take (i := 4) (oi := { dst := some 79, op := Op.load 60 (Operand.tmp 78), type := 60, pos := "ref.go:108", after := #[zD 3], guard := none }) (v := .slice (some ⟨g, 0, none⟩) n scap) rfl (by kernel_rfl) (by kernel_rfl) (by kernel_rfl) (fun _ _ _ h => h) (Or.inl ⟨by rfl, by intro W hSw; have h1 := (HC.out W hSw.1).1; go_simp⟩) hHeld ?_
                try simp only [Act.put, pS1, pS2, pS3]
                refine wpAnyH_take (i := 5) (oi := { dst := some 80, op := Op.move (Operand.tmp 10), type := 3, pos := "ref.go:108", after := #[], guard := none }) (v := .int .i64 (k : Int)) rfl (by kernel_rfl) (by kernel_rfl) (by kernel_rfl) (fun _ _ _ h => h) (Or.inl ⟨by rfl, by intro W hSw; go_simp⟩) hHeld ?_
                try simp only [Act.put, pS1, pS2, pS3]
                refine wpAnyH_take (i := 6) (oi := { dst := some 81, op := Op.indexAddr 60 (Operand.tmp 79) (Operand.tmp 80), type := 0, pos := "ref.go:108", after := #[zD 4, zD 5], guard := none }) (v := .pointer (some ⟨g, k * 2, none⟩)) rfl (by kernel_rfl) (by kernel_rfl) (by kernel_rfl) (fun _ _ _ h => h) (Or.inl ⟨by rfl, by intro W hSw; have h1 := IX.out W; go_simp⟩) hHeld ?_
                try simp only [Act.put, pS1, pS2, pS3]
                refine wpAnyH_take (i := 7) (oi := { dst := some 82, op := Op.fieldAddr 44 (Operand.tmp 81) 0, type := 0, pos := "ref.go:108", after := #[zD 6], guard := none }) (v := .pointer (some ⟨g, k * 2, none⟩)) rfl (by kernel_rfl) (by kernel_rfl) (by kernel_rfl) (fun _ _ _ h => h) (Or.inl ⟨by rfl, by intro W hSw; go_simp⟩) hHeld ?_
                try simp only [Act.put, pS1, pS2, pS3]
                refine wpAnyH_take (i := 8) (oi := { dst := some 83, op := Op.load 29 (Operand.tmp 82), type := 29, pos := "ref.go:108", after := #[zD 7], guard := none }) (v := .slice q.a q.len q.cap) rfl (by kernel_rfl) (by kernel_rfl) (by kernel_rfl) (fun _ _ _ h => h) (Or.inl ⟨by rfl, by intro W hSw; have h1 := (HQ.out W hSw.1).1; go_simp⟩) hHeld ?_
                try simp only [Act.put, pS1, pS2, pS3]
                refine wpAnyH_ready (rs := [9]) (by kernel_rfl) (by simp) ?_
                refine (AllReadyH.cons (o := { dst := some 84, op := Op.call { callee := Callee.value (Operand.func 27), args := #[Operand.tmp 75, Operand.tmp 83], argTypes := #[29, 29] }, type := 4, pos := "ref.go:108", after := #[zD 0, zD 8], guard := none }) rfl (fun K hK => ?_) AllReadyH.nil)
                go_simp
                refine (SMQ.out _ HBW.out.drew).mono ?_
                rintro e W2 ⟨rfl, hb2⟩
                have HB2 := hidd (HBW.out.drew.trans (hb2.mono HBW.out.drew.size))
                have HX2 : Hid (W2.heap[W1.heap.size]? = some (.cells #[.slice d.a d.len d.cap, .int .i64 (d.cost : Int)] 44 (0, 0))) := (hb2.block W1.heap.size (heap_lt HX.out)).trans HX.out
                clear hb2
                go_wp2_with fail
                refine hK.out _ _ ⟨HB2.out, HX2.out⟩ (fun hHeld => ?_)
                clear hK K
                try simp only [Act.put, pS1, pS2, pS3]
                refine wpAnyH_take (i := 10) (oi := { dst := some 85, op := Op.move (Operand.tmp 84), type := 4, pos := "ref.go:108", after := #[zD 9, zC 9], guard := none }) (v := .bool true) rfl (by kernel_rfl) (by kernel_rfl) (by kernel_rfl) (fun _ _ _ h => h) (Or.inl ⟨by rfl, by intro W hSw; go_simp⟩) hHeld ?_
                try simp only [Act.put, pS1, pS2, pS3]
                refine wpAnyH_take (i := 11) (oi := { dst := some 86, op := Op.move (Operand.tmp 0), type := 26, pos := "ref.go:108", after := #[zG 10], guard := some (10, true) }) (v := .pointer (some ⟨m, 0, none⟩)) rfl (by kernel_rfl) (by kernel_rfl) (by kernel_rfl) (fun _ _ _ h => h) (Or.inl ⟨by rfl, by intro W hSw; go_simp⟩) hHeld ?_
                try simp only [Act.put, pS1, pS2, pS3]
                refine wpAnyH_take (i := 12) (oi := { dst := some 87, op := Op.nilCheck (Operand.tmp 86), type := 0, pos := "ref.go:108", after := #[zD 11, zG 10], guard := some (10, true) }) (v := .pointer (some ⟨m, 0, none⟩)) rfl (by kernel_rfl) (by kernel_rfl) (by kernel_rfl) (fun _ _ _ h => h) (Or.inl ⟨by rfl, by intro W hSw; go_simp⟩) hHeld ?_
                try simp only [Act.put, pS1, pS2, pS3]
                refine wpAnyH_take (i := 13) (oi := { dst := some 88, op := Op.fieldAddr 62 (Operand.tmp 87) 0, type := 0, pos := "ref.go:108", after := #[zD 12, zG 10], guard := some (10, true) }) (v := .pointer (some ⟨m, 0, none⟩)) rfl (by kernel_rfl) (by kernel_rfl) (by kernel_rfl) (fun _ _ _ h => h) (Or.inl ⟨by rfl, by intro W hSw; go_simp⟩) hHeld ?_
                try simp only [Act.put, pS1, pS2, pS3]
                refine wpAnyH_take (i := 14) (oi := { dst := some 89, op := Op.load 60 (Operand.tmp 88), type := 60, pos := "ref.go:108", after := #[zD 13, zG 10], guard := some (10, true) }) (v := .slice (some ⟨g, 0, none⟩) n scap) rfl (by kernel_rfl) (by kernel_rfl) (by kernel_rfl) (fun _ _ _ h => h) (Or.inl ⟨by rfl, by intro W hSw; have h1 := (HC.out W hSw.1).1; go_simp⟩) hHeld ?_
                try simp only [Act.put, pS1, pS2, pS3]
                refine wpAnyH_take (i := 15) (oi := { dst := some 90, op := Op.move (Operand.tmp 10), type := 3, pos := "ref.go:108", after := #[zG 10], guard := some (10, true) }) (v := .int .i64 (k : Int)) rfl (by kernel_rfl) (by kernel_rfl) (by kernel_rfl) (fun _ _ _ h => h) (Or.inl ⟨by rfl, by intro W hSw; go_simp⟩) hHeld ?_
                try simp only [Act.put, pS1, pS2, pS3]
                refine wpAnyH_take (i := 16) (oi := { dst := some 91, op := Op.indexAddr 60 (Operand.tmp 89) (Operand.tmp 90), type := 0, pos := "ref.go:108", after := #[zD 14, zD 15, zG 10], guard := some (10, true) }) (v := .pointer (some ⟨g, k * 2, none⟩)) rfl (by kernel_rfl) (by kernel_rfl) (by kernel_rfl) (fun _ _ _ h => h) (Or.inl ⟨by rfl, by intro W hSw; have h1 := IX.out W; go_simp⟩) hHeld ?_
                try simp only [Act.put, pS1, pS2, pS3]
                refine wpAnyH_take (i := 17) (oi := { dst := some 92, op := Op.fieldAddr 44 (Operand.tmp 91) 1, type := 0, pos := "ref.go:108", after := #[zD 16, zG 10], guard := some (10, true) }) (v := .pointer (some ⟨g, k * 2 + 1, none⟩)) rfl (by kernel_rfl) (by kernel_rfl) (by kernel_rfl) (fun _ _ _ h => h) (Or.inl ⟨by rfl, by intro W hSw; go_simp⟩) hHeld ?_
                try simp only [Act.put, pS1, pS2, pS3]
                refine wpAnyH_take (i := 18) (oi := { dst := some 93, op := Op.load 3 (Operand.tmp 92), type := 3, pos := "ref.go:108", after := #[zD 17, zG 10], guard := some (10, true) }) (v := .int .i64 (q.cost : Int)) rfl (by kernel_rfl) (by kernel_rfl) (by kernel_rfl) (fun _ _ _ h => h) (Or.inl ⟨by rfl, by intro W hSw; have h1 := (HQ.out W hSw.1).2; go_simp⟩) hHeld ?_
                try simp only [Act.put, pS1, pS2, pS3]
                refine wpAnyH_take (i := 19) (oi := { dst := some 94, op := Op.fieldAddr 44 (Operand.tmp 7) 1, type := 0, pos := "ref.go:108", after := #[zG 10], guard := some (10, true) }) (v := .pointer (some ⟨W1.heap.size, 1, none⟩)) rfl (by kernel_rfl) (by kernel_rfl) (by kernel_rfl) (fun _ _ _ h => h) (Or.inl ⟨by rfl, by intro W hSw; go_simp⟩) hHeld ?_
                try simp only [Act.put, pS1, pS2, pS3]
                refine wpAnyH_take (i := 20) (oi := { dst := some 95, op := Op.load 3 (Operand.tmp 94), type := 3, pos := "ref.go:108", after := #[zD 19, zG 10], guard := some (10, true) }) (v := .int .i64 (d.cost : Int)) rfl (by kernel_rfl) (by kernel_rfl) (by kernel_rfl) (fun _ _ _ h => h) (Or.inl ⟨by rfl, by intro W hSw; have h1 := row1 hSw.2; go_simp⟩) hHeld ?_
                try simp only [Act.put, pS1, pS2, pS3]
                refine wpAnyH_take (i := 21) (oi := { dst := some 96, op := Op.binOp BinOp.gtr 3 (Operand.tmp 93) (Operand.tmp 95) 3, type := 4, pos := "ref.go:108", after := #[zD 18, zD 20, zG 10], guard := some (10, true) }) (v := .bool true) rfl (by kernel_rfl) (by kernel_rfl) (by kernel_rfl) (fun _ _ _ h => h) (Or.inl ⟨by rfl, by intro W hSw; go_simp⟩) hHeld ?_
                try simp only [Act.put, pS1, pS2, pS3]
                refine wpAnyH_take (i := 22) (oi := { dst := some 97, op := Op.pick (Operand.tmp 85) (Operand.tmp 96) (Operand.const (Value.bool false)), type := 4, pos := "ref.go:108", after := #[zD 10, zD 21], guard := none }) (v := .bool true) rfl (by kernel_rfl) (by kernel_rfl) (by kernel_rfl) (fun _ _ _ h => h) (Or.inl ⟨by rfl, by intro W hSw; go_simp⟩) hHeld ?_
                try simp only [Act.put, pS1, pS2, pS3]
                refine wpAnyH_done (by kernel_rfl) ?_ _
                clear hHeld HBW HX
                obtain ⟨m0, m1, m2, m3⟩ := HC.out W2 HB2.out
                obtain ⟨q0, q1⟩ := HQ.out W2 HB2.out
                have ix := IX.out
                have x0 := row0 HX2.out
                have x1 := row1 HX2.out
                have xf0 := frozen_of_row W2 W1.heap.size 0 _ _ HX2.out
                have xf1 := frozen_of_row W2 W1.heap.size 1 _ _ HX2.out
                have hgr := gr_trans (Lib.grownBy_setCell W2 W1.heap.size 0 (.slice q.a q.len q.cap)) (Lib.grownBy_setCell _ W1.heap.size 1 (.int .i64 (q.cost : Int)))
                have HB3 : Hid (Below w.heap.size w ((W2.setCell ⟨W1.heap.size, 0, none⟩ (.slice q.a q.len q.cap)).setCell ⟨W1.heap.size, 1, none⟩ (.int .i64 (q.cost : Int)))) := (HB2.out.setCell HGW.out _).setCell HGW.out _
                have HX3 : Hid (((W2.setCell ⟨W1.heap.size, 0, none⟩ (.slice q.a q.len q.cap)).setCell ⟨W1.heap.size, 1, none⟩ (.int .i64 (q.cost : Int))).heap[W1.heap.size]? = some (.cells #[.slice q.a q.len q.cap, .int .i64 (q.cost : Int)] 44 (0, 0))) := by show _ = _; rw [Go.heap_setCell_same _ _ 1 _ _ (.int .i64 (q.cost : Int)) (Go.heap_setCell_same W2 _ 0 _ _ (.slice q.a q.len q.cap) HX2.out)]; simp
                clear hgr HQ IX SMQ HB2 HX2
                go_wp2
                go_roundw
                case rel => exact ⟨k + 1, q, by omega, by go_num, HN, HB3, HX3⟩
                case measure => simp [intOf]; omega
              · have hdc : decide ((d.cost : Int) < (q.cost : Int)) = false := by rw [decide_eq_false_iff_not]; omega
                have HN := hidd (HP2.out.cheap hks hqst hcs)
                clear hqs hqc hqst hq hmem hks hs HP2
                go_wp2
                refine wp_region_held_drew (S := (fun V => Below w.heap.size w V ∧ V.heap[W1.heap.size]? = some (.cells #[.slice d.a d.len d.cap, .int .i64 (d.cost : Int)] 44 (0, 0)))) (by kernel_rfl) ⟨HBW.out.drew, HX.out⟩ (fun hHeld => ?_)
                refine wpAnyH_take (i := 0) (oi := { dst := some 75, op := Op.move (Operand.tmp 1), type := 29, pos := "ref.go:108", after := #[], guard := none }) (v := .slice a len cap) rfl (by kernel_rfl) (by kernel_rfl) (by kernel_rfl) (fun _ _ _ h => h) (Or.inl ⟨by rfl, by intro W hSw; go_simp⟩) hHeld ?_
                try simp only [Act.put, pS1, pS2, pS3]
                refine wpAnyH_take (i := 1) (oi := { dst := some 76, op := Op.move (Operand.tmp 0), type := 26, pos := "ref.go:108", after := #[], guard := none }) (v := .pointer (some ⟨m, 0, none⟩)) rfl (by kernel_rfl) (by kernel_rfl) (by kernel_rfl) (fun _ _ _ h => h) (Or.inl ⟨by rfl, by intro W hSw; go_simp⟩) hHeld ?_
                try simp only [Act.put, pS1, pS2, pS3]
                refine wpAnyH_take (i := 2) (oi := { dst := some 77, op := Op.nilCheck (Operand.tmp 76), type := 0, pos := "ref.go:108", after := #[zD 1], guard := none }) (v := .pointer (some ⟨m, 0, none⟩)) rfl (by kernel_rfl) (by kernel_rfl) (by kernel_rfl) (fun _ _ _ h => h) (Or.inl ⟨by rfl, by intro W hSw; go_simp⟩) hHeld ?_
                try simp only [Act.put, pS1, pS2, pS3]
                refine wpAnyH_take (i := 3) (oi := { dst := some 78, op := Op.fieldAddr 62 (Operand.tmp 77) 0, type := 0, pos := "ref.go:108", after := #[zD 2], guard := none }) (v := .pointer (some ⟨m, 0, none⟩)) rfl (by kernel_rfl) (by kernel_rfl) (by kernel_rfl) (fun _ _ _ h => h) (Or.inl ⟨by rfl, by intro W hSw; go_simp⟩) hHeld ?_
                try simp only [Act.put, pS1, pS2, pS3]
                refine wpAnyH_take (i := 4) (oi := { dst := some 79, op := Op.load 60 (Operand.tmp 78), type := 60, pos := "ref.go:108", after := #[zD 3], guard := none }) (v := .slice (some ⟨g, 0, none⟩) n scap) rfl (by kernel_rfl) (by kernel_rfl) (by kernel_rfl) (fun _ _ _ h => h) (Or.inl ⟨by rfl, by intro W hSw; have h1 := (HC.out W hSw.1).1; go_simp⟩) hHeld ?_
                try simp only [Act.put, pS1, pS2, pS3]
                refine wpAnyH_take (i := 5) (oi := { dst := some 80, op := Op.move (Operand.tmp 10), type := 3, pos := "ref.go:108", after := #[], guard := none }) (v := .int .i64 (k : Int)) rfl (by kernel_rfl) (by kernel_rfl) (by kernel_rfl) (fun _ _ _ h => h) (Or.inl ⟨by rfl, by intro W hSw; go_simp⟩) hHeld ?_
                try simp only [Act.put, pS1, pS2, pS3]
                refine wpAnyH_take (i := 6) (oi := { dst := some 81, op := Op.indexAddr 60 (Operand.tmp 79) (Operand.tmp 80), type := 0, pos := "ref.go:108", after := #[zD 4, zD 5], guard := none }) (v := .pointer (some ⟨g, k * 2, none⟩)) rfl (by kernel_rfl) (by kernel_rfl) (by kernel_rfl) (fun _ _ _ h => h) (Or.inl ⟨by rfl, by intro W hSw; have h1 := IX.out W; go_simp⟩) hHeld ?_
                try simp only [Act.put, pS1, pS2, pS3]
                refine wpAnyH_take (i := 7) (oi := { dst := some 82, op := Op.fieldAddr 44 (Operand.tmp 81) 0, type := 0, pos := "ref.go:108", after := #[zD 6], guard := none }) (v := .pointer (some ⟨g, k * 2, none⟩)) rfl (by kernel_rfl) (by kernel_rfl) (by kernel_rfl) (fun _ _ _ h => h) (Or.inl ⟨by rfl, by intro W hSw; go_simp⟩) hHeld ?_
                try simp only [Act.put, pS1, pS2, pS3]
                refine wpAnyH_take (i := 8) (oi := { dst := some 83, op := Op.load 29 (Operand.tmp 82), type := 29, pos := "ref.go:108", after := #[zD 7], guard := none }) (v := .slice q.a q.len q.cap) rfl (by kernel_rfl) (by kernel_rfl) (by kernel_rfl) (fun _ _ _ h => h) (Or.inl ⟨by rfl, by intro W hSw; have h1 := (HQ.out W hSw.1).1; go_simp⟩) hHeld ?_
                try simp only [Act.put, pS1, pS2, pS3]
                refine wpAnyH_ready (rs := [9]) (by kernel_rfl) (by simp) ?_
                refine (AllReadyH.cons (o := { dst := some 84, op := Op.call { callee := Callee.value (Operand.func 27), args := #[Operand.tmp 75, Operand.tmp 83], argTypes := #[29, 29] }, type := 4, pos := "ref.go:108", after := #[zD 0, zD 8], guard := none }) rfl (fun K hK => ?_) AllReadyH.nil)
                go_simp
                refine (SMQ.out _ HBW.out.drew).mono ?_
                rintro e W2 ⟨rfl, hb2⟩
                have HB2 := hidd (HBW.out.drew.trans (hb2.mono HBW.out.drew.size))
                have HX2 : Hid (W2.heap[W1.heap.size]? = some (.cells #[.slice d.a d.len d.cap, .int .i64 (d.cost : Int)] 44 (0, 0))) := (hb2.block W1.heap.size (heap_lt HX.out)).trans HX.out
                clear hb2
                go_wp2_with fail
                refine hK.out _ _ ⟨HB2.out, HX2.out⟩ (fun hHeld => ?_)
                clear hK K
                try simp only [Act.put, pS1, pS2, pS3]
                refine wpAnyH_take (i := 10) (oi := { dst := some 85, op := Op.move (Operand.tmp 84), type := 4, pos := "ref.go:108", after := #[zD 9, zC 9], guard := none }) (v := .bool true) rfl (by kernel_rfl) (by kernel_rfl) (by kernel_rfl) (fun _ _ _ h => h) (Or.inl ⟨by rfl, by intro W hSw; go_simp⟩) hHeld ?_
                try simp only [Act.put, pS1, pS2, pS3]
                refine wpAnyH_take (i := 11) (oi := { dst := some 86, op := Op.move (Operand.tmp 0), type := 26, pos := "ref.go:108", after := #[zG 10], guard := some (10, true) }) (v := .pointer (some ⟨m, 0, none⟩)) rfl (by kernel_rfl) (by kernel_rfl) (by kernel_rfl) (fun _ _ _ h => h) (Or.inl ⟨by rfl, by intro W hSw; go_simp⟩) hHeld ?_
                try simp only [Act.put, pS1, pS2, pS3]
                refine wpAnyH_take (i := 12) (oi := { dst := some 87, op := Op.nilCheck (Operand.tmp 86), type := 0, pos := "ref.go:108", after := #[zD 11, zG 10], guard := some (10, true) }) (v := .pointer (some ⟨m, 0, none⟩)) rfl (by kernel_rfl) (by kernel_rfl) (by kernel_rfl) (fun _ _ _ h => h) (Or.inl ⟨by rfl, by intro W hSw; go_simp⟩) hHeld ?_
                try simp only [Act.put, pS1, pS2, pS3]
                refine wpAnyH_take (i := 13) (oi := { dst := some 88, op := Op.fieldAddr 62 (Operand.tmp 87) 0, type := 0, pos := "ref.go:108", after := #[zD 12, zG 10], guard := some (10, true) }) (v := .pointer (some ⟨m, 0, none⟩)) rfl (by kernel_rfl) (by kernel_rfl) (by kernel_rfl) (fun _ _ _ h => h) (Or.inl ⟨by rfl, by intro W hSw; go_simp⟩) hHeld ?_
                try simp only [Act.put, pS1, pS2, pS3]
                refine wpAnyH_take (i := 14) (oi := { dst := some 89, op := Op.load 60 (Operand.tmp 88), type := 60, pos := "ref.go:108", after := #[zD 13, zG 10], guard := some (10, true) }) (v := .slice (some ⟨g, 0, none⟩) n scap) rfl (by kernel_rfl) (by kernel_rfl) (by kernel_rfl) (fun _ _ _ h => h) (Or.inl ⟨by rfl, by intro W hSw; have h1 := (HC.out W hSw.1).1; go_simp⟩) hHeld ?_
                try simp only [Act.put, pS1, pS2, pS3]
                refine wpAnyH_take (i := 15) (oi := { dst := some 90, op := Op.move (Operand.tmp 10), type := 3, pos := "ref.go:108", after := #[zG 10], guard := some (10, true) }) (v := .int .i64 (k : Int)) rfl (by kernel_rfl) (by kernel_rfl) (by kernel_rfl) (fun _ _ _ h => h) (Or.inl ⟨by rfl, by intro W hSw; go_simp⟩) hHeld ?_
                try simp only [Act.put, pS1, pS2, pS3]
                refine wpAnyH_take (i := 16) (oi := { dst := some 91, op := Op.indexAddr 60 (Operand.tmp 89) (Operand.tmp 90), type := 0, pos := "ref.go:108", after := #[zD 14, zD 15, zG 10], guard := some (10, true) }) (v := .pointer (some ⟨g, k * 2, none⟩)) rfl (by kernel_rfl) (by kernel_rfl) (by kernel_rfl) (fun _ _ _ h => h) (Or.inl ⟨by rfl, by intro W hSw; have h1 := IX.out W; go_simp⟩) hHeld ?_
                try simp only [Act.put, pS1, pS2, pS3]
                refine wpAnyH_take (i := 17) (oi := { dst := some 92, op := Op.fieldAddr 44 (Operand.tmp 91) 1, type := 0, pos := "ref.go:108", after := #[zD 16, zG 10], guard := some (10, true) }) (v := .pointer (some ⟨g, k * 2 + 1, none⟩)) rfl (by kernel_rfl) (by kernel_rfl) (by kernel_rfl) (fun _ _ _ h => h) (Or.inl ⟨by rfl, by intro W hSw; go_simp⟩) hHeld ?_
                try simp only [Act.put, pS1, pS2, pS3]
                refine wpAnyH_take (i := 18) (oi := { dst := some 93, op := Op.load 3 (Operand.tmp 92), type := 3, pos := "ref.go:108", after := #[zD 17, zG 10], guard := some (10, true) }) (v := .int .i64 (q.cost : Int)) rfl (by kernel_rfl) (by kernel_rfl) (by kernel_rfl) (fun _ _ _ h => h) (Or.inl ⟨by rfl, by intro W hSw; have h1 := (HQ.out W hSw.1).2; go_simp⟩) hHeld ?_
                try simp only [Act.put, pS1, pS2, pS3]
                refine wpAnyH_take (i := 19) (oi := { dst := some 94, op := Op.fieldAddr 44 (Operand.tmp 7) 1, type := 0, pos := "ref.go:108", after := #[zG 10], guard := some (10, true) }) (v := .pointer (some ⟨W1.heap.size, 1, none⟩)) rfl (by kernel_rfl) (by kernel_rfl) (by kernel_rfl) (fun _ _ _ h => h) (Or.inl ⟨by rfl, by intro W hSw; go_simp⟩) hHeld ?_
                try simp only [Act.put, pS1, pS2, pS3]
                refine wpAnyH_take (i := 20) (oi := { dst := some 95, op := Op.load 3 (Operand.tmp 94), type := 3, pos := "ref.go:108", after := #[zD 19, zG 10], guard := some (10, true) }) (v := .int .i64 (d.cost : Int)) rfl (by kernel_rfl) (by kernel_rfl) (by kernel_rfl) (fun _ _ _ h => h) (Or.inl ⟨by rfl, by intro W hSw; have h1 := row1 hSw.2; go_simp⟩) hHeld ?_
                try simp only [Act.put, pS1, pS2, pS3]
                refine wpAnyH_take (i := 21) (oi := { dst := some 96, op := Op.binOp BinOp.gtr 3 (Operand.tmp 93) (Operand.tmp 95) 3, type := 4, pos := "ref.go:108", after := #[zD 18, zD 20, zG 10], guard := some (10, true) }) (v := .bool false) rfl (by kernel_rfl) (by kernel_rfl) (by kernel_rfl) (fun _ _ _ h => h) (Or.inl ⟨by rfl, by intro W hSw; go_simp⟩) hHeld ?_
                try simp only [Act.put, pS1, pS2, pS3]
                refine wpAnyH_take (i := 22) (oi := { dst := some 97, op := Op.pick (Operand.tmp 85) (Operand.tmp 96) (Operand.const (Value.bool false)), type := 4, pos := "ref.go:108", after := #[zD 10, zD 21], guard := none }) (v := .bool false) rfl (by kernel_rfl) (by kernel_rfl) (by kernel_rfl) (fun _ _ _ h => h) (Or.inl ⟨by rfl, by intro W hSw; go_simp⟩) hHeld ?_
                try simp only [Act.put, pS1, pS2, pS3]
                refine wpAnyH_done (by kernel_rfl) ?_ _
                clear hHeld HBW HX HQ IX SMQ
                go_wp2
                go_roundw
                case rel => exact ⟨k + 1, d, by omega, by go_num, HN, HB2, HX2⟩
                case measure => simp [intOf]; omega
            · rw [decide_eq_false hs] at SMQ
              have HN := hidd (HP2.out.other hks (fun e => hs e.symm))
              clear hqs hqc hqst hq hmem hks hs HP2
              go_wp2
              refine wp_region_held_drew (S := (fun V => Below w.heap.size w V ∧ V.heap[W1.heap.size]? = some (.cells #[.slice d.a d.len d.cap, .int .i64 (d.cost : Int)] 44 (0, 0)))) (by kernel_rfl) ⟨HBW.out.drew, HX.out⟩ (fun hHeld => ?_)
              refine wpAnyH_take (i := 0) (oi := { dst := some 75, op := Op.move (Operand.tmp 1), type := 29, pos := "ref.go:108", after := #[], guard := none }) (v := .slice a len cap) rfl (by kernel_rfl) (by kernel_rfl) (by kernel_rfl) (fun _ _ _ h => h) (Or.inl ⟨by rfl, by intro W hSw; go_simp⟩) hHeld ?_
              try simp only [Act.put, pS1, pS2, pS3]
              refine wpAnyH_take (i := 1) (oi := { dst := some 76, op := Op.move (Operand.tmp 0), type := 26, pos := "ref.go:108", after := #[], guard := none }) (v := .pointer (some ⟨m, 0, none⟩)) rfl (by kernel_rfl) (by kernel_rfl) (by kernel_rfl) (fun _ _ _ h => h) (Or.inl ⟨by rfl, by intro W hSw; go_simp⟩) hHeld ?_
              try simp only [Act.put, pS1, pS2, pS3]
              refine wpAnyH_take (i := 2) (oi := { dst := some 77, op := Op.nilCheck (Operand.tmp 76), type := 0, pos := "ref.go:108", after := #[zD 1], guard := none }) (v := .pointer (some ⟨m, 0, none⟩)) rfl (by kernel_rfl) (by kernel_rfl) (by kernel_rfl) (fun _ _ _ h => h) (Or.inl ⟨by rfl, by intro W hSw; go_simp⟩) hHeld ?_
              try simp only [Act.put, pS1, pS2, pS3]
              refine wpAnyH_take (i := 3) (oi := { dst := some 78, op := Op.fieldAddr 62 (Operand.tmp 77) 0, type := 0, pos := "ref.go:108", after := #[zD 2], guard := none }) (v := .pointer (some ⟨m, 0, none⟩)) rfl (by kernel_rfl) (by kernel_rfl) (by kernel_rfl) (fun _ _ _ h => h) (Or.inl ⟨by rfl, by intro W hSw; go_simp⟩) hHeld ?_
              try simp only [Act.put, pS1, pS2, pS3]
              refine wpAnyH_take (i := 4) (oi := { dst := some 79, op := Op.load 60 (Operand.tmp 78), type := 60, pos := "ref.go:108", after := #[zD 3], guard := none }) (v := .slice (some ⟨g, 0, none⟩) n scap) rfl (by kernel_rfl) (by kernel_rfl) (by kernel_rfl) (fun _ _ _ h => h) (Or.inl ⟨by rfl, by intro W hSw; have h1 := (HC.out W hSw.1).1; go_simp⟩) hHeld ?_
              try simp only [Act.put, pS1, pS2, pS3]
              refine wpAnyH_take (i := 5) (oi := { dst := some 80, op := Op.move (Operand.tmp 10), type := 3, pos := "ref.go:108", after := #[], guard := none }) (v := .int .i64 (k : Int)) rfl (by kernel_rfl) (by kernel_rfl) (by kernel_rfl) (fun _ _ _ h => h) (Or.inl ⟨by rfl, by intro W hSw; go_simp⟩) hHeld ?_
              try simp only [Act.put, pS1, pS2, pS3]
              refine wpAnyH_take (i := 6) (oi := { dst := some 81, op := Op.indexAddr 60 (Operand.tmp 79) (Operand.tmp 80), type := 0, pos := "ref.go:108", after := #[zD 4, zD 5], guard := none }) (v := .pointer (some ⟨g, k * 2, none⟩)) rfl (by kernel_rfl) (by kernel_rfl) (by kernel_rfl) (fun _ _ _ h => h) (Or.inl ⟨by rfl, by intro W hSw; have h1 := IX.out W; go_simp⟩) hHeld ?_
              try simp only [Act.put, pS1, pS2, pS3]
              refine wpAnyH_take (i := 7) (oi := { dst := some 82, op := Op.fieldAddr 44 (Operand.tmp 81) 0, type := 0, pos := "ref.go:108", after := #[zD 6], guard := none }) (v := .pointer (some ⟨g, k * 2, none⟩)) rfl (by kernel_rfl) (by kernel_rfl) (by kernel_rfl) (fun _ _ _ h => h) (Or.inl ⟨by rfl, by intro W hSw; go_simp⟩) hHeld ?_
              try simp only [Act.put, pS1, pS2, pS3]
              refine wpAnyH_take (i := 8) (oi := { dst := some 83, op := Op.load 29 (Operand.tmp 82), type := 29, pos := "ref.go:108", after := #[zD 7], guard := none }) (v := .slice q.a q.len q.cap) rfl (by kernel_rfl) (by kernel_rfl) (by kernel_rfl) (fun _ _ _ h => h) (Or.inl ⟨by rfl, by intro W hSw; have h1 := (HQ.out W hSw.1).1; go_simp⟩) hHeld ?_
              try simp only [Act.put, pS1, pS2, pS3]
              refine wpAnyH_ready (rs := [9]) (by kernel_rfl) (by simp) ?_
              refine (AllReadyH.cons (o := { dst := some 84, op := Op.call { callee := Callee.value (Operand.func 27), args := #[Operand.tmp 75, Operand.tmp 83], argTypes := #[29, 29] }, type := 4, pos := "ref.go:108", after := #[zD 0, zD 8], guard := none }) rfl (fun K hK => ?_) AllReadyH.nil)
              go_simp
              refine (SMQ.out _ HBW.out.drew).mono ?_
              rintro e W2 ⟨rfl, hb2⟩
              have HB2 := hidd (HBW.out.drew.trans (hb2.mono HBW.out.drew.size))
              have HX2 : Hid (W2.heap[W1.heap.size]? = some (.cells #[.slice d.a d.len d.cap, .int .i64 (d.cost : Int)] 44 (0, 0))) := (hb2.block W1.heap.size (heap_lt HX.out)).trans HX.out
              clear hb2
              go_wp2_with fail
              refine hK.out _ _ ⟨HB2.out, HX2.out⟩ (fun hHeld => ?_)
              clear hK K
              try simp only [Act.put, pS1, pS2, pS3]
              refine wpAnyH_take (i := 10) (oi := { dst := some 85, op := Op.move (Operand.tmp 84), type := 4, pos := "ref.go:108", after := #[zD 9, zC 9], guard := none }) (v := .bool false) rfl (by kernel_rfl) (by kernel_rfl) (by kernel_rfl) (fun _ _ _ h => h) (Or.inl ⟨by rfl, by intro W hSw; go_simp⟩) hHeld ?_
              try simp only [Act.put, pS1, pS2, pS3]
              refine wpAnyH_take (i := 11) (oi := { dst := some 86, op := Op.move (Operand.tmp 0), type := 26, pos := "ref.go:108", after := #[zG 10], guard := some (10, true) }) (v := undef) rfl (by kernel_rfl) (by kernel_rfl) (by kernel_rfl) (fun _ _ _ h => h) (Or.inr ⟨by rfl, rfl⟩) hHeld ?_
              try simp only [Act.put, pS1, pS2, pS3]
              refine wpAnyH_take (i := 12) (oi := { dst := some 87, op := Op.nilCheck (Operand.tmp 86), type := 0, pos := "ref.go:108", after := #[zD 11, zG 10], guard := some (10, true) }) (v := undef) rfl (by kernel_rfl) (by kernel_rfl) (by kernel_rfl) (fun _ _ _ h => h) (Or.inr ⟨by rfl, rfl⟩) hHeld ?_
              try simp only [Act.put, pS1, pS2, pS3]
              refine wpAnyH_take (i := 13) (oi := { dst := some 88, op := Op.fieldAddr 62 (Operand.tmp 87) 0, type := 0, pos := "ref.go:108", after := #[zD 12, zG 10], guard := some (10, true) }) (v := undef) rfl (by kernel_rfl) (by kernel_rfl) (by kernel_rfl) (fun _ _ _ h => h) (Or.inr ⟨by rfl, rfl⟩) hHeld ?_
              try simp only [Act.put, pS1, pS2, pS3]
              refine wpAnyH_take (i := 14) (oi := { dst := some 89, op := Op.load 60 (Operand.tmp 88), type := 60, pos := "ref.go:108", after := #[zD 13, zG 10], guard := some (10, true) }) (v := undef) rfl (by kernel_rfl) (by kernel_rfl) (by kernel_rfl) (fun _ _ _ h => h) (Or.inr ⟨by rfl, rfl⟩) hHeld ?_
              try simp only [Act.put, pS1, pS2, pS3]
              refine wpAnyH_take (i := 15) (oi := { dst := some 90, op := Op.move (Operand.tmp 10), type := 3, pos := "ref.go:108", after := #[zG 10], guard := some (10, true) }) (v := undef) rfl (by kernel_rfl) (by kernel_rfl) (by kernel_rfl) (fun _ _ _ h => h) (Or.inr ⟨by rfl, rfl⟩) hHeld ?_
              try simp only [Act.put, pS1, pS2, pS3]
              refine wpAnyH_take (i := 16) (oi := { dst := some 91, op := Op.indexAddr 60 (Operand.tmp 89) (Operand.tmp 90), type := 0, pos := "ref.go:108", after := #[zD 14, zD 15, zG 10], guard := some (10, true) }) (v := undef) rfl (by kernel_rfl) (by kernel_rfl) (by kernel_rfl) (fun _ _ _ h => h) (Or.inr ⟨by rfl, rfl⟩) hHeld ?_
              try simp only [Act.put, pS1, pS2, pS3]
              refine wpAnyH_take (i := 17) (oi := { dst := some 92, op := Op.fieldAddr 44 (Operand.tmp 91) 1, type := 0, pos := "ref.go:108", after := #[zD 16, zG 10], guard := some (10, true) }) (v := undef) rfl (by kernel_rfl) (by kernel_rfl) (by kernel_rfl) (fun _ _ _ h => h) (Or.inr ⟨by rfl, rfl⟩) hHeld ?_
              try simp only [Act.put, pS1, pS2, pS3]
              refine wpAnyH_take (i := 18) (oi := { dst := some 93, op := Op.load 3 (Operand.tmp 92), type := 3, pos := "ref.go:108", after := #[zD 17, zG 10], guard := some (10, true) }) (v := undef) rfl (by kernel_rfl) (by kernel_rfl) (by kernel_rfl) (fun _ _ _ h => h) (Or.inr ⟨by rfl, rfl⟩) hHeld ?_
              try simp only [Act.put, pS1, pS2, pS3]
              refine wpAnyH_take (i := 19) (oi := { dst := some 94, op := Op.fieldAddr 44 (Operand.tmp 7) 1, type := 0, pos := "ref.go:108", after := #[zG 10], guard := some (10, true) }) (v := undef) rfl (by kernel_rfl) (by kernel_rfl) (by kernel_rfl) (fun _ _ _ h => h) (Or.inr ⟨by rfl, rfl⟩) hHeld ?_
              try simp only [Act.put, pS1, pS2, pS3]
              refine wpAnyH_take (i := 20) (oi := { dst := some 95, op := Op.load 3 (Operand.tmp 94), type := 3, pos := "ref.go:108", after := #[zD 19, zG 10], guard := some (10, true) }) (v := undef) rfl (by kernel_rfl) (by kernel_rfl) (by kernel_rfl) (fun _ _ _ h => h) (Or.inr ⟨by rfl, rfl⟩) hHeld ?_
              try simp only [Act.put, pS1, pS2, pS3]
              refine wpAnyH_take (i := 21) (oi := { dst := some 96, op := Op.binOp BinOp.gtr 3 (Operand.tmp 93) (Operand.tmp 95) 3, type := 4, pos := "ref.go:108", after := #[zD 18, zD 20, zG 10], guard := some (10, true) }) (v := undef) rfl (by kernel_rfl) (by kernel_rfl) (by kernel_rfl) (fun _ _ _ h => h) (Or.inr ⟨by rfl, rfl⟩) hHeld ?_
              try simp only [Act.put, pS1, pS2, pS3]
              refine wpAnyH_take (i := 22) (oi := { dst := some 97, op := Op.pick (Operand.tmp 85) (Operand.tmp 96) (Operand.const (Value.bool false)), type := 4, pos := "ref.go:108", after := #[zD 10, zD 21], guard := none }) (v := .bool false) rfl (by kernel_rfl) (by kernel_rfl) (by kernel_rfl) (fun _ _ _ h => h) (Or.inl ⟨by rfl, by intro W hSw; go_simp⟩) hHeld ?_
              try simp only [Act.put, pS1, pS2, pS3]
              refine wpAnyH_done (by kernel_rfl) ?_ _
              clear hHeld HBW HX HQ IX SMQ
              go_wp2
              go_roundw
              case rel => exact ⟨k + 1, d, by omega, by go_num, HN, HB2, HX2⟩
              case measure => simp [intOf]; omega
          · obtain rfl : n = k := by omega
            have HPD := HP2.out.done (Nat.le_of_eq HH.out.slen)
            have HMD := hidd HPD.1
            have hdn : ¬ ((n : Int) < (n : Int)) := by omega
            have IX := HOX
            have SMX := hidd (HH.out.same x L.may HH.out.may (.inr rfl))
            have hxc := HH.out.may.cost
            have hdcst := HPD.2.cost
            by_cases hs : rs = L.may.recs
            · rw [decide_eq_true hs] at SMX
              by_cases hcs : d.cost < x.cost
              · have hdc : decide ((d.cost : Int) < (x.cost : Int)) = true := by rw [decide_eq_true_eq]; omega
                have HSX : Hid (StOf w x (opensX L rs true)) := by
                  show StOf w x _
                  rw [HOX.out, dearer_yes hs.symm (by omega)]
                  exact HH.out.may
                have HSD : Hid (∀ V, Below w.heap.size w V → V.frozen? ⟨m, 0, none⟩ = false ∧ V.frozen? ⟨m, 3, none⟩ = false ∧ m < V.heap.size) := fun V hV => by
                  obtain ⟨-, -, -, z1, z2, z3⟩ := NX.out V x (.inr rfl) HSX.out hV
                  exact ⟨z1, z2, z3⟩
                clear HPD HP2 hlt hxc hdcst hs
                go_wp2
                refine wp_region_held_drew (S := (fun V => Below w.heap.size w V ∧ V.heap[W1.heap.size]? = some (.cells #[.slice d.a d.len d.cap, .int .i64 (d.cost : Int)] 44 (0, 0)))) (by kernel_rfl) ⟨HBW.out.drew, HX.out⟩ (fun hHeld => ?_)
                refine wpAnyH_take (i := 0) (oi := { dst := some 105, op := Op.move (Operand.tmp 2), type := 4, pos := "ref.go:112", after := #[], guard := none }) (v := .bool true) rfl (by kernel_rfl) (by kernel_rfl) (by kernel_rfl) (fun _ _ _ h => h) (Or.inl ⟨by rfl, by intro W hSw; go_simp⟩) hHeld ?_
                try simp only [Act.put, pS1, pS2, pS3]
                refine wpAnyH_take (i := 1) (oi := { dst := some 106, op := Op.move (Operand.tmp 105), type := 4, pos := "ref.go:112", after := #[zD 0], guard := none }) (v := .bool true) rfl (by kernel_rfl) (by kernel_rfl) (by kernel_rfl) (fun _ _ _ h => h) (Or.inl ⟨by rfl, by intro W hSw; go_simp⟩) hHeld ?_
                try simp only [Act.put, pS1, pS2, pS3]
                refine wpAnyH_take (i := 2) (oi := { dst := some 107, op := Op.move (Operand.tmp 0), type := 26, pos := "ref.go:112", after := #[zG 1], guard := some (1, true) }) (v := .pointer (some ⟨m, 0, none⟩)) rfl (by kernel_rfl) (by kernel_rfl) (by kernel_rfl) (fun _ _ _ h => h) (Or.inl ⟨by rfl, by intro W hSw; go_simp⟩) hHeld ?_
                try simp only [Act.put, pS1, pS2, pS3]
                refine wpAnyH_take (i := 3) (oi := { dst := some 108, op := Op.nilCheck (Operand.tmp 107), type := 0, pos := "ref.go:112", after := #[zD 2, zG 1], guard := some (1, true) }) (v := .pointer (some ⟨m, 0, none⟩)) rfl (by kernel_rfl) (by kernel_rfl) (by kernel_rfl) (fun _ _ _ h => h) (Or.inl ⟨by rfl, by intro W hSw; go_simp⟩) hHeld ?_
                try simp only [Act.put, pS1, pS2, pS3]
                refine wpAnyH_take (i := 4) (oi := { dst := some 109, op := Op.fieldAddr 62 (Operand.tmp 108) 2, type := 0, pos := "ref.go:112", after := #[zD 3, zG 1], guard := some (1, true) }) (v := .pointer (some ⟨m, 3, none⟩)) rfl (by kernel_rfl) (by kernel_rfl) (by kernel_rfl) (fun _ _ _ h => h) (Or.inl ⟨by rfl, by intro W hSw; go_simp⟩) hHeld ?_
                try simp only [Act.put, pS1, pS2, pS3]
                refine wpAnyH_take (i := 5) (oi := { dst := some 110, op := Op.load 4 (Operand.tmp 109), type := 4, pos := "ref.go:112", after := #[zD 4, zG 1], guard := some (1, true) }) (v := .bool true) rfl (by kernel_rfl) (by kernel_rfl) (by kernel_rfl) (fun _ _ _ h => h) (Or.inl ⟨by rfl, by intro W hSw; have h1 := (HC.out W hSw.1).2.2.2; go_simp⟩) hHeld ?_
                try simp only [Act.put, pS1, pS2, pS3]
                refine wpAnyH_take (i := 6) (oi := { dst := some 111, op := Op.pick (Operand.tmp 106) (Operand.tmp 110) (Operand.const (Value.bool false)), type := 4, pos := "ref.go:112", after := #[zD 1, zD 5], guard := none }) (v := .bool true) rfl (by kernel_rfl) (by kernel_rfl) (by kernel_rfl) (fun _ _ _ h => h) (Or.inl ⟨by rfl, by intro W hSw; go_simp⟩) hHeld ?_
                try simp only [Act.put, pS1, pS2, pS3]
                refine wpAnyH_take (i := 7) (oi := { dst := some 112, op := Op.move (Operand.tmp 111), type := 4, pos := "ref.go:112", after := #[zD 6, zC 1], guard := none }) (v := .bool true) rfl (by kernel_rfl) (by kernel_rfl) (by kernel_rfl) (fun _ _ _ h => h) (Or.inl ⟨by rfl, by intro W hSw; go_simp⟩) hHeld ?_
                try simp only [Act.put, pS1, pS2, pS3]
                refine wpAnyH_take (i := 8) (oi := { dst := some 113, op := Op.move (Operand.tmp 1), type := 29, pos := "ref.go:112", after := #[zG 7], guard := some (7, true) }) (v := .slice a len cap) rfl (by kernel_rfl) (by kernel_rfl) (by kernel_rfl) (fun _ _ _ h => h) (Or.inl ⟨by rfl, by intro W hSw; go_simp⟩) hHeld ?_
                try simp only [Act.put, pS1, pS2, pS3]
                refine wpAnyH_take (i := 9) (oi := { dst := some 114, op := Op.move (Operand.tmp 0), type := 26, pos := "ref.go:112", after := #[zG 7], guard := some (7, true) }) (v := .pointer (some ⟨m, 0, none⟩)) rfl (by kernel_rfl) (by kernel_rfl) (by kernel_rfl) (fun _ _ _ h => h) (Or.inl ⟨by rfl, by intro W hSw; go_simp⟩) hHeld ?_
                try simp only [Act.put, pS1, pS2, pS3]
                refine wpAnyH_take (i := 10) (oi := { dst := some 115, op := Op.nilCheck (Operand.tmp 114), type := 0, pos := "ref.go:112", after := #[zD 9, zG 7], guard := some (7, true) }) (v := .pointer (some ⟨m, 0, none⟩)) rfl (by kernel_rfl) (by kernel_rfl) (by kernel_rfl) (fun _ _ _ h => h) (Or.inl ⟨by rfl, by intro W hSw; go_simp⟩) hHeld ?_
                try simp only [Act.put, pS1, pS2, pS3]
                refine wpAnyH_take (i := 11) (oi := { dst := some 116, op := Op.fieldAddr 62 (Operand.tmp 115) 1, type := 0, pos := "ref.go:112", after := #[zD 10, zG 7], guard := some (7, true) }) (v := .pointer (some ⟨m, 1, none⟩)) rfl (by kernel_rfl) (by kernel_rfl) (by kernel_rfl) (fun _ _ _ h => h) (Or.inl ⟨by rfl, by intro W hSw; go_simp⟩) hHeld ?_
                try simp only [Act.put, pS1, pS2, pS3]
                refine wpAnyH_take (i := 12) (oi := { dst := some 117, op := Op.fieldAddr 44 (Operand.tmp 116) 0, type := 0, pos := "ref.go:112", after := #[zD 11, zG 7], guard := some (7, true) }) (v := .pointer (some ⟨m, 1, none⟩)) rfl (by kernel_rfl) (by kernel_rfl) (by kernel_rfl) (fun _ _ _ h => h) (Or.inl ⟨by rfl, by intro W hSw; go_simp⟩) hHeld ?_
                try simp only [Act.put, pS1, pS2, pS3]
                refine wpAnyH_take (i := 13) (oi := { dst := some 118, op := Op.load 29 (Operand.tmp 117), type := 29, pos := "ref.go:112", after := #[zD 12, zG 7], guard := some (7, true) }) (v := .slice x.a x.len x.cap) rfl (by kernel_rfl) (by kernel_rfl) (by kernel_rfl) (fun _ _ _ h => h) (Or.inl ⟨by rfl, by intro W hSw; have h1 := (HC.out W hSw.1).2.1; go_simp⟩) hHeld ?_
                try simp only [Act.put, pS1, pS2, pS3]
                refine wpAnyH_ready (rs := [14]) (by kernel_rfl) (by simp) ?_
                refine (AllReadyH.cons (o := { dst := some 119, op := Op.call { callee := Callee.value (Operand.func 27), args := #[Operand.tmp 113, Operand.tmp 118], argTypes := #[29, 29] }, type := 4, pos := "ref.go:112", after := #[zD 8, zD 13, zC 7, zG 7], guard := some (7, true) }) rfl (fun K hK => ?_) AllReadyH.nil)
                go_simp
                refine (SMX.out _ HBW.out.drew).mono ?_
                rintro e W2 ⟨rfl, hb2⟩
                have HB2 := hidd (HBW.out.drew.trans (hb2.mono HBW.out.drew.size))
                have HX2 : Hid (W2.heap[W1.heap.size]? = some (.cells #[.slice d.a d.len d.cap, .int .i64 (d.cost : Int)] 44 (0, 0))) := (hb2.block W1.heap.size (heap_lt HX.out)).trans HX.out
                clear hb2
                go_wp2_with fail
                refine hK.out _ _ ⟨HB2.out, HX2.out⟩ (fun hHeld => ?_)
                clear hK K
                try simp only [Act.put, pS1, pS2, pS3]
                refine wpAnyH_take (i := 15) (oi := { dst := some 120, op := Op.pick (Operand.tmp 112) (Operand.tmp 119) (Operand.const (Value.bool false)), type := 4, pos := "ref.go:112", after := #[zD 7, zD 14], guard := none }) (v := .bool true) rfl (by kernel_rfl) (by kernel_rfl) (by kernel_rfl) (fun _ _ _ h => h) (Or.inl ⟨by rfl, by intro W hSw; go_simp⟩) hHeld ?_
                try simp only [Act.put, pS1, pS2, pS3]
                refine wpAnyH_take (i := 16) (oi := { dst := some 121, op := Op.move (Operand.tmp 120), type := 4, pos := "ref.go:112", after := #[zD 15, zC 14], guard := none }) (v := .bool true) rfl (by kernel_rfl) (by kernel_rfl) (by kernel_rfl) (fun _ _ _ h => h) (Or.inl ⟨by rfl, by intro W hSw; go_simp⟩) hHeld ?_
                try simp only [Act.put, pS1, pS2, pS3]
                refine wpAnyH_take (i := 17) (oi := { dst := some 122, op := Op.move (Operand.tmp 0), type := 26, pos := "ref.go:112", after := #[zG 16], guard := some (16, true) }) (v := .pointer (some ⟨m, 0, none⟩)) rfl (by kernel_rfl) (by kernel_rfl) (by kernel_rfl) (fun _ _ _ h => h) (Or.inl ⟨by rfl, by intro W hSw; go_simp⟩) hHeld ?_
                try simp only [Act.put, pS1, pS2, pS3]
                refine wpAnyH_take (i := 18) (oi := { dst := some 123, op := Op.nilCheck (Operand.tmp 122), type := 0, pos := "ref.go:112", after := #[zD 17, zG 16], guard := some (16, true) }) (v := .pointer (some ⟨m, 0, none⟩)) rfl (by kernel_rfl) (by kernel_rfl) (by kernel_rfl) (fun _ _ _ h => h) (Or.inl ⟨by rfl, by intro W hSw; go_simp⟩) hHeld ?_
                try simp only [Act.put, pS1, pS2, pS3]
                refine wpAnyH_take (i := 19) (oi := { dst := some 124, op := Op.fieldAddr 62 (Operand.tmp 123) 1, type := 0, pos := "ref.go:112", after := #[zD 18, zG 16], guard := some (16, true) }) (v := .pointer (some ⟨m, 1, none⟩)) rfl (by kernel_rfl) (by kernel_rfl) (by kernel_rfl) (fun _ _ _ h => h) (Or.inl ⟨by rfl, by intro W hSw; go_simp⟩) hHeld ?_
                try simp only [Act.put, pS1, pS2, pS3]
                refine wpAnyH_take (i := 20) (oi := { dst := some 125, op := Op.fieldAddr 44 (Operand.tmp 124) 1, type := 0, pos := "ref.go:112", after := #[zD 19, zG 16], guard := some (16, true) }) (v := .pointer (some ⟨m, 2, none⟩)) rfl (by kernel_rfl) (by kernel_rfl) (by kernel_rfl) (fun _ _ _ h => h) (Or.inl ⟨by rfl, by intro W hSw; go_simp⟩) hHeld ?_
                try simp only [Act.put, pS1, pS2, pS3]
                refine wpAnyH_take (i := 21) (oi := { dst := some 126, op := Op.load 3 (Operand.tmp 125), type := 3, pos := "ref.go:112", after := #[zD 20, zG 16], guard := some (16, true) }) (v := .int .i64 (x.cost : Int)) rfl (by kernel_rfl) (by kernel_rfl) (by kernel_rfl) (fun _ _ _ h => h) (Or.inl ⟨by rfl, by intro W hSw; have h1 := (HC.out W hSw.1).2.2.1; go_simp⟩) hHeld ?_
                try simp only [Act.put, pS1, pS2, pS3]
                refine wpAnyH_take (i := 22) (oi := { dst := some 127, op := Op.fieldAddr 44 (Operand.tmp 7) 1, type := 0, pos := "ref.go:112", after := #[zG 16], guard := some (16, true) }) (v := .pointer (some ⟨W1.heap.size, 1, none⟩)) rfl (by kernel_rfl) (by kernel_rfl) (by kernel_rfl) (fun _ _ _ h => h) (Or.inl ⟨by rfl, by intro W hSw; go_simp⟩) hHeld ?_
                try simp only [Act.put, pS1, pS2, pS3]
                refine wpAnyH_take (i := 23) (oi := { dst := some 128, op := Op.load 3 (Operand.tmp 127), type := 3, pos := "ref.go:112", after := #[zD 22, zG 16], guard := some (16, true) }) (v := .int .i64 (d.cost : Int)) rfl (by kernel_rfl) (by kernel_rfl) (by kernel_rfl) (fun _ _ _ h => h) (Or.inl ⟨by rfl, by intro W hSw; have h1 := row1 hSw.2; go_simp⟩) hHeld ?_
                try simp only [Act.put, pS1, pS2, pS3]
                refine wpAnyH_take (i := 24) (oi := { dst := some 129, op := Op.binOp BinOp.gtr 3 (Operand.tmp 126) (Operand.tmp 128) 3, type := 4, pos := "ref.go:112", after := #[zD 21, zD 23, zG 16], guard := some (16, true) }) (v := .bool true) rfl (by kernel_rfl) (by kernel_rfl) (by kernel_rfl) (fun _ _ _ h => h) (Or.inl ⟨by rfl, by intro W hSw; go_simp⟩) hHeld ?_
                try simp only [Act.put, pS1, pS2, pS3]
                refine wpAnyH_take (i := 25) (oi := { dst := some 130, op := Op.pick (Operand.tmp 121) (Operand.tmp 129) (Operand.const (Value.bool false)), type := 4, pos := "ref.go:112", after := #[zD 16, zD 24], guard := none }) (v := .bool true) rfl (by kernel_rfl) (by kernel_rfl) (by kernel_rfl) (fun _ _ _ h => h) (Or.inl ⟨by rfl, by intro W hSw; go_simp⟩) hHeld ?_
                try simp only [Act.put, pS1, pS2, pS3]
                refine wpAnyH_done (by kernel_rfl) ?_ _
                clear hHeld HBW HX
                obtain ⟨m0, m1, m2, m3⟩ := HC.out W2 HB2.out
                obtain ⟨zf0, zf3, hmW⟩ := HSD.out W2 HB2.out
                have x0 := row0 HX2.out
                have x1 := row1 HX2.out
                have xf0 := frozen_of_row W2 W1.heap.size 0 _ _ HX2.out
                have xf1 := frozen_of_row W2 W1.heap.size 1 _ _ HX2.out
                have HB3 : Hid (Below w.heap.size w ((W2.setCell ⟨W1.heap.size, 0, none⟩ (.slice x.a x.len x.cap)).setCell ⟨W1.heap.size, 1, none⟩ (.int .i64 (x.cost : Int)))) := (HB2.out.setCell HGW.out _).setCell HGW.out _
                obtain ⟨hfin, -⟩ := NX.out ((W2.setCell ⟨W1.heap.size, 0, none⟩ (.slice x.a x.len x.cap)).setCell ⟨W1.heap.size, 1, none⟩ (.int .i64 (x.cost : Int))) x (.inr rfl) HSX.out HB3.out
                rw [show ((W2.setCell ⟨W1.heap.size, 0, none⟩ (.slice x.a x.len x.cap)).setCell ⟨W1.heap.size, 1, none⟩ (.int .i64 (x.cost : Int))).heap.size = W2.heap.size by simp] at hfin
                have HF := hidd hfin
                have hgm : m < W1.heap.size := HGM.out
                clear hfin HC NX SMX IX HB3 HSD HSX
                go_wp2
                go_ret
                exact ⟨by rw [HFD.out]; rfl, HF.out⟩
              · have hdc : decide ((d.cost : Int) < (x.cost : Int)) = false := by rw [decide_eq_false_iff_not]; omega
                have HSD : Hid (StOf w d (opensX L rs true)) := by
                  show StOf w d _
                  rw [HOX.out, dearer_no (fun h => by have := h.2; omega)]
                  exact HPD.2
                clear HPD HP2 hlt hxc hdcst hs
                go_wp2
                refine wp_region_held_drew (S := (fun V => Below w.heap.size w V ∧ V.heap[W1.heap.size]? = some (.cells #[.slice d.a d.len d.cap, .int .i64 (d.cost : Int)] 44 (0, 0)))) (by kernel_rfl) ⟨HBW.out.drew, HX.out⟩ (fun hHeld => ?_)
                refine wpAnyH_take (i := 0) (oi := { dst := some 105, op := Op.move (Operand.tmp 2), type := 4, pos := "ref.go:112", after := #[], guard := none }) (v := .bool true) rfl (by kernel_rfl) (by kernel_rfl) (by kernel_rfl) (fun _ _ _ h => h) (Or.inl ⟨by rfl, by intro W hSw; go_simp⟩) hHeld ?_
                try simp only [Act.put, pS1, pS2, pS3]
                refine wpAnyH_take (i := 1) (oi := { dst := some 106, op := Op.move (Operand.tmp 105), type := 4, pos := "ref.go:112", after := #[zD 0], guard := none }) (v := .bool true) rfl (by kernel_rfl) (by kernel_rfl) (by kernel_rfl) (fun _ _ _ h => h) (Or.inl ⟨by rfl, by intro W hSw; go_simp⟩) hHeld ?_
                try simp only [Act.put, pS1, pS2, pS3]
                refine wpAnyH_take (i := 2) (oi := { dst := some 107, op := Op.move (Operand.tmp 0), type := 26, pos := "ref.go:112", after := #[zG 1], guard := some (1, true) }) (v := .pointer (some ⟨m, 0, none⟩)) rfl (by kernel_rfl) (by kernel_rfl) (by kernel_rfl) (fun _ _ _ h => h) (Or.inl ⟨by rfl, by intro W hSw; go_simp⟩) hHeld ?_
                try simp only [Act.put, pS1, pS2, pS3]
                refine wpAnyH_take (i := 3) (oi := { dst := some 108, op := Op.nilCheck (Operand.tmp 107), type := 0, pos := "ref.go:112", after := #[zD 2, zG 1], guard := some (1, true) }) (v := .pointer (some ⟨m, 0, none⟩)) rfl (by kernel_rfl) (by kernel_rfl) (by kernel_rfl) (fun _ _ _ h => h) (Or.inl ⟨by rfl, by intro W hSw; go_simp⟩) hHeld ?_
                try simp only [Act.put, pS1, pS2, pS3]
                refine wpAnyH_take (i := 4) (oi := { dst := some 109, op := Op.fieldAddr 62 (Operand.tmp 108) 2, type := 0, pos := "ref.go:112", after := #[zD 3, zG 1], guard := some (1, true) }) (v := .pointer (some ⟨m, 3, none⟩)) rfl (by kernel_rfl) (by kernel_rfl) (by kernel_rfl) (fun _ _ _ h => h) (Or.inl ⟨by rfl, by intro W hSw; go_simp⟩) hHeld ?_
                try simp only [Act.put, pS1, pS2, pS3]
                refine wpAnyH_take (i := 5) (oi := { dst := some 110, op := Op.load 4 (Operand.tmp 109), type := 4, pos := "ref.go:112", after := #[zD 4, zG 1], guard := some (1, true) }) (v := .bool true) rfl (by kernel_rfl) (by kernel_rfl) (by kernel_rfl) (fun _ _ _ h => h) (Or.inl ⟨by rfl, by intro W hSw; have h1 := (HC.out W hSw.1).2.2.2; go_simp⟩) hHeld ?_
                try simp only [Act.put, pS1, pS2, pS3]
                refine wpAnyH_take (i := 6) (oi := { dst := some 111, op := Op.pick (Operand.tmp 106) (Operand.tmp 110) (Operand.const (Value.bool false)), type := 4, pos := "ref.go:112", after := #[zD 1, zD 5], guard := none }) (v := .bool true) rfl (by kernel_rfl) (by kernel_rfl) (by kernel_rfl) (fun _ _ _ h => h) (Or.inl ⟨by rfl, by intro W hSw; go_simp⟩) hHeld ?_
                try simp only [Act.put, pS1, pS2, pS3]
                refine wpAnyH_take (i := 7) (oi := { dst := some 112, op := Op.move (Operand.tmp 111), type := 4, pos := "ref.go:112", after := #[zD 6, zC 1], guard := none }) (v := .bool true) rfl (by kernel_rfl) (by kernel_rfl) (by kernel_rfl) (fun _ _ _ h => h) (Or.inl ⟨by rfl, by intro W hSw; go_simp⟩) hHeld ?_
                try simp only [Act.put, pS1, pS2, pS3]
                refine wpAnyH_take (i := 8) (oi := { dst := some 113, op := Op.move (Operand.tmp 1), type := 29, pos := "ref.go:112", after := #[zG 7], guard := some (7, true) }) (v := .slice a len cap) rfl (by kernel_rfl) (by kernel_rfl) (by kernel_rfl) (fun _ _ _ h => h) (Or.inl ⟨by rfl, by intro W hSw; go_simp⟩) hHeld ?_
                try simp only [Act.put, pS1, pS2, pS3]
                refine wpAnyH_take (i := 9) (oi := { dst := some 114, op := Op.move (Operand.tmp 0), type := 26, pos := "ref.go:112", after := #[zG 7], guard := some (7, true) }) (v := .pointer (some ⟨m, 0, none⟩)) rfl (by kernel_rfl) (by kernel_rfl) (by kernel_rfl) (fun _ _ _ h => h) (Or.inl ⟨by rfl, by intro W hSw; go_simp⟩) hHeld ?_
                try simp only [Act.put, pS1, pS2, pS3]
                refine wpAnyH_take (i := 10) (oi := { dst := some 115, op := Op.nilCheck (Operand.tmp 114), type := 0, pos := "ref.go:112", after := #[zD 9, zG 7], guard := some (7, true) }) (v := .pointer (some ⟨m, 0, none⟩)) rfl (by kernel_rfl) (by kernel_rfl) (by kernel_rfl) (fun _ _ _ h => h) (Or.inl ⟨by rfl, by intro W hSw; go_simp⟩) hHeld ?_
                try simp only [Act.put, pS1, pS2, pS3]
                refine wpAnyH_take (i := 11) (oi := { dst := some 116, op := Op.fieldAddr 62 (Operand.tmp 115) 1, type := 0, pos := "ref.go:112", after := #[zD 10, zG 7], guard := some (7, true) }) (v := .pointer (some ⟨m, 1, none⟩)) rfl (by kernel_rfl) (by kernel_rfl) (by kernel_rfl) (fun _ _ _ h => h) (Or.inl ⟨by rfl, by intro W hSw; go_simp⟩) hHeld ?_
                try simp only [Act.put, pS1, pS2, pS3]
                refine wpAnyH_take (i := 12) (oi := { dst := some 117, op := Op.fieldAddr 44 (Operand.tmp 116) 0, type := 0, pos := "ref.go:112", after := #[zD 11, zG 7], guard := some (7, true) }) (v := .pointer (some ⟨m, 1, none⟩)) rfl (by kernel_rfl) (by kernel_rfl) (by kernel_rfl) (fun _ _ _ h => h) (Or.inl ⟨by rfl, by intro W hSw; go_simp⟩) hHeld ?_
                try simp only [Act.put, pS1, pS2, pS3]
                refine wpAnyH_take (i := 13) (oi := { dst := some 118, op := Op.load 29 (Operand.tmp 117), type := 29, pos := "ref.go:112", after := #[zD 12, zG 7], guard := some (7, true) }) (v := .slice x.a x.len x.cap) rfl (by kernel_rfl) (by kernel_rfl) (by kernel_rfl) (fun _ _ _ h => h) (Or.inl ⟨by rfl, by intro W hSw; have h1 := (HC.out W hSw.1).2.1; go_simp⟩) hHeld ?_
                try simp only [Act.put, pS1, pS2, pS3]
                refine wpAnyH_ready (rs := [14]) (by kernel_rfl) (by simp) ?_
                refine (AllReadyH.cons (o := { dst := some 119, op := Op.call { callee := Callee.value (Operand.func 27), args := #[Operand.tmp 113, Operand.tmp 118], argTypes := #[29, 29] }, type := 4, pos := "ref.go:112", after := #[zD 8, zD 13, zC 7, zG 7], guard := some (7, true) }) rfl (fun K hK => ?_) AllReadyH.nil)
                go_simp
                refine (SMX.out _ HBW.out.drew).mono ?_
                rintro e W2 ⟨rfl, hb2⟩
                have HB2 := hidd (HBW.out.drew.trans (hb2.mono HBW.out.drew.size))
                have HX2 : Hid (W2.heap[W1.heap.size]? = some (.cells #[.slice d.a d.len d.cap, .int .i64 (d.cost : Int)] 44 (0, 0))) := (hb2.block W1.heap.size (heap_lt HX.out)).trans HX.out
                clear hb2
                go_wp2_with fail
                refine hK.out _ _ ⟨HB2.out, HX2.out⟩ (fun hHeld => ?_)
                clear hK K
                try simp only [Act.put, pS1, pS2, pS3]
                refine wpAnyH_take (i := 15) (oi := { dst := some 120, op := Op.pick (Operand.tmp 112) (Operand.tmp 119) (Operand.const (Value.bool false)), type := 4, pos := "ref.go:112", after := #[zD 7, zD 14], guard := none }) (v := .bool true) rfl (by kernel_rfl) (by kernel_rfl) (by kernel_rfl) (fun _ _ _ h => h) (Or.inl ⟨by rfl, by intro W hSw; go_simp⟩) hHeld ?_
                try simp only [Act.put, pS1, pS2, pS3]
                refine wpAnyH_take (i := 16) (oi := { dst := some 121, op := Op.move (Operand.tmp 120), type := 4, pos := "ref.go:112", after := #[zD 15, zC 14], guard := none }) (v := .bool true) rfl (by kernel_rfl) (by kernel_rfl) (by kernel_rfl) (fun _ _ _ h => h) (Or.inl ⟨by rfl, by intro W hSw; go_simp⟩) hHeld ?_
                try simp only [Act.put, pS1, pS2, pS3]
                refine wpAnyH_take (i := 17) (oi := { dst := some 122, op := Op.move (Operand.tmp 0), type := 26, pos := "ref.go:112", after := #[zG 16], guard := some (16, true) }) (v := .pointer (some ⟨m, 0, none⟩)) rfl (by kernel_rfl) (by kernel_rfl) (by kernel_rfl) (fun _ _ _ h => h) (Or.inl ⟨by rfl, by intro W hSw; go_simp⟩) hHeld ?_
                try simp only [Act.put, pS1, pS2, pS3]
                refine wpAnyH_take (i := 18) (oi := { dst := some 123, op := Op.nilCheck (Operand.tmp 122), type := 0, pos := "ref.go:112", after := #[zD 17, zG 16], guard := some (16, true) }) (v := .pointer (some ⟨m, 0, none⟩)) rfl (by kernel_rfl) (by kernel_rfl) (by kernel_rfl) (fun _ _ _ h => h) (Or.inl ⟨by rfl, by intro W hSw; go_simp⟩) hHeld ?_
                try simp only [Act.put, pS1, pS2, pS3]
                refine wpAnyH_take (i := 19) (oi := { dst := some 124, op := Op.fieldAddr 62 (Operand.tmp 123) 1, type := 0, pos := "ref.go:112", after := #[zD 18, zG 16], guard := some (16, true) }) (v := .pointer (some ⟨m, 1, none⟩)) rfl (by kernel_rfl) (by kernel_rfl) (by kernel_rfl) (fun _ _ _ h => h) (Or.inl ⟨by rfl, by intro W hSw; go_simp⟩) hHeld ?_
                try simp only [Act.put, pS1, pS2, pS3]
                refine wpAnyH_take (i := 20) (oi := { dst := some 125, op := Op.fieldAddr 44 (Operand.tmp 124) 1, type := 0, pos := "ref.go:112", after := #[zD 19, zG 16], guard := some (16, true) }) (v := .pointer (some ⟨m, 2, none⟩)) rfl (by kernel_rfl) (by kernel_rfl) (by kernel_rfl) (fun _ _ _ h => h) (Or.inl ⟨by rfl, by intro W hSw; go_simp⟩) hHeld ?_
                try simp only [Act.put, pS1, pS2, pS3]
                refine wpAnyH_take (i := 21) (oi := { dst := some 126, op := Op.load 3 (Operand.tmp 125), type := 3, pos := "ref.go:112", after := #[zD 20, zG 16], guard := some (16, true) }) (v := .int .i64 (x.cost : Int)) rfl (by kernel_rfl) (by kernel_rfl) (by kernel_rfl) (fun _ _ _ h => h) (Or.inl ⟨by rfl, by intro W hSw; have h1 := (HC.out W hSw.1).2.2.1; go_simp⟩) hHeld ?_
                try simp only [Act.put, pS1, pS2, pS3]
                refine wpAnyH_take (i := 22) (oi := { dst := some 127, op := Op.fieldAddr 44 (Operand.tmp 7) 1, type := 0, pos := "ref.go:112", after := #[zG 16], guard := some (16, true) }) (v := .pointer (some ⟨W1.heap.size, 1, none⟩)) rfl (by kernel_rfl) (by kernel_rfl) (by kernel_rfl) (fun _ _ _ h => h) (Or.inl ⟨by rfl, by intro W hSw; go_simp⟩) hHeld ?_
                try simp only [Act.put, pS1, pS2, pS3]
                refine wpAnyH_take (i := 23) (oi := { dst := some 128, op := Op.load 3 (Operand.tmp 127), type := 3, pos := "ref.go:112", after := #[zD 22, zG 16], guard := some (16, true) }) (v := .int .i64 (d.cost : Int)) rfl (by kernel_rfl) (by kernel_rfl) (by kernel_rfl) (fun _ _ _ h => h) (Or.inl ⟨by rfl, by intro W hSw; have h1 := row1 hSw.2; go_simp⟩) hHeld ?_
                try simp only [Act.put, pS1, pS2, pS3]
                refine wpAnyH_take (i := 24) (oi := { dst := some 129, op := Op.binOp BinOp.gtr 3 (Operand.tmp 126) (Operand.tmp 128) 3, type := 4, pos := "ref.go:112", after := #[zD 21, zD 23, zG 16], guard := some (16, true) }) (v := .bool false) rfl (by kernel_rfl) (by kernel_rfl) (by kernel_rfl) (fun _ _ _ h => h) (Or.inl ⟨by rfl, by intro W hSw; go_simp⟩) hHeld ?_
                try simp only [Act.put, pS1, pS2, pS3]
                refine wpAnyH_take (i := 25) (oi := { dst := some 130, op := Op.pick (Operand.tmp 121) (Operand.tmp 129) (Operand.const (Value.bool false)), type := 4, pos := "ref.go:112", after := #[zD 16, zD 24], guard := none }) (v := .bool false) rfl (by kernel_rfl) (by kernel_rfl) (by kernel_rfl) (fun _ _ _ h => h) (Or.inl ⟨by rfl, by intro W hSw; go_simp⟩) hHeld ?_
                try simp only [Act.put, pS1, pS2, pS3]
                refine wpAnyH_done (by kernel_rfl) ?_ _
                clear hHeld HBW HX
                have x0 := row0 HX2.out
                have x1 := row1 HX2.out
                have xf0 := frozen_of_row W2 W1.heap.size 0 _ _ HX2.out
                have xf1 := frozen_of_row W2 W1.heap.size 1 _ _ HX2.out
                obtain ⟨-, z0, z3, zf0, zf3, hmW⟩ := NX.out W2 d HMD.out HSD.out HB2.out
                obtain ⟨hfin, -⟩ := NX.out W2 d HMD.out HSD.out HB2.out
                have HF := hidd hfin
                clear hfin
                clear HC NX SMX IX
                go_wp2
                go_ret
                exact ⟨by rw [HFD.out]; rfl, HF.out⟩
            · rw [decide_eq_false hs] at SMX
              have HSD : Hid (StOf w d (opensX L rs true)) := by
                show StOf w d _
                rw [HOX.out, dearer_no (fun h => hs h.1.symm)]
                exact HPD.2
              clear HPD HP2 hlt hxc hdcst hs
              go_wp2
              refine wp_region_held_drew (S := (fun V => Below w.heap.size w V ∧ V.heap[W1.heap.size]? = some (.cells #[.slice d.a d.len d.cap, .int .i64 (d.cost : Int)] 44 (0, 0)))) (by kernel_rfl) ⟨HBW.out.drew, HX.out⟩ (fun hHeld => ?_)
              refine wpAnyH_take (i := 0) (oi := { dst := some 105, op := Op.move (Operand.tmp 2), type := 4, pos := "ref.go:112", after := #[], guard := none }) (v := .bool true) rfl (by kernel_rfl) (by kernel_rfl) (by kernel_rfl) (fun _ _ _ h => h) (Or.inl ⟨by rfl, by intro W hSw; go_simp⟩) hHeld ?_
              try simp only [Act.put, pS1, pS2, pS3]
              refine wpAnyH_take (i := 1) (oi := { dst := some 106, op := Op.move (Operand.tmp 105), type := 4, pos := "ref.go:112", after := #[zD 0], guard := none }) (v := .bool true) rfl (by kernel_rfl) (by kernel_rfl) (by kernel_rfl) (fun _ _ _ h => h) (Or.inl ⟨by rfl, by intro W hSw; go_simp⟩) hHeld ?_
              try simp only [Act.put, pS1, pS2, pS3]
              refine wpAnyH_take (i := 2) (oi := { dst := some 107, op := Op.move (Operand.tmp 0), type := 26, pos := "ref.go:112", after := #[zG 1], guard := some (1, true) }) (v := .pointer (some ⟨m, 0, none⟩)) rfl (by kernel_rfl) (by kernel_rfl) (by kernel_rfl) (fun _ _ _ h => h) (Or.inl ⟨by rfl, by intro W hSw; go_simp⟩) hHeld ?_
              try simp only [Act.put, pS1, pS2, pS3]
              refine wpAnyH_take (i := 3) (oi := { dst := some 108, op := Op.nilCheck (Operand.tmp 107), type := 0, pos := "ref.go:112", after := #[zD 2, zG 1], guard := some (1, true) }) (v := .pointer (some ⟨m, 0, none⟩)) rfl (by kernel_rfl) (by kernel_rfl) (by kernel_rfl) (fun _ _ _ h => h) (Or.inl ⟨by rfl, by intro W hSw; go_simp⟩) hHeld ?_
              try simp only [Act.put, pS1, pS2, pS3]
              refine wpAnyH_take (i := 4) (oi := { dst := some 109, op := Op.fieldAddr 62 (Operand.tmp 108) 2, type := 0, pos := "ref.go:112", after := #[zD 3, zG 1], guard := some (1, true) }) (v := .pointer (some ⟨m, 3, none⟩)) rfl (by kernel_rfl) (by kernel_rfl) (by kernel_rfl) (fun _ _ _ h => h) (Or.inl ⟨by rfl, by intro W hSw; go_simp⟩) hHeld ?_
              try simp only [Act.put, pS1, pS2, pS3]
              refine wpAnyH_take (i := 5) (oi := { dst := some 110, op := Op.load 4 (Operand.tmp 109), type := 4, pos := "ref.go:112", after := #[zD 4, zG 1], guard := some (1, true) }) (v := .bool true) rfl (by kernel_rfl) (by kernel_rfl) (by kernel_rfl) (fun _ _ _ h => h) (Or.inl ⟨by rfl, by intro W hSw; have h1 := (HC.out W hSw.1).2.2.2; go_simp⟩) hHeld ?_
              try simp only [Act.put, pS1, pS2, pS3]
              refine wpAnyH_take (i := 6) (oi := { dst := some 111, op := Op.pick (Operand.tmp 106) (Operand.tmp 110) (Operand.const (Value.bool false)), type := 4, pos := "ref.go:112", after := #[zD 1, zD 5], guard := none }) (v := .bool true) rfl (by kernel_rfl) (by kernel_rfl) (by kernel_rfl) (fun _ _ _ h => h) (Or.inl ⟨by rfl, by intro W hSw; go_simp⟩) hHeld ?_
              try simp only [Act.put, pS1, pS2, pS3]
              refine wpAnyH_take (i := 7) (oi := { dst := some 112, op := Op.move (Operand.tmp 111), type := 4, pos := "ref.go:112", after := #[zD 6, zC 1], guard := none }) (v := .bool true) rfl (by kernel_rfl) (by kernel_rfl) (by kernel_rfl) (fun _ _ _ h => h) (Or.inl ⟨by rfl, by intro W hSw; go_simp⟩) hHeld ?_
              try simp only [Act.put, pS1, pS2, pS3]
              refine wpAnyH_take (i := 8) (oi := { dst := some 113, op := Op.move (Operand.tmp 1), type := 29, pos := "ref.go:112", after := #[zG 7], guard := some (7, true) }) (v := .slice a len cap) rfl (by kernel_rfl) (by kernel_rfl) (by kernel_rfl) (fun _ _ _ h => h) (Or.inl ⟨by rfl, by intro W hSw; go_simp⟩) hHeld ?_
              try simp only [Act.put, pS1, pS2, pS3]
              refine wpAnyH_take (i := 9) (oi := { dst := some 114, op := Op.move (Operand.tmp 0), type := 26, pos := "ref.go:112", after := #[zG 7], guard := some (7, true) }) (v := .pointer (some ⟨m, 0, none⟩)) rfl (by kernel_rfl) (by kernel_rfl) (by kernel_rfl) (fun _ _ _ h => h) (Or.inl ⟨by rfl, by intro W hSw; go_simp⟩) hHeld ?_
              try simp only [Act.put, pS1, pS2, pS3]
              refine wpAnyH_take (i := 10) (oi := { dst := some 115, op := Op.nilCheck (Operand.tmp 114), type := 0, pos := "ref.go:112", after := #[zD 9, zG 7], guard := some (7, true) }) (v := .pointer (some ⟨m, 0, none⟩)) rfl (by kernel_rfl) (by kernel_rfl) (by kernel_rfl) (fun _ _ _ h => h) (Or.inl ⟨by rfl, by intro W hSw; go_simp⟩) hHeld ?_
              try simp only [Act.put, pS1, pS2, pS3]
              refine wpAnyH_take (i := 11) (oi := { dst := some 116, op := Op.fieldAddr 62 (Operand.tmp 115) 1, type := 0, pos := "ref.go:112", after := #[zD 10, zG 7], guard := some (7, true) }) (v := .pointer (some ⟨m, 1, none⟩)) rfl (by kernel_rfl) (by kernel_rfl) (by kernel_rfl) (fun _ _ _ h => h) (Or.inl ⟨by rfl, by intro W hSw; go_simp⟩) hHeld ?_
              try simp only [Act.put, pS1, pS2, pS3]
              refine wpAnyH_take (i := 12) (oi := { dst := some 117, op := Op.fieldAddr 44 (Operand.tmp 116) 0, type := 0, pos := "ref.go:112", after := #[zD 11, zG 7], guard := some (7, true) }) (v := .pointer (some ⟨m, 1, none⟩)) rfl (by kernel_rfl) (by kernel_rfl) (by kernel_rfl) (fun _ _ _ h => h) (Or.inl ⟨by rfl, by intro W hSw; go_simp⟩) hHeld ?_
              try simp only [Act.put, pS1, pS2, pS3]
              refine wpAnyH_take (i := 13) (oi := { dst := some 118, op := Op.load 29 (Operand.tmp 117), type := 29, pos := "ref.go:112", after := #[zD 12, zG 7], guard := some (7, true) }) (v := .slice x.a x.len x.cap) rfl (by kernel_rfl) (by kernel_rfl) (by kernel_rfl) (fun _ _ _ h => h) (Or.inl ⟨by rfl, by intro W hSw; have h1 := (HC.out W hSw.1).2.1; go_simp⟩) hHeld ?_
              try simp only [Act.put, pS1, pS2, pS3]
              refine wpAnyH_ready (rs := [14]) (by kernel_rfl) (by simp) ?_
              refine (AllReadyH.cons (o := { dst := some 119, op := Op.call { callee := Callee.value (Operand.func 27), args := #[Operand.tmp 113, Operand.tmp 118], argTypes := #[29, 29] }, type := 4, pos := "ref.go:112", after := #[zD 8, zD 13, zC 7, zG 7], guard := some (7, true) }) rfl (fun K hK => ?_) AllReadyH.nil)
              go_simp
              refine (SMX.out _ HBW.out.drew).mono ?_
              rintro e W2 ⟨rfl, hb2⟩
              have HB2 := hidd (HBW.out.drew.trans (hb2.mono HBW.out.drew.size))
              have HX2 : Hid (W2.heap[W1.heap.size]? = some (.cells #[.slice d.a d.len d.cap, .int .i64 (d.cost : Int)] 44 (0, 0))) := (hb2.block W1.heap.size (heap_lt HX.out)).trans HX.out
              clear hb2
              go_wp2_with fail
              refine hK.out _ _ ⟨HB2.out, HX2.out⟩ (fun hHeld => ?_)
              clear hK K
              try simp only [Act.put, pS1, pS2, pS3]
              refine wpAnyH_take (i := 15) (oi := { dst := some 120, op := Op.pick (Operand.tmp 112) (Operand.tmp 119) (Operand.const (Value.bool false)), type := 4, pos := "ref.go:112", after := #[zD 7, zD 14], guard := none }) (v := .bool false) rfl (by kernel_rfl) (by kernel_rfl) (by kernel_rfl) (fun _ _ _ h => h) (Or.inl ⟨by rfl, by intro W hSw; go_simp⟩) hHeld ?_
              try simp only [Act.put, pS1, pS2, pS3]
              refine wpAnyH_take (i := 16) (oi := { dst := some 121, op := Op.move (Operand.tmp 120), type := 4, pos := "ref.go:112", after := #[zD 15, zC 14], guard := none }) (v := .bool false) rfl (by kernel_rfl) (by kernel_rfl) (by kernel_rfl) (fun _ _ _ h => h) (Or.inl ⟨by rfl, by intro W hSw; go_simp⟩) hHeld ?_
              try simp only [Act.put, pS1, pS2, pS3]
              refine wpAnyH_take (i := 17) (oi := { dst := some 122, op := Op.move (Operand.tmp 0), type := 26, pos := "ref.go:112", after := #[zG 16], guard := some (16, true) }) (v := undef) rfl (by kernel_rfl) (by kernel_rfl) (by kernel_rfl) (fun _ _ _ h => h) (Or.inr ⟨by rfl, rfl⟩) hHeld ?_
              try simp only [Act.put, pS1, pS2, pS3]
              refine wpAnyH_take (i := 18) (oi := { dst := some 123, op := Op.nilCheck (Operand.tmp 122), type := 0, pos := "ref.go:112", after := #[zD 17, zG 16], guard := some (16, true) }) (v := undef) rfl (by kernel_rfl) (by kernel_rfl) (by kernel_rfl) (fun _ _ _ h => h) (Or.inr ⟨by rfl, rfl⟩) hHeld ?_
              try simp only [Act.put, pS1, pS2, pS3]
              refine wpAnyH_take (i := 19) (oi := { dst := some 124, op := Op.fieldAddr 62 (Operand.tmp 123) 1, type := 0, pos := "ref.go:112", after := #[zD 18, zG 16], guard := some (16, true) }) (v := undef) rfl (by kernel_rfl) (by kernel_rfl) (by kernel_rfl) (fun _ _ _ h => h) (Or.inr ⟨by rfl, rfl⟩) hHeld ?_
              try simp only [Act.put, pS1, pS2, pS3]
              refine wpAnyH_take (i := 20) (oi := { dst := some 125, op := Op.fieldAddr 44 (Operand.tmp 124) 1, type := 0, pos := "ref.go:112", after := #[zD 19, zG 16], guard := some (16, true) }) (v := undef) rfl (by kernel_rfl) (by kernel_rfl) (by kernel_rfl) (fun _ _ _ h => h) (Or.inr ⟨by rfl, rfl⟩) hHeld ?_
              try simp only [Act.put, pS1, pS2, pS3]
              refine wpAnyH_take (i := 21) (oi := { dst := some 126, op := Op.load 3 (Operand.tmp 125), type := 3, pos := "ref.go:112", after := #[zD 20, zG 16], guard := some (16, true) }) (v := undef) rfl (by kernel_rfl) (by kernel_rfl) (by kernel_rfl) (fun _ _ _ h => h) (Or.inr ⟨by rfl, rfl⟩) hHeld ?_
              try simp only [Act.put, pS1, pS2, pS3]
              refine wpAnyH_take (i := 22) (oi := { dst := some 127, op := Op.fieldAddr 44 (Operand.tmp 7) 1, type := 0, pos := "ref.go:112", after := #[zG 16], guard := some (16, true) }) (v := undef) rfl (by kernel_rfl) (by kernel_rfl) (by kernel_rfl) (fun _ _ _ h => h) (Or.inr ⟨by rfl, rfl⟩) hHeld ?_
              try simp only [Act.put, pS1, pS2, pS3]
              refine wpAnyH_take (i := 23) (oi := { dst := some 128, op := Op.load 3 (Operand.tmp 127), type := 3, pos := "ref.go:112", after := #[zD 22, zG 16], guard := some (16, true) }) (v := undef) rfl (by kernel_rfl) (by kernel_rfl) (by kernel_rfl) (fun _ _ _ h => h) (Or.inr ⟨by rfl, rfl⟩) hHeld ?_
              try simp only [Act.put, pS1, pS2, pS3]
              refine wpAnyH_take (i := 24) (oi := { dst := some 129, op := Op.binOp BinOp.gtr 3 (Operand.tmp 126) (Operand.tmp 128) 3, type := 4, pos := "ref.go:112", after := #[zD 21, zD 23, zG 16], guard := some (16, true) }) (v := undef) rfl (by kernel_rfl) (by kernel_rfl) (by kernel_rfl) (fun _ _ _ h => h) (Or.inr ⟨by rfl, rfl⟩) hHeld ?_
              try simp only [Act.put, pS1, pS2, pS3]
              refine wpAnyH_take (i := 25) (oi := { dst := some 130, op := Op.pick (Operand.tmp 121) (Operand.tmp 129) (Operand.const (Value.bool false)), type := 4, pos := "ref.go:112", after := #[zD 16, zD 24], guard := none }) (v := .bool false) rfl (by kernel_rfl) (by kernel_rfl) (by kernel_rfl) (fun _ _ _ h => h) (Or.inl ⟨by rfl, by intro W hSw; go_simp⟩) hHeld ?_
              try simp only [Act.put, pS1, pS2, pS3]
              refine wpAnyH_done (by kernel_rfl) ?_ _
              clear hHeld HBW HX
              have x0 := row0 HX2.out
              have x1 := row1 HX2.out
              have xf0 := frozen_of_row W2 W1.heap.size 0 _ _ HX2.out
              have xf1 := frozen_of_row W2 W1.heap.size 1 _ _ HX2.out
              obtain ⟨-, z0, z3, zf0, zf3, hmW⟩ := NX.out W2 d HMD.out HSD.out HB2.out
              obtain ⟨hfin, -⟩ := NX.out W2 d HMD.out HSD.out HB2.out
              have HF := hidd hfin
              clear hfin
              clear HC NX SMX IX
              go_wp2
              go_ret
              exact ⟨by rw [HFD.out]; rfl, HF.out⟩
    · obtain ⟨hp1, hp2, hp3⟩ := HP1.out.done HH.out.slen (by omega) (.inl rfl)
      have hpk : pickS L rs true = pick1 L rs true := by rw [HPE.out, if_neg (fun h => by rw [hp1] at h; cases h.1)]
      have HFD : Hid (ob = true) := by show _ = _; rw [Hob.out, HOB.out, hpk, hp1]
      have HOX : Hid (opensX L rs true = dearer rs ((statesL L).foldl (dearer rs) (pick1 L rs true).1) L.may) := by show _ = _; rw [HXE.out, hpk]
      have HPS2 := hidd (PL2.start (x := x) (rs := rs) (L := L) (.inl hp3) hp2)
      clear hp1 hp2 hp3 hpk HP1
      by_cases hlt : k < n
      · clear HOB
        go_wp2
        go_loopw [10] (fun i wr => ∃ (k : Nat) (d : SvT), k ≤ n ∧ i = .int .i64 (k : Int) ∧ Hid (PL2 w L rs cs x (pick1 L rs true |>.1) k d) ∧ Hid (Below w.heap.size w wr) ∧ Hid (wr.heap[W1.heap.size]? = some (.cells #[.slice d.a d.len d.cap, .int .i64 (d.cost : Int)] 44 (0, 0)))) (fun i _ => n - (intOf i).toNat)
        case atStart => exact ⟨0, _, Nat.zero_le _, rfl, HPS2.out, HBX.out, HXX.out⟩
        case round =>
          clear HBX HXX HPS2
          obtain ⟨k, d, hk, rfl, HP2, HBW, HX⟩ := hrel
          obtain ⟨m0, m1, m2, m3⟩ := HC.out wr HBW.out
          by_cases hlt : k < n
          · obtain ⟨q, hq, hqs, hqc⟩ := HH.out.at_ k hlt
            have hks : k < (statesL L).length := by rw [HH.out.slen]; exact hlt
            have hmem : (statesL L)[k] ∈ statesL L := List.getElem_mem hks
            have hqst := hqs hks
            have HQ := hidd hqc
            have SMQ := hidd (HH.out.same q _ hqst (.inl hmem))
            have IX : Hid (∀ V, (Instr.indexAt 60 (.slice (some ⟨g, 0, none⟩) n scap) (.int .i64 (k : Int))).run Tryd.prog V = .ok (.pointer (some ⟨g, k * 2, none⟩)) V) := fun V => index_st g n scap k hlt V
            have hw1 := wrap_int ((k : Int) + 1) (by omega) (by omega)
            by_cases hs : rs = (statesL L)[k].recs
            · rw [decide_eq_true hs] at SMQ
              by_cases hcs : d.cost < q.cost
              · have hdc : decide ((d.cost : Int) < (q.cost : Int)) = true := by rw [decide_eq_true_eq]; omega
                have HN := hidd (HP2.out.dear hks hq hqst hs.symm hcs)
                clear hqs hqc hqst hq hmem hks hs HP2
                go_wp2
                refine wp_region_held_drew (S := (fun V => Below w.heap.size w V ∧ V.heap[W1.heap.size]? = some (.cells #[.slice d.a d.len d.cap, .int .i64 (d.cost : Int)] 44 (0, 0)))) (by kernel_rfl) ⟨HBW.out.drew, HX.out⟩ (fun hHeld => ?_)
                refine wpAnyH_take (i := 0) (oi := { dst := some 75, op := Op.move (Operand.tmp 1), type := 29, pos := "ref.go:108", after := #[], guard := none }) (v := .slice a len cap) rfl (by kernel_rfl) (by kernel_rfl) (by kernel_rfl) (fun _ _ _ h => h) (Or.inl ⟨by rfl, by intro W hSw; go_simp⟩) hHeld ?_
                try simp only [Act.put, pS1, pS2, pS3]
                refine wpAnyH_take (i := 1) (oi := { dst := some 76, op := Op.move (Operand.tmp 0), type := 26, pos := "ref.go:108", after := #[], guard := none }) (v := .pointer (some ⟨m, 0, none⟩)) rfl (by kernel_rfl) (by kernel_rfl) (by kernel_rfl) (fun _ _ _ h => h) (Or.inl ⟨by rfl, by intro W hSw; go_simp⟩) hHeld ?_
                try simp only [Act.put, pS1, pS2, pS3]
                refine wpAnyH_take (i := 2) (oi := { dst := some 77, op := Op.nilCheck (Operand.tmp 76), type := 0, pos := "ref.go:108", after := #[zD 1], guard := none }) (v := .pointer (some ⟨m, 0, none⟩)) rfl (by kernel_rfl) (by kernel_rfl) (by kernel_rfl) (fun _ _ _ h => h) (Or.inl ⟨by rfl, by intro W hSw; go_simp⟩) hHeld ?_
                try simp only [Act.put, pS1, pS2, pS3]
                refine wpAnyH_take (i := 3) (oi := { dst := some 78, op := Op.fieldAddr 62 (Operand.tmp 77) 0, type := 0, pos := "ref.go:108", after := #[zD 2], guard := none }) (v := .pointer (some ⟨m, 0, none⟩)) rfl (by kernel_rfl) (by kernel_rfl) (by kernel_rfl) (fun _ _ _ h => h) (Or.inl ⟨by rfl, by intro W hSw; go_simp⟩) hHeld ?_
                try simp only [Act.put, pS1, pS2, pS3]
                refine wpAnyH_take (i := 4) (oi := { dst := some 79, op := Op.load 60 (Operand.tmp 78), type := 60, pos := "ref.go:108", after := #[zD 3], guard := none }) (v := .slice (some ⟨g, 0, none⟩) n scap) rfl (by kernel_rfl) (by kernel_rfl) (by kernel_rfl) (fun _ _ _ h => h) (Or.inl ⟨by rfl, by intro W hSw; have h1 := (HC.out W hSw.1).1; go_simp⟩) hHeld ?_
                try simp only [Act.put, pS1, pS2, pS3]
                refine wpAnyH_take (i := 5) (oi := { dst := some 80, op := Op.move (Operand.tmp 10), type := 3, pos := "ref.go:108", after := #[], guard := none }) (v := .int .i64 (k : Int)) rfl (by kernel_rfl) (by kernel_rfl) (by kernel_rfl) (fun _ _ _ h => h) (Or.inl ⟨by rfl, by intro W hSw; go_simp⟩) hHeld ?_
                try simp only [Act.put, pS1, pS2, pS3]
                refine wpAnyH_take (i := 6) (oi := { dst := some 81, op := Op.indexAddr 60 (Operand.tmp 79) (Operand.tmp 80), type := 0, pos := "ref.go:108", after := #[zD 4, zD 5], guard := none }) (v := .pointer (some ⟨g, k * 2, none⟩)) rfl (by kernel_rfl) (by kernel_rfl) (by kernel_rfl) (fun _ _ _ h => h) (Or.inl ⟨by rfl, by intro W hSw; have h1 := IX.out W; go_simp⟩) hHeld ?_
                try simp only [Act.put, pS1, pS2, pS3]
                refine wpAnyH_take (i := 7) (oi := { dst := some 82, op := Op.fieldAddr 44 (Operand.tmp 81) 0, type := 0, pos := "ref.go:108", after := #[zD 6], guard := none }) (v := .pointer (some ⟨g, k * 2, none⟩)) rfl (by kernel_rfl) (by kernel_rfl) (by kernel_rfl) (fun _ _ _ h => h) (Or.inl ⟨by rfl, by intro W hSw; go_simp⟩) hHeld ?_
                try simp only [Act.put, pS1, pS2, pS3]
                refine wpAnyH_take (i := 8) (oi := { dst := some 83, op := Op.load 29 (Operand.tmp 82), type := 29, pos := "ref.go:108", after := #[zD 7], guard := none }) (v := .slice q.a q.len q.cap) rfl (by kernel_rfl) (by kernel_rfl) (by kernel_rfl) (fun _ _ _ h => h) (Or.inl ⟨by rfl, by intro W hSw; have h1 := (HQ.out W hSw.1).1; go_simp⟩) hHeld ?_
                try simp only [Act.put, pS1, pS2, pS3]
                refine wpAnyH_ready (rs := [9]) (by kernel_rfl) (by simp) ?_
                refine (AllReadyH.cons (o := { dst := some 84, op := Op.call { callee := Callee.value (Operand.func 27), args := #[Operand.tmp 75, Operand.tmp 83], argTypes := #[29, 29] }, type := 4, pos := "ref.go:108", after := #[zD 0, zD 8], guard := none }) rfl (fun K hK => ?_) AllReadyH.nil)
                go_simp
                refine (SMQ.out _ HBW.out.drew).mono ?_
                rintro e W2 ⟨rfl, hb2⟩
                have HB2 := hidd (HBW.out.drew.trans (hb2.mono HBW.out.drew.size))
                have HX2 : Hid (W2.heap[W1.heap.size]? = some (.cells #[.slice d.a d.len d.cap, .int .i64 (d.cost : Int)] 44 (0, 0))) := (hb2.block W1.heap.size (heap_lt HX.out)).trans HX.out
                clear hb2
                go_wp2_with fail
                refine hK.out _ _ ⟨HB2.out, HX2.out⟩ (fun hHeld => ?_)
                clear hK K
                try simp only [Act.put, pS1, pS2, pS3]
                refine wpAnyH_take (i := 10) (oi := { dst := some 85, op := Op.move (Operand.tmp 84), type := 4, pos := "ref.go:108", after := #[zD 9, zC 9], guard := none }) (v := .bool true) rfl (by kernel_rfl) (by kernel_rfl) (by kernel_rfl) (fun _ _ _ h => h) (Or.inl ⟨by rfl, by intro W hSw; go_simp⟩) hHeld ?_
                try simp only [Act.put, pS1, pS2, pS3]
                refine wpAnyH_take (i := 11) (oi := { dst := some 86, op := Op.move (Operand.tmp 0), type := 26, pos := "ref.go:108", after := #[zG 10], guard := some (10, true) }) (v := .pointer (some ⟨m, 0, none⟩)) rfl (by kernel_rfl) (by kernel_rfl) (by kernel_rfl) (fun _ _ _ h => h) (Or.inl ⟨by rfl, by intro W hSw; go_simp⟩) hHeld ?_
                try simp only [Act.put, pS1, pS2, pS3]
                refine wpAnyH_take (i := 12) (oi := { dst := some 87, op := Op.nilCheck (Operand.tmp 86), type := 0, pos := "ref.go:108", after := #[zD 11, zG 10], guard := some (10, true) }) (v := .pointer (some ⟨m, 0, none⟩)) rfl (by kernel_rfl) (by kernel_rfl) (by kernel_rfl) (fun _ _ _ h => h) (Or.inl ⟨by rfl, by intro W hSw; go_simp⟩) hHeld ?_
                try simp only [Act.put, pS1, pS2, pS3]
                refine wpAnyH_take (i := 13) (oi := { dst := some 88, op := Op.fieldAddr 62 (Operand.tmp 87) 0, type := 0, pos := "ref.go:108", after := #[zD 12, zG 10], guard := some (10, true) }) (v := .pointer (some ⟨m, 0, none⟩)) rfl (by kernel_rfl) (by kernel_rfl) (by kernel_rfl) (fun _ _ _ h => h) (Or.inl ⟨by rfl, by intro W hSw; go_simp⟩) hHeld ?_
                try simp only [Act.put, pS1, pS2, pS3]
                refine wpAnyH_take (i := 14) (oi := { dst := some 89, op := Op.load 60 (Operand.tmp 88), type := 60, pos := "ref.go:108", after := #[zD 13, zG 10], guard := some (10, true) }) (v := .slice (some ⟨g, 0, none⟩) n scap) rfl (by kernel_rfl) (by kernel_rfl) (by kernel_rfl) (fun _ _ _ h => h) (Or.inl ⟨by rfl, by intro W hSw; have h1 := (HC.out W hSw.1).1; go_simp⟩) hHeld ?_
                try simp only [Act.put, pS1, pS2, pS3]
                refine wpAnyH_take (i := 15) (oi := { dst := some 90, op := Op.move (Operand.tmp 10), type := 3, pos := "ref.go:108", after := #[zG 10], guard := some (10, true) }) (v := .int .i64 (k : Int)) rfl (by kernel_rfl) (by kernel_rfl) (by kernel_rfl) (fun _ _ _ h => h) (Or.inl ⟨by rfl, by intro W hSw; go_simp⟩) hHeld ?_
                try simp only [Act.put, pS1, pS2, pS3]
                refine wpAnyH_take (i := 16) (oi := { dst := some 91, op := Op.indexAddr 60 (Operand.tmp 89) (Operand.tmp 90), type := 0, pos := "ref.go:108", after := #[zD 14, zD 15, zG 10], guard := some (10, true) }) (v := .pointer (some ⟨g, k * 2, none⟩)) rfl (by kernel_rfl) (by kernel_rfl) (by kernel_rfl) (fun _ _ _ h => h) (Or.inl ⟨by rfl, by intro W hSw; have h1 := IX.out W; go_simp⟩) hHeld ?_
                try simp only [Act.put, pS1, pS2, pS3]
                refine wpAnyH_take (i := 17) (oi := { dst := some 92, op := Op.fieldAddr 44 (Operand.tmp 91) 1, type := 0, pos := "ref.go:108", after := #[zD 16, zG 10], guard := some (10, true) }) (v := .pointer (some ⟨g, k * 2 + 1, none⟩)) rfl (by kernel_rfl) (by kernel_rfl) (by kernel_rfl) (fun _ _ _ h => h) (Or.inl ⟨by rfl, by intro W hSw; go_simp⟩) hHeld ?_
                try simp only [Act.put, pS1, pS2, pS3]
                refine wpAnyH_take (i := 18) (oi := { dst := some 93, op := Op.load 3 (Operand.tmp 92), type := 3, pos := "ref.go:108", after := #[zD 17, zG 10], guard := some (10, true) }) (v := .int .i64 (q.cost : Int)) rfl (by kernel_rfl) (by kernel_rfl) (by kernel_rfl) (fun _ _ _ h => h) (Or.inl ⟨by rfl, by intro W hSw; have h1 := (HQ.out W hSw.1).2; go_simp⟩) hHeld ?_
                try simp only [Act.put, pS1, pS2, pS3]
                refine wpAnyH_take (i := 19) (oi := { dst := some 94, op := Op.fieldAddr 44 (Operand.tmp 7) 1, type := 0, pos := "ref.go:108", after := #[zG 10], guard := some (10, true) }) (v := .pointer (some ⟨W1.heap.size, 1, none⟩)) rfl (by kernel_rfl) (by kernel_rfl) (by kernel_rfl) (fun _ _ _ h => h) (Or.inl ⟨by rfl, by intro W hSw; go_simp⟩) hHeld ?_
                try simp only [Act.put, pS1, pS2, pS3]
                refine wpAnyH_take (i := 20) (oi := { dst := some 95, op := Op.load 3 (Operand.tmp 94), type := 3, pos := "ref.go:108", after := #[zD 19, zG 10], guard := some (10, true) }) (v := .int .i64 (d.cost : Int)) rfl (by kernel_rfl) (by kernel_rfl) (by kernel_rfl) (fun _ _ _ h => h) (Or.inl ⟨by rfl, by intro W hSw; have h1 := row1 hSw.2; go_simp⟩) hHeld ?_
                try simp only [Act.put, pS1, pS2, pS3]
                refine wpAnyH_take (i := 21) (oi := { dst := some 96, op := Op.binOp BinOp.gtr 3 (Operand.tmp 93) (Operand.tmp 95) 3, type := 4, pos := "ref.go:108", after := #[zD 18, zD 20, zG 10], guard := some (10, true) }) (v := .bool true) rfl (by kernel_rfl) (by kernel_rfl) (by kernel_rfl) (fun _ _ _ h => h) (Or.inl ⟨by rfl, by intro W hSw; go_simp⟩) hHeld ?_
                try simp only [Act.put, pS1, pS2, pS3]
                refine wpAnyH_take (i := 22) (oi := { dst := some 97, op := Op.pick (Operand.tmp 85) (Operand.tmp 96) (Operand.const (Value.bool false)), type := 4, pos := "ref.go:108", after := #[zD 10, zD 21], guard := none }) (v := .bool true) rfl (by kernel_rfl) (by kernel_rfl) (by kernel_rfl) (fun _ _ _ h => h) (Or.inl ⟨by rfl, by intro W hSw; go_simp⟩) hHeld ?_
                try simp only [Act.put, pS1, pS2, pS3]
                refine wpAnyH_done (by kernel_rfl) ?_ _
                clear hHeld HBW HX
                obtain ⟨m0, m1, m2, m3⟩ := HC.out W2 HB2.out
                obtain ⟨q0, q1⟩ := HQ.out W2 HB2.out
                have ix := IX.out
                have x0 := row0 HX2.out
                have x1 := row1 HX2.out
                have xf0 := frozen_of_row W2 W1.heap.size 0 _ _ HX2.out
                have xf1 := frozen_of_row W2 W1.heap.size 1 _ _ HX2.out
                have hgr := gr_trans (Lib.grownBy_setCell W2 W1.heap.size 0 (.slice q.a q.len q.cap)) (Lib.grownBy_setCell _ W1.heap.size 1 (.int .i64 (q.cost : Int)))
                have HB3 : Hid (Below w.heap.size w ((W2.setCell ⟨W1.heap.size, 0, none⟩ (.slice q.a q.len q.cap)).setCell ⟨W1.heap.size, 1, none⟩ (.int .i64 (q.cost : Int)))) := (HB2.out.setCell HGW.out _).setCell HGW.out _
                have HX3 : Hid (((W2.setCell ⟨W1.heap.size, 0, none⟩ (.slice q.a q.len q.cap)).setCell ⟨W1.heap.size, 1, none⟩ (.int .i64 (q.cost : Int))).heap[W1.heap.size]? = some (.cells #[.slice q.a q.len q.cap, .int .i64 (q.cost : Int)] 44 (0, 0))) := by show _ = _; rw [Go.heap_setCell_same _ _ 1 _ _ (.int .i64 (q.cost : Int)) (Go.heap_setCell_same W2 _ 0 _ _ (.slice q.a q.len q.cap) HX2.out)]; simp
                clear hgr HQ IX SMQ HB2 HX2
                go_wp2
                go_roundw
                case rel => exact ⟨k + 1, q, by omega, by go_num, HN, HB3, HX3⟩
                case measure => simp [intOf]; omega
              · have hdc : decide ((d.cost : Int) < (q.cost : Int)) = false := by rw [decide_eq_false_iff_not]; omega
                have HN := hidd (HP2.out.cheap hks hqst hcs)
                clear hqs hqc hqst hq hmem hks hs HP2
                go_wp2
                refine wp_region_held_drew (S := (fun V => Below w.heap.size w V ∧ V.heap[W1.heap.size]? = some (.cells #[.slice d.a d.len d.cap, .int .i64 (d.cost : Int)] 44 (0, 0)))) (by kernel_rfl) ⟨HBW.out.drew, HX.out⟩ (fun hHeld => ?_)
                refine wpAnyH_take (i := 0) (oi := { dst := some 75, op := Op.move (Operand.tmp 1), type := 29, pos := "ref.go:108", after := #[], guard := none }) (v := .slice a len cap) rfl (by kernel_rfl) (by kernel_rfl) (by kernel_rfl) (fun _ _ _ h => h) (Or.inl ⟨by rfl, by intro W hSw; go_simp⟩) hHeld ?_
                try simp only [Act.put, pS1, pS2, pS3]
                refine wpAnyH_take (i := 1) (oi := { dst := some 76, op := Op.move (Operand.tmp 0), type := 26, pos := "ref.go:108", after := #[], guard := none }) (v := .pointer (some ⟨m, 0, none⟩)) rfl (by kernel_rfl) (by kernel_rfl) (by kernel_rfl) (fun _ _ _ h => h) (Or.inl ⟨by rfl, by intro W hSw; go_simp⟩) hHeld ?_
                try simp only [Act.put, pS1, pS2, pS3]
                refine wpAnyH_take (i := 2) (oi := { dst := some 77, op := Op.nilCheck (Operand.tmp 76), type := 0, pos := "ref.go:108", after := #[zD 1], guard := none }) (v := .pointer (some ⟨m, 0, none⟩)) rfl (by kernel_rfl) (by kernel_rfl) (by kernel_rfl) (fun _ _ _ h => h) (Or.inl ⟨by rfl, by intro W hSw; go_simp⟩) hHeld ?_
                try simp only [Act.put, pS1, pS2, pS3]
                refine wpAnyH_take (i := 3) (oi := { dst := some 78, op := Op.fieldAddr 62 (Operand.tmp 77) 0, type := 0, pos := "ref.go:108", after := #[zD 2], guard := none }) (v := .pointer (some ⟨m, 0, none⟩)) rfl (by kernel_rfl) (by kernel_rfl) (by kernel_rfl) (fun _ _ _ h => h) (Or.inl ⟨by rfl, by intro W hSw; go_simp⟩) hHeld ?_
                try simp only [Act.put, pS1, pS2, pS3]
                refine wpAnyH_take (i := 4) (oi := { dst := some 79, op := Op.load 60 (Operand.tmp 78), type := 60, pos := "ref.go:108", after := #[zD 3], guard := none }) (v := .slice (some ⟨g, 0, none⟩) n scap) rfl (by kernel_rfl) (by kernel_rfl) (by kernel_rfl) (fun _ _ _ h => h) (Or.inl ⟨by rfl, by intro W hSw; have h1 := (HC.out W hSw.1).1; go_simp⟩) hHeld ?_
                try simp only [Act.put, pS1, pS2, pS3]
                refine wpAnyH_take (i := 5) (oi := { dst := some 80, op := Op.move (Operand.tmp 10), type := 3, pos := "ref.go:108", after := #[], guard := none }) (v := .int .i64 (k : Int)) rfl (by kernel_rfl) (by kernel_rfl) (by kernel_rfl) (fun _ _ _ h => h) (Or.inl ⟨by rfl, by intro W hSw; go_simp⟩) hHeld ?_
                try simp only [Act.put, pS1, pS2, pS3]
                refine wpAnyH_take (i := 6) (oi := { dst := some 81, op := Op.indexAddr 60 (Operand.tmp 79) (Operand.tmp 80), type := 0, pos := "ref.go:108", after := #[zD 4, zD 5], guard := none }) (v := .pointer (some ⟨g, k * 2, none⟩)) rfl (by kernel_rfl) (by kernel_rfl) (by kernel_rfl) (fun _ _ _ h => h) (Or.inl ⟨by rfl, by intro W hSw; have h1 := IX.out W; go_simp⟩) hHeld ?_
                try simp only [Act.put, pS1, pS2, pS3]
                refine wpAnyH_take (i := 7) (oi := { dst := some 82, op := Op.fieldAddr 44 (Operand.tmp 81) 0, type := 0, pos := "ref.go:108", after := #[zD 6], guard := none }) (v := .pointer (some ⟨g, k * 2, none⟩)) rfl (by kernel_rfl) (by kernel_rfl) (by kernel_rfl) (fun _ _ _ h => h) (Or.inl ⟨by rfl, by intro W hSw; go_simp⟩) hHeld ?_
                try simp only [Act.put, pS1, pS2, pS3]
                refine wpAnyH_take (i := 8) (oi := { dst := some 83, op := Op.load 29 (Operand.tmp 82), type := 29, pos := "ref.go:108", after := #[zD 7], guard := none }) (v := .slice q.a q.len q.cap) rfl (by kernel_rfl) (by kernel_rfl) (by kernel_rfl) (fun _ _ _ h => h) (Or.inl ⟨by rfl, by intro W hSw; have h1 := (HQ.out W hSw.1).1; go_simp⟩) hHeld ?_
                try simp only [Act.put, pS1, pS2, pS3]
                refine wpAnyH_ready (rs := [9]) (by kernel_rfl) (by simp) ?_
                refine (AllReadyH.cons (o := { dst := some 84, op := Op.call { callee := Callee.value (Operand.func 27), args := #[Operand.tmp 75, Operand.tmp 83], argTypes := #[29, 29] }, type := 4, pos := "ref.go:108", after := #[zD 0, zD 8], guard := none }) rfl (fun K hK => ?_) AllReadyH.nil)
                go_simp
                refine (SMQ.out _ HBW.out.drew).mono ?_
                rintro e W2 ⟨rfl, hb2⟩
                have HB2 := hidd (HBW.out.drew.trans (hb2.mono HBW.out.drew.size))
                have HX2 : Hid (W2.heap[W1.heap.size]? = some (.cells #[.slice d.a d.len d.cap, .int .i64 (d.cost : Int)] 44 (0, 0))) := (hb2.block W1.heap.size (heap_lt HX.out)).trans HX.out
                clear hb2
                go_wp2_with fail
                refine hK.out _ _ ⟨HB2.out, HX2.out⟩ (fun hHeld => ?_)
                clear hK K
                try simp only [Act.put, pS1, pS2, pS3]
                refine wpAnyH_take (i := 10) (oi := { dst := some 85, op := Op.move (Operand.tmp 84), type := 4, pos := "ref.go:108", after := #[zD 9, zC 9], guard := none }) (v := .bool true) rfl (by kernel_rfl) (by kernel_rfl) (by kernel_rfl) (fun _ _ _ h => h) (Or.inl ⟨by rfl, by intro W hSw; go_simp⟩) hHeld ?_
                try simp only [Act.put, pS1, pS2, pS3]
                refine wpAnyH_take (i := 11) (oi := { dst := some 86, op := Op.move (Operand.tmp 0), type := 26, pos := "ref.go:108", after := #[zG 10], guard := some (10, true) }) (v := .pointer (some ⟨m, 0, none⟩)) rfl (by kernel_rfl) (by kernel_rfl) (by kernel_rfl) (fun _ _ _ h => h) (Or.inl ⟨by rfl, by intro W hSw; go_simp⟩) hHeld ?_
                try simp only [Act.put, pS1, pS2, pS3]
                refine wpAnyH_take (i := 12) (oi := { dst := some 87, op := Op.nilCheck (Operand.tmp 86), type := 0, pos := "ref.go:108", after := #[zD 11, zG 10], guard := some (10, true) }) (v := .pointer (some ⟨m, 0, none⟩)) rfl (by kernel_rfl) (by kernel_rfl) (by kernel_rfl) (fun _ _ _ h => h) (Or.inl ⟨by rfl, by intro W hSw; go_simp⟩) hHeld ?_
                try simp only [Act.put, pS1, pS2, pS3]
                refine wpAnyH_take (i := 13) (oi := { dst := some 88, op := Op.fieldAddr 62 (Operand.tmp 87) 0, type := 0, pos := "ref.go:108", after := #[zD 12, zG 10], guard := some (10, true) }) (v := .pointer (some ⟨m, 0, none⟩)) rfl (by kernel_rfl) (by kernel_rfl) (by kernel_rfl) (fun _ _ _ h => h) (Or.inl ⟨by rfl, by intro W hSw; go_simp⟩) hHeld ?_
                try simp only [Act.put, pS1, pS2, pS3]
                refine wpAnyH_take (i := 14) (oi := { dst := some 89, op := Op.load 60 (Operand.tmp 88), type := 60, pos := "ref.go:108", after := #[zD 13, zG 10], guard := some (10, true) }) (v := .slice (some ⟨g, 0, none⟩) n scap) rfl (by kernel_rfl) (by kernel_rfl) (by kernel_rfl) (fun _ _ _ h => h) (Or.inl ⟨by rfl, by intro W hSw; have h1 := (HC.out W hSw.1).1; go_simp⟩) hHeld ?_
                try simp only [Act.put, pS1, pS2, pS3]
                refine wpAnyH_take (i := 15) (oi := { dst := some 90, op := Op.move (Operand.tmp 10), type := 3, pos := "ref.go:108", after := #[zG 10], guard := some (10, true) }) (v := .int .i64 (k : Int)) rfl (by kernel_rfl) (by kernel_rfl) (by kernel_rfl) (fun _ _ _ h => h) (Or.inl ⟨by rfl, by intro W hSw; go_simp⟩) hHeld ?_
                try simp only [Act.put, pS1, pS2, pS3]
                refine wpAnyH_take (i := 16) (oi := { dst := some 91, op := Op.indexAddr 60 (Operand.tmp 89) (Operand.tmp 90), type := 0, pos := "ref.go:108", after := #[zD 14, zD 15, zG 10], guard := some (10, true) }) (v := .pointer (some ⟨g, k * 2, none⟩)) rfl (by kernel_rfl) (by kernel_rfl) (by kernel_rfl) (fun _ _ _ h => h) (Or.inl ⟨by rfl, by intro W hSw; have h1 := IX.out W; go_simp⟩) hHeld ?_
                try simp only [Act.put, pS1, pS2, pS3]
                refine wpAnyH_take (i := 17) (oi := { dst := some 92, op := Op.fieldAddr 44 (Operand.tmp 91) 1, type := 0, pos := "ref.go:108", after := #[zD 16, zG 10], guard := some (10, true) }) (v := .pointer (some ⟨g, k * 2 + 1, none⟩)) rfl (by kernel_rfl) (by kernel_rfl) (by kernel_rfl) (fun _ _ _ h => h) (Or.inl ⟨by rfl, by intro W hSw; go_simp⟩) hHeld ?_
                try simp only [Act.put, pS1, pS2, pS3]
                refine wpAnyH_take (i := 18) (oi := { dst := some 93, op := Op.load 3 (Operand.tmp 92), type := 3, pos := "ref.go:108", after := #[zD 17, zG 10], guard := some (10, true) }) (v := .int .i64 (q.cost : Int)) rfl (by kernel_rfl) (by kernel_rfl) (by kernel_rfl) (fun _ _ _ h => h) (Or.inl ⟨by rfl, by intro W hSw; have h1 := (HQ.out W hSw.1).2; go_simp⟩) hHeld ?_
                try simp only [Act.put, pS1, pS2, pS3]
                refine wpAnyH_take (i := 19) (oi := { dst := some 94, op := Op.fieldAddr 44 (Operand.tmp 7) 1, type := 0, pos := "ref.go:108", after := #[zG 10], guard := some (10, true) }) (v := .pointer (some ⟨W1.heap.size, 1, none⟩)) rfl (by kernel_rfl) (by kernel_rfl) (by kernel_rfl) (fun _ _ _ h => h) (Or.inl ⟨by rfl, by intro W hSw; go_simp⟩) hHeld ?_
                try simp only [Act.put, pS1, pS2, pS3]
                refine wpAnyH_take (i := 20) (oi := { dst := some 95, op := Op.load 3 (Operand.tmp 94), type := 3, pos := "ref.go:108", after := #[zD 19, zG 10], guard := some (10, true) }) (v := .int .i64 (d.cost : Int)) rfl (by kernel_rfl) (by kernel_rfl) (by kernel_rfl) (fun _ _ _ h => h) (Or.inl ⟨by rfl, by intro W hSw; have h1 := row1 hSw.2; go_simp⟩) hHeld ?_
                try simp only [Act.put, pS1, pS2, pS3]
                refine wpAnyH_take (i := 21) (oi := { dst := some 96, op := Op.binOp BinOp.gtr 3 (Operand.tmp 93) (Operand.tmp 95) 3, type := 4, pos := "ref.go:108", after := #[zD 18, zD 20, zG 10], guard := some (10, true) }) (v := .bool false) rfl (by kernel_rfl) (by kernel_rfl) (by kernel_rfl) (fun _ _ _ h => h) (Or.inl ⟨by rfl, by intro W hSw; go_simp⟩) hHeld ?_
                try simp only [Act.put, pS1, pS2, pS3]
                refine wpAnyH_take (i := 22) (oi := { dst := some 97, op := Op.pick (Operand.tmp 85) (Operand.tmp 96) (Operand.const (Value.bool false)), type := 4, pos := "ref.go:108", after := #[zD 10, zD 21], guard := none }) (v := .bool false) rfl (by kernel_rfl) (by kernel_rfl) (by kernel_rfl) (fun _ _ _ h => h) (Or.inl ⟨by rfl, by intro W hSw; go_simp⟩) hHeld ?_
                try simp only [Act.put, pS1, pS2, pS3]
                refine wpAnyH_done (by kernel_rfl) ?_ _
                clear hHeld HBW HX HQ IX SMQ
                go_wp2
                go_roundw
                case rel => exact ⟨k + 1, d, by omega, by go_num, HN, HB2, HX2⟩
                case measure => simp [intOf]; omega
            · rw [decide_eq_false hs] at SMQ
              have HN := hidd (HP2.out.other hks (fun e => hs e.symm))
              clear hqs hqc hqst hq hmem hks hs HP2
              go_wp2
              refine wp_region_held_drew (S := (fun V => Below w.heap.size w V ∧ V.heap[W1.heap.size]? = some (.cells #[.slice d.a d.len d.cap, .int .i64 (d.cost : Int)] 44 (0, 0)))) (by kernel_rfl) ⟨HBW.out.drew, HX.out⟩ (fun hHeld => ?_)
              refine wpAnyH_take (i := 0) (oi := { dst := some 75, op := Op.move (Operand.tmp 1), type := 29, pos := "ref.go:108", after := #[], guard := none }) (v := .slice a len cap) rfl (by kernel_rfl) (by kernel_rfl) (by kernel_rfl) (fun _ _ _ h => h) (Or.inl ⟨by rfl, by intro W hSw; go_simp⟩) hHeld ?_
              try simp only [Act.put, pS1, pS2, pS3]
              refine wpAnyH_take (i := 1) (oi := { dst := some 76, op := Op.move (Operand.tmp 0), type := 26, pos := "ref.go:108", after := #[], guard := none }) (v := .pointer (some ⟨m, 0, none⟩)) rfl (by kernel_rfl) (by kernel_rfl) (by kernel_rfl) (fun _ _ _ h => h) (Or.inl ⟨by rfl, by intro W hSw; go_simp⟩) hHeld ?_
              try simp only [Act.put, pS1, pS2, pS3]
              refine wpAnyH_take (i := 2) (oi := { dst := some 77, op := Op.nilCheck (Operand.tmp 76), type := 0, pos := "ref.go:108", after := #[zD 1], guard := none }) (v := .pointer (some ⟨m, 0, none⟩)) rfl (by kernel_rfl) (by kernel_rfl) (by kernel_rfl) (fun _ _ _ h => h) (Or.inl ⟨by rfl, by intro W hSw; go_simp⟩) hHeld ?_
              try simp only [Act.put, pS1, pS2, pS3]
              refine wpAnyH_take (i := 3) (oi := { dst := some 78, op := Op.fieldAddr 62 (Operand.tmp 77) 0, type := 0, pos := "ref.go:108", after := #[zD 2], guard := none }) (v := .pointer (some ⟨m, 0, none⟩)) rfl (by kernel_rfl) (by kernel_rfl) (by kernel_rfl) (fun _ _ _ h => h) (Or.inl ⟨by rfl, by intro W hSw; go_simp⟩) hHeld ?_
              try simp only [Act.put, pS1, pS2, pS3]
              refine wpAnyH_take (i := 4) (oi := { dst := some 79, op := Op.load 60 (Operand.tmp 78), type := 60, pos := "ref.go:108", after := #[zD 3], guard := none }) (v := .slice (some ⟨g, 0, none⟩) n scap) rfl (by kernel_rfl) (by kernel_rfl) (by kernel_rfl) (fun _ _ _ h => h) (Or.inl ⟨by rfl, by intro W hSw; have h1 := (HC.out W hSw.1).1; go_simp⟩) hHeld ?_
              try simp only [Act.put, pS1, pS2, pS3]
              refine wpAnyH_take (i := 5) (oi := { dst := some 80, op := Op.move (Operand.tmp 10), type := 3, pos := "ref.go:108", after := #[], guard := none }) (v := .int .i64 (k : Int)) rfl (by kernel_rfl) (by kernel_rfl) (by kernel_rfl) (fun _ _ _ h => h) (Or.inl ⟨by rfl, by intro W hSw; go_simp⟩) hHeld ?_
              try simp only [Act.put, pS1, pS2, pS3]
              refine wpAnyH_take (i := 6) (oi := { dst := some 81, op := Op.indexAddr 60 (Operand.tmp 79) (Operand.tmp 80), type := 0, pos := "ref.go:108", after := #[zD 4, zD 5], guard := none }) (v := .pointer (some ⟨g, k * 2, none⟩)) rfl (by kernel_rfl) (by kernel_rfl) (by kernel_rfl) (fun _ _ _ h => h) (Or.inl ⟨by rfl, by intro W hSw; have h1 := IX.out W; go_simp⟩) hHeld ?_
              try simp only [Act.put, pS1, pS2, pS3]
              refine wpAnyH_take (i := 7) (oi := { dst := some 82, op := Op.fieldAddr 44 (Operand.tmp 81) 0, type := 0, pos := "ref.go:108", after := #[zD 6], guard := none }) (v := .pointer (some ⟨g, k * 2, none⟩)) rfl (by kernel_rfl) (by kernel_rfl) (by kernel_rfl) (fun _ _ _ h => h) (Or.inl ⟨by rfl, by intro W hSw; go_simp⟩) hHeld ?_
              try simp only [Act.put, pS1, pS2, pS3]
              refine wpAnyH_take (i := 8) (oi := { dst := some 83, op := Op.load 29 (Operand.tmp 82), type := 29, pos := "ref.go:108", after := #[zD 7], guard := none }) (v := .slice q.a q.len q.cap) rfl (by kernel_rfl) (by kernel_rfl) (by kernel_rfl) (fun _ _ _ h => h) (Or.inl ⟨by rfl, by intro W hSw; have h1 := (HQ.out W hSw.1).1; go_simp⟩) hHeld ?_
              try simp only [Act.put, pS1, pS2, pS3]
              refine wpAnyH_ready (rs := [9]) (by kernel_rfl) (by simp) ?_
              refine (AllReadyH.cons (o := { dst := some 84, op := Op.call { callee := Callee.value (Operand.func 27), args := #[Operand.tmp 75, Operand.tmp 83], argTypes := #[29, 29] }, type := 4, pos := "ref.go:108", after := #[zD 0, zD 8], guard := none }) rfl (fun K hK => ?_) AllReadyH.nil)
              go_simp
              refine (SMQ.out _ HBW.out.drew).mono ?_
              rintro e W2 ⟨rfl, hb2⟩
              have HB2 := hidd (HBW.out.drew.trans (hb2.mono HBW.out.drew.size))
              have HX2 : Hid (W2.heap[W1.heap.size]? = some (.cells #[.slice d.a d.len d.cap, .int .i64 (d.cost : Int)] 44 (0, 0))) := (hb2.block W1.heap.size (heap_lt HX.out)).trans HX.out
              clear hb2
              go_wp2_with fail
              refine hK.out _ _ ⟨HB2.out, HX2.out⟩ (fun hHeld => ?_)
              clear hK K
              try simp only [Act.put, pS1, pS2, pS3]
              refine wpAnyH_take (i := 10) (oi := { dst := some 85, op := Op.move (Operand.tmp 84), type := 4, pos := "ref.go:108", after := #[zD 9, zC 9], guard := none }) (v := .bool false) rfl (by kernel_rfl) (by kernel_rfl) (by kernel_rfl) (fun _ _ _ h => h) (Or.inl ⟨by rfl, by intro W hSw; go_simp⟩) hHeld ?_
              try simp only [Act.put, pS1, pS2, pS3]
              refine wpAnyH_take (i := 11) (oi := { dst := some 86, op := Op.move (Operand.tmp 0), type := 26, pos := "ref.go:108", after := #[zG 10], guard := some (10, true) }) (v := undef) rfl (by kernel_rfl) (by kernel_rfl) (by kernel_rfl) (fun _ _ _ h => h) (Or.inr ⟨by rfl, rfl⟩) hHeld ?_
              try simp only [Act.put, pS1, pS2, pS3]
              refine wpAnyH_take (i := 12) (oi := { dst := some 87, op := Op.nilCheck (Operand.tmp 86), type := 0, pos := "ref.go:108", after := #[zD 11, zG 10], guard := some (10, true) }) (v := undef) rfl (by kernel_rfl) (by kernel_rfl) (by kernel_rfl) (fun _ _ _ h => h) (Or.inr ⟨by rfl, rfl⟩) hHeld ?_
              try simp only [Act.put, pS1, pS2, pS3]
              refine wpAnyH_take (i := 13) (oi := { dst := some 88, op := Op.fieldAddr 62 (Operand.tmp 87) 0, type := 0, pos := "ref.go:108", after := #[zD 12, zG 10], guard := some (10, true) }) (v := undef) rfl (by kernel_rfl) (by kernel_rfl) (by kernel_rfl) (fun _ _ _ h => h) (Or.inr ⟨by rfl, rfl⟩) hHeld ?_
              try simp only [Act.put, pS1, pS2, pS3]
              refine wpAnyH_take (i := 14) (oi := { dst := some 89, op := Op.load 60 (Operand.tmp 88), type := 60, pos := "ref.go:108", after := #[zD 13, zG 10], guard := some (10, true) }) (v := undef) rfl (by kernel_rfl) (by kernel_rfl) (by kernel_rfl) (fun _ _ _ h => h) (Or.inr ⟨by rfl, rfl⟩) hHeld ?_
              try simp only [Act.put, pS1, pS2, pS3]
              refine wpAnyH_take (i := 15) (oi := { dst := some 90, op := Op.move (Operand.tmp 10), type := 3, pos := "ref.go:108", after := #[zG 10], guard := some (10, true) }) (v := undef) rfl (by kernel_rfl) (by kernel_rfl) (by kernel_rfl) (fun _ _ _ h => h) (Or.inr ⟨by rfl, rfl⟩) hHeld ?_
              try simp only [Act.put, pS1, pS2, pS3]
              refine wpAnyH_take (i := 16) (oi := { dst := some 91, op := Op.indexAddr 60 (Operand.tmp 89) (Operand.tmp 90), type := 0, pos := "ref.go:108", after := #[zD 14, zD 15, zG 10], guard := some (10, true) }) (v := undef) rfl (by kernel_rfl) (by kernel_rfl) (by kernel_rfl) (fun _ _ _ h => h) (Or.inr ⟨by rfl, rfl⟩) hHeld ?_
              try simp only [Act.put, pS1, pS2, pS3]
              refine wpAnyH_take (i := 17) (oi := { dst := some 92, op := Op.fieldAddr 44 (Operand.tmp 91) 1, type := 0, pos := "ref.go:108", after := #[zD 16, zG 10], guard := some (10, true) }) (v := undef) rfl (by kernel_rfl) (by kernel_rfl) (by kernel_rfl) (fun _ _ _ h => h) (Or.inr ⟨by rfl, rfl⟩) hHeld ?_
              try simp only [Act.put, pS1, pS2, pS3]
              refine wpAnyH_take (i := 18) (oi := { dst := some 93, op := Op.load 3 (Operand.tmp 92), type := 3, pos := "ref.go:108", after := #[zD 17, zG 10], guard := some (10, true) }) (v := undef) rfl (by kernel_rfl) (by kernel_rfl) (by kernel_rfl) (fun _ _ _ h => h) (Or.inr ⟨by rfl, rfl⟩) hHeld ?_
              try simp only [Act.put, pS1, pS2, pS3]
              refine wpAnyH_take (i := 19) (oi := { dst := some 94, op := Op.fieldAddr 44 (Operand.tmp 7) 1, type := 0, pos := "ref.go:108", after := #[zG 10], guard := some (10, true) }) (v := undef) rfl (by kernel_rfl) (by kernel_rfl) (by kernel_rfl) (fun _ _ _ h => h) (Or.inr ⟨by rfl, rfl⟩) hHeld ?_
              try simp only [Act.put, pS1, pS2, pS3]
              refine wpAnyH_take (i := 20) (oi := { dst := some 95, op := Op.load 3 (Operand.tmp 94), type := 3, pos := "ref.go:108", after := #[zD 19, zG 10], guard := some (10, true) }) (v := undef) rfl (by kernel_rfl) (by kernel_rfl) (by kernel_rfl) (fun _ _ _ h => h) (Or.inr ⟨by rfl, rfl⟩) hHeld ?_
              try simp only [Act.put, pS1, pS2, pS3]
              refine wpAnyH_take (i := 21) (oi := { dst := some 96, op := Op.binOp BinOp.gtr 3 (Operand.tmp 93) (Operand.tmp 95) 3, type := 4, pos := "ref.go:108", after := #[zD 18, zD 20, zG 10], guard := some (10, true) }) (v := undef) rfl (by kernel_rfl) (by kernel_rfl) (by kernel_rfl) (fun _ _ _ h => h) (Or.inr ⟨by rfl, rfl⟩) hHeld ?_
              try simp only [Act.put, pS1, pS2, pS3]
              refine wpAnyH_take (i := 22) (oi := { dst := some 97, op := Op.pick (Operand.tmp 85) (Operand.tmp 96) (Operand.const (Value.bool false)), type := 4, pos := "ref.go:108", after := #[zD 10, zD 21], guard := none }) (v := .bool false) rfl (by kernel_rfl) (by kernel_rfl) (by kernel_rfl) (fun _ _ _ h => h) (Or.inl ⟨by rfl, by intro W hSw; go_simp⟩) hHeld ?_
              try simp only [Act.put, pS1, pS2, pS3]
              refine wpAnyH_done (by kernel_rfl) ?_ _
              clear hHeld HBW HX HQ IX SMQ
              go_wp2
              go_roundw
              case rel => exact ⟨k + 1, d, by omega, by go_num, HN, HB2, HX2⟩
              case measure => simp [intOf]; omega
          · obtain rfl : n = k := by omega
            have HPD := HP2.out.done (Nat.le_of_eq HH.out.slen)
            have HMD := hidd HPD.1
            have hdn : ¬ ((n : Int) < (n : Int)) := by omega
            have IX := HOX
            have SMX := hidd (HH.out.same x L.may HH.out.may (.inr rfl))
            have hxc := HH.out.may.cost
            have hdcst := HPD.2.cost
            by_cases hs : rs = L.may.recs
            · rw [decide_eq_true hs] at SMX
              by_cases hcs : d.cost < x.cost
              · have hdc : decide ((d.cost : Int) < (x.cost : Int)) = true := by rw [decide_eq_true_eq]; omega
                have HSX : Hid (StOf w x (opensX L rs true)) := by
                  show StOf w x _
                  rw [HOX.out, dearer_yes hs.symm (by omega)]
                  exact HH.out.may
                have HSD : Hid (∀ V, Below w.heap.size w V → V.frozen? ⟨m, 0, none⟩ = false ∧ V.frozen? ⟨m, 3, none⟩ = false ∧ m < V.heap.size) := fun V hV => by
                  obtain ⟨-, -, -, z1, z2, z3⟩ := NX.out V x (.inr rfl) HSX.out hV
                  exact ⟨z1, z2, z3⟩
                clear HPD HP2 hlt hxc hdcst hs
                go_wp2
                refine wp_region_held_drew (S := (fun V => Below w.heap.size w V ∧ V.heap[W1.heap.size]? = some (.cells #[.slice d.a d.len d.cap, .int .i64 (d.cost : Int)] 44 (0, 0)))) (by kernel_rfl) ⟨HBW.out.drew, HX.out⟩ (fun hHeld => ?_)
                refine wpAnyH_take (i := 0) (oi := { dst := some 105, op := Op.move (Operand.tmp 2), type := 4, pos := "ref.go:112", after := #[], guard := none }) (v := .bool true) rfl (by kernel_rfl) (by kernel_rfl) (by kernel_rfl) (fun _ _ _ h => h) (Or.inl ⟨by rfl, by intro W hSw; go_simp⟩) hHeld ?_
                try simp only [Act.put, pS1, pS2, pS3]
                refine wpAnyH_take (i := 1) (oi := { dst := some 106, op := Op.move (Operand.tmp 105), type := 4, pos := "ref.go:112", after := #[zD 0], guard := none }) (v := .bool true) rfl (by kernel_rfl) (by kernel_rfl) (by kernel_rfl) (fun _ _ _ h => h) (Or.inl ⟨by rfl, by intro W hSw; go_simp⟩) hHeld ?_
                try simp only [Act.put, pS1, pS2, pS3]
                refine wpAnyH_take (i := 2) (oi := { dst := some 107, op := Op.move (Operand.tmp 0), type := 26, pos := "ref.go:112", after := #[zG 1], guard := some (1, true) }) (v := .pointer (some ⟨m, 0, none⟩)) rfl (by kernel_rfl) (by kernel_rfl) (by kernel_rfl) (fun _ _ _ h => h) (Or.inl ⟨by rfl, by intro W hSw; go_simp⟩) hHeld ?_
                try simp only [Act.put, pS1, pS2, pS3]
                refine wpAnyH_take (i := 3) (oi := { dst := some 108, op := Op.nilCheck (Operand.tmp 107), type := 0, pos := "ref.go:112", after := #[zD 2, zG 1], guard := some (1, true) }) (v := .pointer (some ⟨m, 0, none⟩)) rfl (by kernel_rfl) (by kernel_rfl) (by kernel_rfl) (fun _ _ _ h => h) (Or.inl ⟨by rfl, by intro W hSw; go_simp⟩) hHeld ?_
                try simp only [Act.put, pS1, pS2, pS3]
                refine wpAnyH_take (i := 4) (oi := { dst := some 109, op := Op.fieldAddr 62 (Operand.tmp 108) 2, type := 0, pos := "ref.go:112", after := #[zD 3, zG 1], guard := some (1, true) }) (v := .pointer (some ⟨m, 3, none⟩)) rfl (by kernel_rfl) (by kernel_rfl) (by kernel_rfl) (fun _ _ _ h => h) (Or.inl ⟨by rfl, by intro W hSw; go_simp⟩) hHeld ?_
                try simp only [Act.put, pS1, pS2, pS3]
                refine wpAnyH_take (i := 5) (oi := { dst := some 110, op := Op.load 4 (Operand.tmp 109), type := 4, pos := "ref.go:112", after := #[zD 4, zG 1], guard := some (1, true) }) (v := .bool true) rfl (by kernel_rfl) (by kernel_rfl) (by kernel_rfl) (fun _ _ _ h => h) (Or.inl ⟨by rfl, by intro W hSw; have h1 := (HC.out W hSw.1).2.2.2; go_simp⟩) hHeld ?_
                try simp only [Act.put, pS1, pS2, pS3]
                refine wpAnyH_take (i := 6) (oi := { dst := some 111, op := Op.pick (Operand.tmp 106) (Operand.tmp 110) (Operand.const (Value.bool false)), type := 4, pos := "ref.go:112", after := #[zD 1, zD 5], guard := none }) (v := .bool true) rfl (by kernel_rfl) (by kernel_rfl) (by kernel_rfl) (fun _ _ _ h => h) (Or.inl ⟨by rfl, by intro W hSw; go_simp⟩) hHeld ?_
                try simp only [Act.put, pS1, pS2, pS3]
                refine wpAnyH_take (i := 7) (oi := { dst := some 112, op := Op.move (Operand.tmp 111), type := 4, pos := "ref.go:112", after := #[zD 6, zC 1], guard := none }) (v := .bool true) rfl (by kernel_rfl) (by kernel_rfl) (by kernel_rfl) (fun _ _ _ h => h) (Or.inl ⟨by rfl, by intro W hSw; go_simp⟩) hHeld ?_
                try simp only [Act.put, pS1, pS2, pS3]
                refine wpAnyH_take (i := 8) (oi := { dst := some 113, op := Op.move (Operand.tmp 1), type := 29, pos := "ref.go:112", after := #[zG 7], guard := some (7, true) }) (v := .slice a len cap) rfl (by kernel_rfl) (by kernel_rfl) (by kernel_rfl) (fun _ _ _ h => h) (Or.inl ⟨by rfl, by intro W hSw; go_simp⟩) hHeld ?_
                try simp only [Act.put, pS1, pS2, pS3]
                refine wpAnyH_take (i := 9) (oi := { dst := some 114, op := Op.move (Operand.tmp 0), type := 26, pos := "ref.go:112", after := #[zG 7], guard := some (7, true) }) (v := .pointer (some ⟨m, 0, none⟩)) rfl (by kernel_rfl) (by kernel_rfl) (by kernel_rfl) (fun _ _ _ h => h) (Or.inl ⟨by rfl, by intro W hSw; go_simp⟩) hHeld ?_
                try simp only [Act.put, pS1, pS2, pS3]
                refine wpAnyH_take (i := 10) (oi := { dst := some 115, op := Op.nilCheck (Operand.tmp 114), type := 0, pos := "ref.go:112", after := #[zD 9, zG 7], guard := some (7, true) }) (v := .pointer (some ⟨m, 0, none⟩)) rfl (by kernel_rfl) (by kernel_rfl) (by kernel_rfl) (fun _ _ _ h => h) (Or.inl ⟨by rfl, by intro W hSw; go_simp⟩) hHeld ?_
                try simp only [Act.put, pS1, pS2, pS3]
                refine wpAnyH_take (i := 11) (oi := { dst := some 116, op := Op.fieldAddr 62 (Operand.tmp 115) 1, type := 0, pos := "ref.go:112", after := #[zD 10, zG 7], guard := some (7, true) }) (v := .pointer (some ⟨m, 1, none⟩)) rfl (by kernel_rfl) (by kernel_rfl) (by kernel_rfl) (fun _ _ _ h => h) (Or.inl ⟨by rfl, by intro W hSw; go_simp⟩) hHeld ?_
                try simp only [Act.put, pS1, pS2, pS3]
                refine wpAnyH_take (i := 12) (oi := { dst := some 117, op := Op.fieldAddr 44 (Operand.tmp 116) 0, type := 0, pos := "ref.go:112", after := #[zD 11, zG 7], guard := some (7, true) }) (v := .pointer (some ⟨m, 1, none⟩)) rfl (by kernel_rfl) (by kernel_rfl) (by kernel_rfl) (fun _ _ _ h => h) (Or.inl ⟨by rfl, by intro W hSw; go_simp⟩) hHeld ?_
                try simp only [Act.put, pS1, pS2, pS3]
                refine wpAnyH_take (i := 13) (oi := { dst := some 118, op := Op.load 29 (Operand.tmp 117), type := 29, pos := "ref.go:112", after := #[zD 12, zG 7], guard := some (7, true) }) (v := .slice x.a x.len x.cap) rfl (by kernel_rfl) (by kernel_rfl) (by kernel_rfl) (fun _ _ _ h => h) (Or.inl ⟨by rfl, by intro W hSw; have h1 := (HC.out W hSw.1).2.1; go_simp⟩) hHeld ?_
                try simp only [Act.put, pS1, pS2, pS3]
                refine wpAnyH_ready (rs := [14]) (by kernel_rfl) (by simp) ?_
                refine (AllReadyH.cons (o := { dst := some 119, op := Op.call { callee := Callee.value (Operand.func 27), args := #[Operand.tmp 113, Operand.tmp 118], argTypes := #[29, 29] }, type := 4, pos := "ref.go:112", after := #[zD 8, zD 13, zC 7, zG 7], guard := some (7, true) }) rfl (fun K hK => ?_) AllReadyH.nil)
                go_simp
                refine (SMX.out _ HBW.out.drew).mono ?_
                rintro e W2 ⟨rfl, hb2⟩
                have HB2 := hidd (HBW.out.drew.trans (hb2.mono HBW.out.drew.size))
                have HX2 : Hid (W2.heap[W1.heap.size]? = some (.cells #[.slice d.a d.len d.cap, .int .i64 (d.cost : Int)] 44 (0, 0))) := (hb2.block W1.heap.size (heap_lt HX.out)).trans HX.out
                clear hb2
                go_wp2_with fail
                refine hK.out _ _ ⟨HB2.out, HX2.out⟩ (fun hHeld => ?_)
                clear hK K
                try simp only [Act.put, pS1, pS2, pS3]
                refine wpAnyH_take (i := 15) (oi := { dst := some 120, op := Op.pick (Operand.tmp 112) (Operand.tmp 119) (Operand.const (Value.bool false)), type := 4, pos := "ref.go:112", after := #[zD 7, zD 14], guard := none }) (v := .bool true) rfl (by kernel_rfl) (by kernel_rfl) (by kernel_rfl) (fun _ _ _ h => h) (Or.inl ⟨by rfl, by intro W hSw; go_simp⟩) hHeld ?_
                try simp only [Act.put, pS1, pS2, pS3]
                refine wpAnyH_take (i := 16) (oi := { dst := some 121, op := Op.move (Operand.tmp 120), type := 4, pos := "ref.go:112", after := #[zD 15, zC 14], guard := none }) (v := .bool true) rfl (by kernel_rfl) (by kernel_rfl) (by kernel_rfl) (fun _ _ _ h => h) (Or.inl ⟨by rfl, by intro W hSw; go_simp⟩) hHeld ?_
                try simp only [Act.put, pS1, pS2, pS3]
                refine wpAnyH_take (i := 17) (oi := { dst := some 122, op := Op.move (Operand.tmp 0), type := 26, pos := "ref.go:112", after := #[zG 16], guard := some (16, true) }) (v := .pointer (some ⟨m, 0, none⟩)) rfl (by kernel_rfl) (by kernel_rfl) (by kernel_rfl) (fun _ _ _ h => h) (Or.inl ⟨by rfl, by intro W hSw; go_simp⟩) hHeld ?_
                try simp only [Act.put, pS1, pS2, pS3]
                refine wpAnyH_take (i := 18) (oi := { dst := some 123, op := Op.nilCheck (Operand.tmp 122), type := 0, pos := "ref.go:112", after := #[zD 17, zG 16], guard := some (16, true) }) (v := .pointer (some ⟨m, 0, none⟩)) rfl (by kernel_rfl) (by kernel_rfl) (by kernel_rfl) (fun _ _ _ h => h) (Or.inl ⟨by rfl, by intro W hSw; go_simp⟩) hHeld ?_
                try simp only [Act.put, pS1, pS2, pS3]
                refine wpAnyH_take (i := 19) (oi := { dst := some 124, op := Op.fieldAddr 62 (Operand.tmp 123) 1, type := 0, pos := "ref.go:112", after := #[zD 18, zG 16], guard := some (16, true) }) (v := .pointer (some ⟨m, 1, none⟩)) rfl (by kernel_rfl) (by kernel_rfl) (by kernel_rfl) (fun _ _ _ h => h) (Or.inl ⟨by rfl, by intro W hSw; go_simp⟩) hHeld ?_
                try simp only [Act.put, pS1, pS2, pS3]
                refine wpAnyH_take (i := 20) (oi := { dst := some 125, op := Op.fieldAddr 44 (Operand.tmp 124) 1, type := 0, pos := "ref.go:112", after := #[zD 19, zG 16], guard := some (16, true) }) (v := .pointer (some ⟨m, 2, none⟩)) rfl (by kernel_rfl) (by kernel_rfl) (by kernel_rfl) (fun _ _ _ h => h) (Or.inl ⟨by rfl, by intro W hSw; go_simp⟩) hHeld ?_
                try simp only [Act.put, pS1, pS2, pS3]
                refine wpAnyH_take (i := 21) (oi := { dst := some 126, op := Op.load 3 (Operand.tmp 125), type := 3, pos := "ref.go:112", after := #[zD 20, zG 16], guard := some (16, true) }) (v := .int .i64 (x.cost : Int)) rfl (by kernel_rfl) (by kernel_rfl) (by kernel_rfl) (fun _ _ _ h => h) (Or.inl ⟨by rfl, by intro W hSw; have h1 := (HC.out W hSw.1).2.2.1; go_simp⟩) hHeld ?_
                try simp only [Act.put, pS1, pS2, pS3]
                refine wpAnyH_take (i := 22) (oi := { dst := some 127, op := Op.fieldAddr 44 (Operand.tmp 7) 1, type := 0, pos := "ref.go:112", after := #[zG 16], guard := some (16, true) }) (v := .pointer (some ⟨W1.heap.size, 1, none⟩)) rfl (by kernel_rfl) (by kernel_rfl) (by kernel_rfl) (fun _ _ _ h => h) (Or.inl ⟨by rfl, by intro W hSw; go_simp⟩) hHeld ?_
                try simp only [Act.put, pS1, pS2, pS3]
                refine wpAnyH_take (i := 23) (oi := { dst := some 128, op := Op.load 3 (Operand.tmp 127), type := 3, pos := "ref.go:112", after := #[zD 22, zG 16], guard := some (16, true) }) (v := .int .i64 (d.cost : Int)) rfl (by kernel_rfl) (by kernel_rfl) (by kernel_rfl) (fun _ _ _ h => h) (Or.inl ⟨by rfl, by intro W hSw; have h1 := row1 hSw.2; go_simp⟩) hHeld ?_
                try simp only [Act.put, pS1, pS2, pS3]
                refine wpAnyH_take (i := 24) (oi := { dst := some 129, op := Op.binOp BinOp.gtr 3 (Operand.tmp 126) (Operand.tmp 128) 3, type := 4, pos := "ref.go:112", after := #[zD 21, zD 23, zG 16], guard := some (16, true) }) (v := .bool true) rfl (by kernel_rfl) (by kernel_rfl) (by kernel_rfl) (fun _ _ _ h => h) (Or.inl ⟨by rfl, by intro W hSw; go_simp⟩) hHeld ?_
                try simp only [Act.put, pS1, pS2, pS3]
                refine wpAnyH_take (i := 25) (oi := { dst := some 130, op := Op.pick (Operand.tmp 121) (Operand.tmp 129) (Operand.const (Value.bool false)), type := 4, pos := "ref.go:112", after := #[zD 16, zD 24], guard := none }) (v := .bool true) rfl (by kernel_rfl) (by kernel_rfl) (by kernel_rfl) (fun _ _ _ h => h) (Or.inl ⟨by rfl, by intro W hSw; go_simp⟩) hHeld ?_
                try simp only [Act.put, pS1, pS2, pS3]
                refine wpAnyH_done (by kernel_rfl) ?_ _
                clear hHeld HBW HX
                obtain ⟨m0, m1, m2, m3⟩ := HC.out W2 HB2.out
                obtain ⟨zf0, zf3, hmW⟩ := HSD.out W2 HB2.out
                have x0 := row0 HX2.out
                have x1 := row1 HX2.out
                have xf0 := frozen_of_row W2 W1.heap.size 0 _ _ HX2.out
                have xf1 := frozen_of_row W2 W1.heap.size 1 _ _ HX2.out
                have HB3 : Hid (Below w.heap.size w ((W2.setCell ⟨W1.heap.size, 0, none⟩ (.slice x.a x.len x.cap)).setCell ⟨W1.heap.size, 1, none⟩ (.int .i64 (x.cost : Int)))) := (HB2.out.setCell HGW.out _).setCell HGW.out _
                obtain ⟨hfin, -⟩ := NX.out ((W2.setCell ⟨W1.heap.size, 0, none⟩ (.slice x.a x.len x.cap)).setCell ⟨W1.heap.size, 1, none⟩ (.int .i64 (x.cost : Int))) x (.inr rfl) HSX.out HB3.out
                rw [show ((W2.setCell ⟨W1.heap.size, 0, none⟩ (.slice x.a x.len x.cap)).setCell ⟨W1.heap.size, 1, none⟩ (.int .i64 (x.cost : Int))).heap.size = W2.heap.size by simp] at hfin
                have HF := hidd hfin
                have hgm : m < W1.heap.size := HGM.out
                clear hfin HC NX SMX IX HB3 HSD HSX
                go_wp2
                go_ret
                exact ⟨by rw [HFD.out]; rfl, HF.out⟩
              · have hdc : decide ((d.cost : Int) < (x.cost : Int)) = false := by rw [decide_eq_false_iff_not]; omega
                have HSD : Hid (StOf w d (opensX L rs true)) := by
                  show StOf w d _
                  rw [HOX.out, dearer_no (fun h => by have := h.2; omega)]
                  exact HPD.2
                clear HPD HP2 hlt hxc hdcst hs
                go_wp2
                refine wp_region_held_drew (S := (fun V => Below w.heap.size w V ∧ V.heap[W1.heap.size]? = some (.cells #[.slice d.a d.len d.cap, .int .i64 (d.cost : Int)] 44 (0, 0)))) (by kernel_rfl) ⟨HBW.out.drew, HX.out⟩ (fun hHeld => ?_)
                refine wpAnyH_take (i := 0) (oi := { dst := some 105, op := Op.move (Operand.tmp 2), type := 4, pos := "ref.go:112", after := #[], guard := none }) (v := .bool true) rfl (by kernel_rfl) (by kernel_rfl) (by kernel_rfl) (fun _ _ _ h => h) (Or.inl ⟨by rfl, by intro W hSw; go_simp⟩) hHeld ?_
                try simp only [Act.put, pS1, pS2, pS3]
                refine wpAnyH_take (i := 1) (oi := { dst := some 106, op := Op.move (Operand.tmp 105), type := 4, pos := "ref.go:112", after := #[zD 0], guard := none }) (v := .bool true) rfl (by kernel_rfl) (by kernel_rfl) (by kernel_rfl) (fun _ _ _ h => h) (Or.inl ⟨by rfl, by intro W hSw; go_simp⟩) hHeld ?_
                try simp only [Act.put, pS1, pS2, pS3]
                refine wpAnyH_take (i := 2) (oi := { dst := some 107, op := Op.move (Operand.tmp 0), type := 26, pos := "ref.go:112", after := #[zG 1], guard := some (1, true) }) (v := .pointer (some ⟨m, 0, none⟩)) rfl (by kernel_rfl) (by kernel_rfl) (by kernel_rfl) (fun _ _ _ h => h) (Or.inl ⟨by rfl, by intro W hSw; go_simp⟩) hHeld ?_
                try simp only [Act.put, pS1, pS2, pS3]
                refine wpAnyH_take (i := 3) (oi := { dst := some 108, op := Op.nilCheck (Operand.tmp 107), type := 0, pos := "ref.go:112", after := #[zD 2, zG 1], guard := some (1, true) }) (v := .pointer (some ⟨m, 0, none⟩)) rfl (by kernel_rfl) (by kernel_rfl) (by kernel_rfl) (fun _ _ _ h => h) (Or.inl ⟨by rfl, by intro W hSw; go_simp⟩) hHeld ?_
                try simp only [Act.put, pS1, pS2, pS3]
                refine wpAnyH_take (i := 4) (oi := { dst := some 109, op := Op.fieldAddr 62 (Operand.tmp 108) 2, type := 0, pos := "ref.go:112", after := #[zD 3, zG 1], guard := some (1, true) }) (v := .pointer (some ⟨m, 3, none⟩)) rfl (by kernel_rfl) (by kernel_rfl) (by kernel_rfl) (fun _ _ _ h => h) (Or.inl ⟨by rfl, by intro W hSw; go_simp⟩) hHeld ?_
                try simp only [Act.put, pS1, pS2, pS3]
                refine wpAnyH_take (i := 5) (oi := { dst := some 110, op := Op.load 4 (Operand.tmp 109), type := 4, pos := "ref.go:112", after := #[zD 4, zG 1], guard := some (1, true) }) (v := .bool true) rfl (by kernel_rfl) (by kernel_rfl) (by kernel_rfl) (fun _ _ _ h => h) (Or.inl ⟨by rfl, by intro W hSw; have h1 := (HC.out W hSw.1).2.2.2; go_simp⟩) hHeld ?_
                try simp only [Act.put, pS1, pS2, pS3]
                refine wpAnyH_take (i := 6) (oi := { dst := some 111, op := Op.pick (Operand.tmp 106) (Operand.tmp 110) (Operand.const (Value.bool false)), type := 4, pos := "ref.go:112", after := #[zD 1, zD 5], guard := none }) (v := .bool true) rfl (by kernel_rfl) (by kernel_rfl) (by kernel_rfl) (fun _ _ _ h => h) (Or.inl ⟨by rfl, by intro W hSw; go_simp⟩) hHeld ?_
                try simp only [Act.put, pS1, pS2, pS3]
                refine wpAnyH_take (i := 7) (oi := { dst := some 112, op := Op.move (Operand.tmp 111), type := 4, pos := "ref.go:112", after := #[zD 6, zC 1], guard := none }) (v := .bool true) rfl (by kernel_rfl) (by kernel_rfl) (by kernel_rfl) (fun _ _ _ h => h) (Or.inl ⟨by rfl, by intro W hSw; go_simp⟩) hHeld ?_
                try simp only [Act.put, pS1, pS2, pS3]
                refine wpAnyH_take (i := 8) (oi := { dst := some 113, op := Op.move (Operand.tmp 1), type := 29, pos := "ref.go:112", after := #[zG 7], guard := some (7, true) }) (v := .slice a len cap) rfl (by kernel_rfl) (by kernel_rfl) (by kernel_rfl) (fun _ _ _ h => h) (Or.inl ⟨by rfl, by intro W hSw; go_simp⟩) hHeld ?_
                try simp only [Act.put, pS1, pS2, pS3]
                refine wpAnyH_take (i := 9) (oi := { dst := some 114, op := Op.move (Operand.tmp 0), type := 26, pos := "ref.go:112", after := #[zG 7], guard := some (7, true) }) (v := .pointer (some ⟨m, 0, none⟩)) rfl (by kernel_rfl) (by kernel_rfl) (by kernel_rfl) (fun _ _ _ h => h) (Or.inl ⟨by rfl, by intro W hSw; go_simp⟩) hHeld ?_
                try simp only [Act.put, pS1, pS2, pS3]
                refine wpAnyH_take (i := 10) (oi := { dst := some 115, op := Op.nilCheck (Operand.tmp 114), type := 0, pos := "ref.go:112", after := #[zD 9, zG 7], guard := some (7, true) }) (v := .pointer (some ⟨m, 0, none⟩)) rfl (by kernel_rfl) (by kernel_rfl) (by kernel_rfl) (fun _ _ _ h => h) (Or.inl ⟨by rfl, by intro W hSw; go_simp⟩) hHeld ?_
                try simp only [Act.put, pS1, pS2, pS3]
                refine wpAnyH_take (i := 11) (oi := { dst := some 116, op := Op.fieldAddr 62 (Operand.tmp 115) 1, type := 0, pos := "ref.go:112", after := #[zD 10, zG 7], guard := some (7, true) }) (v := .pointer (some ⟨m, 1, none⟩)) rfl (by kernel_rfl) (by kernel_rfl) (by kernel_rfl) (fun _ _ _ h => h) (Or.inl ⟨by rfl, by intro W hSw; go_simp⟩) hHeld ?_
                try simp only [Act.put, pS1, pS2, pS3]
                refine wpAnyH_take (i := 12) (oi := { dst := some 117, op := Op.fieldAddr 44 (Operand.tmp 116) 0, type := 0, pos := "ref.go:112", after := #[zD 11, zG 7], guard := some (7, true) }) (v := .pointer (some ⟨m, 1, none⟩)) rfl (by kernel_rfl) (by kernel_rfl) (by kernel_rfl) (fun _ _ _ h => h) (Or.inl ⟨by rfl, by intro W hSw; go_simp⟩) hHeld ?_
                try simp only [Act.put, pS1, pS2, pS3]
                refine wpAnyH_take (i := 13) (oi := { dst := some 118, op := Op.load 29 (Operand.tmp 117), type := 29, pos := "ref.go:112", after := #[zD 12, zG 7], guard := some (7, true) }) (v := .slice x.a x.len x.cap) rfl (by kernel_rfl) (by kernel_rfl) (by kernel_rfl) (fun _ _ _ h => h) (Or.inl ⟨by rfl, by intro W hSw; have h1 := (HC.out W hSw.1).2.1; go_simp⟩) hHeld ?_
                try simp only [Act.put, pS1, pS2, pS3]
                refine wpAnyH_ready (rs := [14]) (by kernel_rfl) (by simp) ?_
                refine (AllReadyH.cons (o := { dst := some 119, op := Op.call { callee := Callee.value (Operand.func 27), args := #[Operand.tmp 113, Operand.tmp 118], argTypes := #[29, 29] }, type := 4, pos := "ref.go:112", after := #[zD 8, zD 13, zC 7, zG 7], guard := some (7, true) }) rfl (fun K hK => ?_) AllReadyH.nil)
                go_simp
                refine (SMX.out _ HBW.out.drew).mono ?_
                rintro e W2 ⟨rfl, hb2⟩
                have HB2 := hidd (HBW.out.drew.trans (hb2.mono HBW.out.drew.size))
                have HX2 : Hid (W2.heap[W1.heap.size]? = some (.cells #[.slice d.a d.len d.cap, .int .i64 (d.cost : Int)] 44 (0, 0))) := (hb2.block W1.heap.size (heap_lt HX.out)).trans HX.out
                clear hb2
                go_wp2_with fail
                refine hK.out _ _ ⟨HB2.out, HX2.out⟩ (fun hHeld => ?_)
                clear hK K
                try simp only [Act.put, pS1, pS2, pS3]
                refine wpAnyH_take (i := 15) (oi := { dst := some 120, op := Op.pick (Operand.tmp 112) (Operand.tmp 119) (Operand.const (Value.bool false)), type := 4, pos := "ref.go:112", after := #[zD 7, zD 14], guard := none }) (v := .bool true) rfl (by kernel_rfl) (by kernel_rfl) (by kernel_rfl) (fun _ _ _ h => h) (Or.inl ⟨by rfl, by intro W hSw; go_simp⟩) hHeld ?_
                try simp only [Act.put, pS1, pS2, pS3]
                refine wpAnyH_take (i := 16) (oi := { dst := some 121, op := Op.move (Operand.tmp 120), type := 4, pos := "ref.go:112", after := #[zD 15, zC 14], guard := none }) (v := .bool true) rfl (by kernel_rfl) (by kernel_rfl) (by kernel_rfl) (fun _ _ _ h => h) (Or.inl ⟨by rfl, by intro W hSw; go_simp⟩) hHeld ?_
                try simp only [Act.put, pS1, pS2, pS3]
                refine wpAnyH_take (i := 17) (oi := { dst := some 122, op := Op.move (Operand.tmp 0), type := 26, pos := "ref.go:112", after := #[zG 16], guard := some (16, true) }) (v := .pointer (some ⟨m, 0, none⟩)) rfl (by kernel_rfl) (by kernel_rfl) (by kernel_rfl) (fun _ _ _ h => h) (Or.inl ⟨by rfl, by intro W hSw; go_simp⟩) hHeld ?_
                try simp only [Act.put, pS1, pS2, pS3]
                refine wpAnyH_take (i := 18) (oi := { dst := some 123, op := Op.nilCheck (Operand.tmp 122), type := 0, pos := "ref.go:112", after := #[zD 17, zG 16], guard := some (16, true) }) (v := .pointer (some ⟨m, 0, none⟩)) rfl (by kernel_rfl) (by kernel_rfl) (by kernel_rfl) (fun _ _ _ h => h) (Or.inl ⟨by rfl, by intro W hSw; go_simp⟩) hHeld ?_
                try simp only [Act.put, pS1, pS2, pS3]
                refine wpAnyH_take (i := 19) (oi := { dst := some 124, op := Op.fieldAddr 62 (Operand.tmp 123) 1, type := 0, pos := "ref.go:112", after := #[zD 18, zG 16], guard := some (16, true) }) (v := .pointer (some ⟨m, 1, none⟩)) rfl (by kernel_rfl) (by kernel_rfl) (by kernel_rfl) (fun _ _ _ h => h) (Or.inl ⟨by rfl, by intro W hSw; go_simp⟩) hHeld ?_
                try simp only [Act.put, pS1, pS2, pS3]
                refine wpAnyH_take (i := 20) (oi := { dst := some 125, op := Op.fieldAddr 44 (Operand.tmp 124) 1, type := 0, pos := "ref.go:112", after := #[zD 19, zG 16], guard := some (16, true) }) (v := .pointer (some ⟨m, 2, none⟩)) rfl (by kernel_rfl) (by kernel_rfl) (by kernel_rfl) (fun _ _ _ h => h) (Or.inl ⟨by rfl, by intro W hSw; go_simp⟩) hHeld ?_
                try simp only [Act.put, pS1, pS2, pS3]
                refine wpAnyH_take (i := 21) (oi := { dst := some 126, op := Op.load 3 (Operand.tmp 125), type := 3, pos := "ref.go:112", after := #[zD 20, zG 16], guard := some (16, true) }) (v := .int .i64 (x.cost : Int)) rfl (by kernel_rfl) (by kernel_rfl) (by kernel_rfl) (fun _ _ _ h => h) (Or.inl ⟨by rfl, by intro W hSw; have h1 := (HC.out W hSw.1).2.2.1; go_simp⟩) hHeld ?_
                try simp only [Act.put, pS1, pS2, pS3]
                refine wpAnyH_take (i := 22) (oi := { dst := some 127, op := Op.fieldAddr 44 (Operand.tmp 7) 1, type := 0, pos := "ref.go:112", after := #[zG 16], guard := some (16, true) }) (v := .pointer (some ⟨W1.heap.size, 1, none⟩)) rfl (by kernel_rfl) (by kernel_rfl) (by kernel_rfl) (fun _ _ _ h => h) (Or.inl ⟨by rfl, by intro W hSw; go_simp⟩) hHeld ?_
                try simp only [Act.put, pS1, pS2, pS3]
                refine wpAnyH_take (i := 23) (oi := { dst := some 128, op := Op.load 3 (Operand.tmp 127), type := 3, pos := "ref.go:112", after := #[zD 22, zG 16], guard := some (16, true) }) (v := .int .i64 (d.cost : Int)) rfl (by kernel_rfl) (by kernel_rfl) (by kernel_rfl) (fun _ _ _ h => h) (Or.inl ⟨by rfl, by intro W hSw; have h1 := row1 hSw.2; go_simp⟩) hHeld ?_
                try simp only [Act.put, pS1, pS2, pS3]
                refine wpAnyH_take (i := 24) (oi := { dst := some 129, op := Op.binOp BinOp.gtr 3 (Operand.tmp 126) (Operand.tmp 128) 3, type := 4, pos := "ref.go:112", after := #[zD 21, zD 23, zG 16], guard := some (16, true) }) (v := .bool false) rfl (by kernel_rfl) (by kernel_rfl) (by kernel_rfl) (fun _ _ _ h => h) (Or.inl ⟨by rfl, by intro W hSw; go_simp⟩) hHeld ?_
                try simp only [Act.put, pS1, pS2, pS3]
                refine wpAnyH_take (i := 25) (oi := { dst := some 130, op := Op.pick (Operand.tmp 121) (Operand.tmp 129) (Operand.const (Value.bool false)), type := 4, pos := "ref.go:112", after := #[zD 16, zD 24], guard := none }) (v := .bool false) rfl (by kernel_rfl) (by kernel_rfl) (by kernel_rfl) (fun _ _ _ h => h) (Or.inl ⟨by rfl, by intro W hSw; go_simp⟩) hHeld ?_
                try simp only [Act.put, pS1, pS2, pS3]
                refine wpAnyH_done (by kernel_rfl) ?_ _
                clear hHeld HBW HX
                have x0 := row0 HX2.out
                have x1 := row1 HX2.out
                have xf0 := frozen_of_row W2 W1.heap.size 0 _ _ HX2.out
                have xf1 := frozen_of_row W2 W1.heap.size 1 _ _ HX2.out
                obtain ⟨-, z0, z3, zf0, zf3, hmW⟩ := NX.out W2 d HMD.out HSD.out HB2.out
                obtain ⟨hfin, -⟩ := NX.out W2 d HMD.out HSD.out HB2.out
                have HF := hidd hfin
                clear hfin
                clear HC NX SMX IX
                go_wp2
                go_ret
                exact ⟨by rw [HFD.out]; rfl, HF.out⟩
            · rw [decide_eq_false hs] at SMX
              have HSD : Hid (StOf w d (opensX L rs true)) := by
                show StOf w d _
                rw [HOX.out, dearer_no (fun h => hs h.1.symm)]
                exact HPD.2
              clear HPD HP2 hlt hxc hdcst hs
              go_wp2
              refine wp_region_held_drew (S := (fun V => Below w.heap.size w V ∧ V.heap[W1.heap.size]? = some (.cells #[.slice d.a d.len d.cap, .int .i64 (d.cost : Int)] 44 (0, 0)))) (by kernel_rfl) ⟨HBW.out.drew, HX.out⟩ (fun hHeld => ?_)
              refine wpAnyH_take (i := 0) (oi := { dst := some 105, op := Op.move (Operand.tmp 2), type := 4, pos := "ref.go:112", after := #[], guard := none }) (v := .bool true) rfl (by kernel_rfl) (by kernel_rfl) (by kernel_rfl) (fun _ _ _ h => h) (Or.inl ⟨by rfl, by intro W hSw; go_simp⟩) hHeld ?_
              try simp only [Act.put, pS1, pS2, pS3]
              refine wpAnyH_take (i := 1) (oi := { dst := some 106, op := Op.move (Operand.tmp 105), type := 4, pos := "ref.go:112", after := #[zD 0], guard := none }) (v := .bool true) rfl (by kernel_rfl) (by kernel_rfl) (by kernel_rfl) (fun _ _ _ h => h) (Or.inl ⟨by rfl, by intro W hSw; go_simp⟩) hHeld ?_
              try simp only [Act.put, pS1, pS2, pS3]
              refine wpAnyH_take (i := 2) (oi := { dst := some 107, op := Op.move (Operand.tmp 0), type := 26, pos := "ref.go:112", after := #[zG 1], guard := some (1, true) }) (v := .pointer (some ⟨m, 0, none⟩)) rfl (by kernel_rfl) (by kernel_rfl) (by kernel_rfl) (fun _ _ _ h => h) (Or.inl ⟨by rfl, by intro W hSw; go_simp⟩) hHeld ?_
              try simp only [Act.put, pS1, pS2, pS3]
              refine wpAnyH_take (i := 3) (oi := { dst := some 108, op := Op.nilCheck (Operand.tmp 107), type := 0, pos := "ref.go:112", after := #[zD 2, zG 1], guard := some (1, true) }) (v := .pointer (some ⟨m, 0, none⟩)) rfl (by kernel_rfl) (by kernel_rfl) (by kernel_rfl) (fun _ _ _ h => h) (Or.inl ⟨by rfl, by intro W hSw; go_simp⟩) hHeld ?_
              try simp only [Act.put, pS1, pS2, pS3]
              refine wpAnyH_take (i := 4) (oi := { dst := some 109, op := Op.fieldAddr 62 (Operand.tmp 108) 2, type := 0, pos := "ref.go:112", after := #[zD 3, zG 1], guard := some (1, true) }) (v := .pointer (some ⟨m, 3, none⟩)) rfl (by kernel_rfl) (by kernel_rfl) (by kernel_rfl) (fun _ _ _ h => h) (Or.inl ⟨by rfl, by intro W hSw; go_simp⟩) hHeld ?_
              try simp only [Act.put, pS1, pS2, pS3]
              refine wpAnyH_take (i := 5) (oi := { dst := some 110, op := Op.load 4 (Operand.tmp 109), type := 4, pos := "ref.go:112", after := #[zD 4, zG 1], guard := some (1, true) }) (v := .bool true) rfl (by kernel_rfl) (by kernel_rfl) (by kernel_rfl) (fun _ _ _ h => h) (Or.inl ⟨by rfl, by intro W hSw; have h1 := (HC.out W hSw.1).2.2.2; go_simp⟩) hHeld ?_
              try simp only [Act.put, pS1, pS2, pS3]
              refine wpAnyH_take (i := 6) (oi := { dst := some 111, op := Op.pick (Operand.tmp 106) (Operand.tmp 110) (Operand.const (Value.bool false)), type := 4, pos := "ref.go:112", after := #[zD 1, zD 5], guard := none }) (v := .bool true) rfl (by kernel_rfl) (by kernel_rfl) (by kernel_rfl) (fun _ _ _ h => h) (Or.inl ⟨by rfl, by intro W hSw; go_simp⟩) hHeld ?_
              try simp only [Act.put, pS1, pS2, pS3]
              refine wpAnyH_take (i := 7) (oi := { dst := some 112, op := Op.move (Operand.tmp 111), type := 4, pos := "ref.go:112", after := #[zD 6, zC 1], guard := none }) (v := .bool true) rfl (by kernel_rfl) (by kernel_rfl) (by kernel_rfl) (fun _ _ _ h => h) (Or.inl ⟨by rfl, by intro W hSw; go_simp⟩) hHeld ?_
              try simp only [Act.put, pS1, pS2, pS3]
              refine wpAnyH_take (i := 8) (oi := { dst := some 113, op := Op.move (Operand.tmp 1), type := 29, pos := "ref.go:112", after := #[zG 7], guard := some (7, true) }) (v := .slice a len cap) rfl (by kernel_rfl) (by kernel_rfl) (by kernel_rfl) (fun _ _ _ h => h) (Or.inl ⟨by rfl, by intro W hSw; go_simp⟩) hHeld ?_
              try simp only [Act.put, pS1, pS2, pS3]
              refine wpAnyH_take (i := 9) (oi := { dst := some 114, op := Op.move (Operand.tmp 0), type := 26, pos := "ref.go:112", after := #[zG 7], guard := some (7, true) }) (v := .pointer (some ⟨m, 0, none⟩)) rfl (by kernel_rfl) (by kernel_rfl) (by kernel_rfl) (fun _ _ _ h => h) (Or.inl ⟨by rfl, by intro W hSw; go_simp⟩) hHeld ?_
              try simp only [Act.put, pS1, pS2, pS3]
              refine wpAnyH_take (i := 10) (oi := { dst := some 115, op := Op.nilCheck (Operand.tmp 114), type := 0, pos := "ref.go:112", after := #[zD 9, zG 7], guard := some (7, true) }) (v := .pointer (some ⟨m, 0, none⟩)) rfl (by kernel_rfl) (by kernel_rfl) (by kernel_rfl) (fun _ _ _ h => h) (Or.inl ⟨by rfl, by intro W hSw; go_simp⟩) hHeld ?_
              try simp only [Act.put, pS1, pS2, pS3]
              refine wpAnyH_take (i := 11) (oi := { dst := some 116, op := Op.fieldAddr 62 (Operand.tmp 115) 1, type := 0, pos := "ref.go:112", after := #[zD 10, zG 7], guard := some (7, true) }) (v := .pointer (some ⟨m, 1, none⟩)) rfl (by kernel_rfl) (by kernel_rfl) (by kernel_rfl) (fun _ _ _ h => h) (Or.inl ⟨by rfl, by intro W hSw; go_simp⟩) hHeld ?_
              try simp only [Act.put, pS1, pS2, pS3]
              refine wpAnyH_take (i := 12) (oi := { dst := some 117, op := Op.fieldAddr 44 (Operand.tmp 116) 0, type := 0, pos := "ref.go:112", after := #[zD 11, zG 7], guard := some (7, true) }) (v := .pointer (some ⟨m, 1, none⟩)) rfl (by kernel_rfl) (by kernel_rfl) (by kernel_rfl) (fun _ _ _ h => h) (Or.inl ⟨by rfl, by intro W hSw; go_simp⟩) hHeld ?_
              try simp only [Act.put, pS1, pS2, pS3]
              refine wpAnyH_take (i := 13) (oi := { dst := some 118, op := Op.load 29 (Operand.tmp 117), type := 29, pos := "ref.go:112", after := #[zD 12, zG 7], guard := some (7, true) }) (v := .slice x.a x.len x.cap) rfl (by kernel_rfl) (by kernel_rfl) (by kernel_rfl) (fun _ _ _ h => h) (Or.inl ⟨by rfl, by intro W hSw; have h1 := (HC.out W hSw.1).2.1; go_simp⟩) hHeld ?_
              try simp only [Act.put, pS1, pS2, pS3]
              refine wpAnyH_ready (rs := [14]) (by kernel_rfl) (by simp) ?_
              refine (AllReadyH.cons (o := { dst := some 119, op := Op.call { callee := Callee.value (Operand.func 27), args := #[Operand.tmp 113, Operand.tmp 118], argTypes := #[29, 29] }, type := 4, pos := "ref.go:112", after := #[zD 8, zD 13, zC 7, zG 7], guard := some (7, true) }) rfl (fun K hK => ?_) AllReadyH.nil)
              go_simp
              refine (SMX.out _ HBW.out.drew).mono ?_
              rintro e W2 ⟨rfl, hb2⟩
              have HB2 := hidd (HBW.out.drew.trans (hb2.mono HBW.out.drew.size))
              have HX2 : Hid (W2.heap[W1.heap.size]? = some (.cells #[.slice d.a d.len d.cap, .int .i64 (d.cost : Int)] 44 (0, 0))) := (hb2.block W1.heap.size (heap_lt HX.out)).trans HX.out
              clear hb2
              go_wp2_with fail
              refine hK.out _ _ ⟨HB2.out, HX2.out⟩ (fun hHeld => ?_)
              clear hK K
              try simp only [Act.put, pS1, pS2, pS3]
              refine wpAnyH_take (i := 15) (oi := { dst := some 120, op := Op.pick (Operand.tmp 112) (Operand.tmp 119) (Operand.const (Value.bool false)), type := 4, pos := "ref.go:112", after := #[zD 7, zD 14], guard := none }) (v := .bool false) rfl (by kernel_rfl) (by kernel_rfl) (by kernel_rfl) (fun _ _ _ h => h) (Or.inl ⟨by rfl, by intro W hSw; go_simp⟩) hHeld ?_
              try simp only [Act.put, pS1, pS2, pS3]
              refine wpAnyH_take (i := 16) (oi := { dst := some 121, op := Op.move (Operand.tmp 120), type := 4, pos := "ref.go:112", after := #[zD 15, zC 14], guard := none }) (v := .bool false) rfl (by kernel_rfl) (by kernel_rfl) (by kernel_rfl) (fun _ _ _ h => h) (Or.inl ⟨by rfl, by intro W hSw; go_simp⟩) hHeld ?_
              try simp only [Act.put, pS1, pS2, pS3]
              refine wpAnyH_take (i := 17) (oi := { dst := some 122, op := Op.move (Operand.tmp 0), type := 26, pos := "ref.go:112", after := #[zG 16], guard := some (16, true) }) (v := undef) rfl (by kernel_rfl) (by kernel_rfl) (by kernel_rfl) (fun _ _ _ h => h) (Or.inr ⟨by rfl, rfl⟩) hHeld ?_
              try simp only [Act.put, pS1, pS2, pS3]
              refine wpAnyH_take (i := 18) (oi := { dst := some 123, op := Op.nilCheck (Operand.tmp 122), type := 0, pos := "ref.go:112", after := #[zD 17, zG 16], guard := some (16, true) }) (v := undef) rfl (by kernel_rfl) (by kernel_rfl) (by kernel_rfl) (fun _ _ _ h => h) (Or.inr ⟨by rfl, rfl⟩) hHeld ?_
              try simp only [Act.put, pS1, pS2, pS3]
              refine wpAnyH_take (i := 19) (oi := { dst := some 124, op := Op.fieldAddr 62 (Operand.tmp 123) 1, type := 0, pos := "ref.go:112", after := #[zD 18, zG 16], guard := some (16, true) }) (v := undef) rfl (by kernel_rfl) (by kernel_rfl) (by kernel_rfl) (fun _ _ _ h => h) (Or.inr ⟨by rfl, rfl⟩) hHeld ?_
              try simp only [Act.put, pS1, pS2, pS3]
              refine wpAnyH_take (i := 20) (oi := { dst := some 125, op := Op.fieldAddr 44 (Operand.tmp 124) 1, type := 0, pos := "ref.go:112", after := #[zD 19, zG 16], guard := some (16, true) }) (v := undef) rfl (by kernel_rfl) (by kernel_rfl) (by kernel_rfl) (fun _ _ _ h => h) (Or.inr ⟨by rfl, rfl⟩) hHeld ?_
              try simp only [Act.put, pS1, pS2, pS3]
              refine wpAnyH_take (i := 21) (oi := { dst := some 126, op := Op.load 3 (Operand.tmp 125), type := 3, pos := "ref.go:112", after := #[zD 20, zG 16], guard := some (16, true) }) (v := undef) rfl (by kernel_rfl) (by kernel_rfl) (by kernel_rfl) (fun _ _ _ h => h) (Or.inr ⟨by rfl, rfl⟩) hHeld ?_
              try simp only [Act.put, pS1, pS2, pS3]
              refine wpAnyH_take (i := 22) (oi := { dst := some 127, op := Op.fieldAddr 44 (Operand.tmp 7) 1, type := 0, pos := "ref.go:112", after := #[zG 16], guard := some (16, true) }) (v := undef) rfl (by kernel_rfl) (by kernel_rfl) (by kernel_rfl) (fun _ _ _ h => h) (Or.inr ⟨by rfl, rfl⟩) hHeld ?_
              try simp only [Act.put, pS1, pS2, pS3]
              refine wpAnyH_take (i := 23) (oi := { dst := some 128, op := Op.load 3 (Operand.tmp 127), type := 3, pos := "ref.go:112", after := #[zD 22, zG 16], guard := some (16, true) }) (v := undef) rfl (by kernel_rfl) (by kernel_rfl) (by kernel_rfl) (fun _ _ _ h => h) (Or.inr ⟨by rfl, rfl⟩) hHeld ?_
              try simp only [Act.put, pS1, pS2, pS3]
              refine wpAnyH_take (i := 24) (oi := { dst := some 129, op := Op.binOp BinOp.gtr 3 (Operand.tmp 126) (Operand.tmp 128) 3, type := 4, pos := "ref.go:112", after := #[zD 21, zD 23, zG 16], guard := some (16, true) }) (v := undef) rfl (by kernel_rfl) (by kernel_rfl) (by kernel_rfl) (fun _ _ _ h => h) (Or.inr ⟨by rfl, rfl⟩) hHeld ?_
              try simp only [Act.put, pS1, pS2, pS3]
              refine wpAnyH_take (i := 25) (oi := { dst := some 130, op := Op.pick (Operand.tmp 121) (Operand.tmp 129) (Operand.const (Value.bool false)), type := 4, pos := "ref.go:112", after := #[zD 16, zD 24], guard := none }) (v := .bool false) rfl (by kernel_rfl) (by kernel_rfl) (by kernel_rfl) (fun _ _ _ h => h) (Or.inl ⟨by rfl, by intro W hSw; go_simp⟩) hHeld ?_
              try simp only [Act.put, pS1, pS2, pS3]
              refine wpAnyH_done (by kernel_rfl) ?_ _
              clear hHeld HBW HX
              have x0 := row0 HX2.out
              have x1 := row1 HX2.out
              have xf0 := frozen_of_row W2 W1.heap.size 0 _ _ HX2.out
              have xf1 := frozen_of_row W2 W1.heap.size 1 _ _ HX2.out
              obtain ⟨-, z0, z3, zf0, zf3, hmW⟩ := NX.out W2 d HMD.out HSD.out HB2.out
              obtain ⟨hfin, -⟩ := NX.out W2 d HMD.out HSD.out HB2.out
              have HF := hidd hfin
              clear hfin
              clear HC NX SMX IX
              go_wp2
              go_ret
              exact ⟨by rw [HFD.out]; rfl, HF.out⟩
      · clear HOB
        go_wp2
        go_loopw [10] (fun i wr => ∃ (k : Nat) (d : SvT), k ≤ n ∧ i = .int .i64 (k : Int) ∧ Hid (PL2 w L rs cs x (pick1 L rs true |>.1) k d) ∧ Hid (Below w.heap.size w wr) ∧ Hid (wr.heap[W1.heap.size]? = some (.cells #[.slice d.a d.len d.cap, .int .i64 (d.cost : Int)] 44 (0, 0)))) (fun i _ => n - (intOf i).toNat)
        case atStart => exact ⟨0, _, Nat.zero_le _, rfl, HPS2.out, HBX.out, HXX.out⟩
        case round =>
          clear HBX HXX HPS2
          obtain ⟨k, d, hk, rfl, HP2, HBW, HX⟩ := hrel
          obtain ⟨m0, m1, m2, m3⟩ := HC.out wr HBW.out
          by_cases hlt : k < n
          · obtain ⟨q, hq, hqs, hqc⟩ := HH.out.at_ k hlt
            have hks : k < (statesL L).length := by rw [HH.out.slen]; exact hlt
            have hmem : (statesL L)[k] ∈ statesL L := List.getElem_mem hks
            have hqst := hqs hks
            have HQ := hidd hqc
            have SMQ := hidd (HH.out.same q _ hqst (.inl hmem))
            have IX : Hid (∀ V, (Instr.indexAt 60 (.slice (some ⟨g, 0, none⟩) n scap) (.int .i64 (k : Int))).run Tryd.prog V = .ok (.pointer (some ⟨g, k * 2, none⟩)) V) := fun V => index_st g n scap k hlt V
            have hw1 := wrap_int ((k : Int) + 1) (by omega) (by omega)
            by_cases hs : rs = (statesL L)[k].recs
            · rw [decide_eq_true hs] at SMQ
              by_cases hcs : d.cost < q.cost
              · have hdc : decide ((d.cost : Int) < (q.cost : Int)) = true := by rw [decide_eq_true_eq]; omega
                have HN := hidd (HP2.out.dear hks hq hqst hs.symm hcs)
                clear hqs hqc hqst hq hmem hks hs HP2
                go_wp2
                refine wp_region_held_drew (S := (fun V => Below w.heap.size w V ∧ V.heap[W1.heap.size]? = some (.cells #[.slice d.a d.len d.cap, .int .i64 (d.cost : Int)] 44 (0, 0)))) (by kernel_rfl) ⟨HBW.out.drew, HX.out⟩ (fun hHeld => ?_)
                refine wpAnyH_take (i := 0) (oi := { dst := some 75, op := Op.move (Operand.tmp 1), type := 29, pos := "ref.go:108", after := #[], guard := none }) (v := .slice a len cap) rfl (by kernel_rfl) (by kernel_rfl) (by kernel_rfl) (fun _ _ _ h => h) (Or.inl ⟨by rfl, by intro W hSw; go_simp⟩) hHeld ?_
                try simp only [Act.put, pS1, pS2, pS3]
                refine wpAnyH_take (i := 1) (oi := { dst := some 76, op := Op.move (Operand.tmp 0), type := 26, pos := "ref.go:108", after := #[], guard := none }) (v := .pointer (some ⟨m, 0, none⟩)) rfl (by kernel_rfl) (by kernel_rfl) (by kernel_rfl) (fun _ _ _ h => h) (Or.inl ⟨by rfl, by intro W hSw; go_simp⟩) hHeld ?_
                try simp only [Act.put, pS1, pS2, pS3]
                refine wpAnyH_take (i := 2) (oi := { dst := some 77, op := Op.nilCheck (Operand.tmp 76), type := 0, pos := "ref.go:108", after := #[zD 1], guard := none }) (v := .pointer (some ⟨m, 0, none⟩)) rfl (by kernel_rfl) (by kernel_rfl) (by kernel_rfl) (fun _ _ _ h => h) (Or.inl ⟨by rfl, by intro W hSw; go_simp⟩) hHeld ?_
                try simp only [Act.put, pS1, pS2, pS3]
                refine wpAnyH_take (i := 3) (oi := { dst := some 78, op := Op.fieldAddr 62 (Operand.tmp 77) 0, type := 0, pos := "ref.go:108", after := #[zD 2], guard := none }) (v := .pointer (some ⟨m, 0, none⟩)) rfl (by kernel_rfl) (by kernel_rfl) (by kernel_rfl) (fun _ _ _ h => h) (Or.inl ⟨by rfl, by intro W hSw; go_simp⟩) hHeld ?_
                try simp only [Act.put, pS1, pS2, pS3]
                refine wpAnyH_take (i := 4) (oi := { dst := some 79, op := Op.load 60 (Operand.tmp 78), type := 60, pos := "ref.go:108", after := #[zD 3], guard := none }) (v := .slice (some ⟨g, 0, none⟩) n scap) rfl (by kernel_rfl) (by kernel_rfl) (by kernel_rfl) (fun _ _ _ h => h) (Or.inl ⟨by rfl, by intro W hSw; have h1 := (HC.out W hSw.1).1; go_simp⟩) hHeld ?_
                try simp only [Act.put, pS1, pS2, pS3]
                refine wpAnyH_take (i := 5) (oi := { dst := some 80, op := Op.move (Operand.tmp 10), type := 3, pos := "ref.go:108", after := #[], guard := none }) (v := .int .i64 (k : Int)) rfl (by kernel_rfl) (by kernel_rfl) (by kernel_rfl) (fun _ _ _ h => h) (Or.inl ⟨by rfl, by intro W hSw; go_simp⟩) hHeld ?_
                try simp only [Act.put, pS1, pS2, pS3]
                refine wpAnyH_take (i := 6) (oi := { dst := some 81, op := Op.indexAddr 60 (Operand.tmp 79) (Operand.tmp 80), type := 0, pos := "ref.go:108", after := #[zD 4, zD 5], guard := none }) (v := .pointer (some ⟨g, k * 2, none⟩)) rfl (by kernel_rfl) (by kernel_rfl) (by kernel_rfl) (fun _ _ _ h => h) (Or.inl ⟨by rfl, by intro W hSw; have h1 := IX.out W; go_simp⟩) hHeld ?_
                try simp only [Act.put, pS1, pS2, pS3]
                refine wpAnyH_take (i := 7) (oi := { dst := some 82, op := Op.fieldAddr 44 (Operand.tmp 81) 0, type := 0, pos := "ref.go:108", after := #[zD 6], guard := none }) (v := .pointer (some ⟨g, k * 2, none⟩)) rfl (by kernel_rfl) (by kernel_rfl) (by kernel_rfl) (fun _ _ _ h => h) (Or.inl ⟨by rfl, by intro W hSw; go_simp⟩) hHeld ?_
                try simp only [Act.put, pS1, pS2, pS3]
                refine wpAnyH_take (i := 8) (oi := { dst := some 83, op := Op.load 29 (Operand.tmp 82), type := 29, pos := "ref.go:108", after := #[zD 7], guard := none }) (v := .slice q.a q.len q.cap) rfl (by kernel_rfl) (by kernel_rfl) (by kernel_rfl) (fun _ _ _ h => h) (Or.inl ⟨by rfl, by intro W hSw; have h1 := (HQ.out W hSw.1).1; go_simp⟩) hHeld ?_
                try simp only [Act.put, pS1, pS2, pS3]
                refine wpAnyH_ready (rs := [9]) (by kernel_rfl) (by simp) ?_
                refine (AllReadyH.cons (o := { dst := some 84, op := Op.call { callee := Callee.value (Operand.func 27), args := #[Operand.tmp 75, Operand.tmp 83], argTypes := #[29, 29] }, type := 4, pos := "ref.go:108", after := #[zD 0, zD 8], guard := none }) rfl (fun K hK => ?_) AllReadyH.nil)
                go_simp
                refine (SMQ.out _ HBW.out.drew).mono ?_
                rintro e W2 ⟨rfl, hb2⟩
                have HB2 := hidd (HBW.out.drew.trans (hb2.mono HBW.out.drew.size))
                have HX2 : Hid (W2.heap[W1.heap.size]? = some (.cells #[.slice d.a d.len d.cap, .int .i64 (d.cost : Int)] 44 (0, 0))) := (hb2.block W1.heap.size (heap_lt HX.out)).trans HX.out
                clear hb2
                go_wp2_with fail
                refine hK.out _ _ ⟨HB2.out, HX2.out⟩ (fun hHeld => ?_)
                clear hK K
                try simp only [Act.put, pS1, pS2, pS3]
                refine wpAnyH_take (i := 10) (oi := { dst := some 85, op := Op.move (Operand.tmp 84), type := 4, pos := "ref.go:108", after := #[zD 9, zC 9], guard := none }) (v := .bool true) rfl (by kernel_rfl) (by kernel_rfl) (by kernel_rfl) (fun _ _ _ h => h) (Or.inl ⟨by rfl, by intro W hSw; go_simp⟩) hHeld ?_
                try simp only [Act.put, pS1, pS2, pS3]
                refine wpAnyH_take (i := 11) (oi := { dst := some 86, op := Op.move (Operand.tmp 0), type := 26, pos := "ref.go:108", after := #[zG 10], guard := some (10, true) }) (v := .pointer (some ⟨m, 0, none⟩)) rfl (by kernel_rfl) (by kernel_rfl) (by kernel_rfl) (fun _ _ _ h => h) (Or.inl ⟨by rfl, by intro W hSw; go_simp⟩) hHeld ?_
                try simp only [Act.put, pS1, pS2, pS3]
                refine wpAnyH_take (i := 12) (oi := { dst := some 87, op := Op.nilCheck (Operand.tmp 86), type := 0, pos := "ref.go:108", after := #[zD 11, zG 10], guard := some (10, true) }) (v := .pointer (some ⟨m, 0, none⟩)) rfl (by kernel_rfl) (by kernel_rfl) (by kernel_rfl) (fun _ _ _ h => h) (Or.inl ⟨by rfl, by intro W hSw; go_simp⟩) hHeld ?_
                try simp only [Act.put, pS1, pS2, pS3]
                refine wpAnyH_take (i := 13) (oi := { dst := some 88, op := Op.fieldAddr 62 (Operand.tmp 87) 0, type := 0, pos := "ref.go:108", after := #[zD 12, zG 10], guard := some (10, true) }) (v := .pointer (some ⟨m, 0, none⟩)) rfl (by kernel_rfl) (by kernel_rfl) (by kernel_rfl) (fun _ _ _ h => h) (Or.inl ⟨by rfl, by intro W hSw; go_simp⟩) hHeld ?_
                try simp only [Act.put, pS1, pS2, pS3]
                refine wpAnyH_take (i := 14) (oi := { dst := some 89, op := Op.load 60 (Operand.tmp 88), type := 60, pos := "ref.go:108", after := #[zD 13, zG 10], guard := some (10, true) }) (v := .slice (some ⟨g, 0, none⟩) n scap) rfl (by kernel_rfl) (by kernel_rfl) (by kernel_rfl) (fun _ _ _ h => h) (Or.inl ⟨by rfl, by intro W hSw; have h1 := (HC.out W hSw.1).1; go_simp⟩) hHeld ?_
                try simp only [Act.put, pS1, pS2, pS3]
                refine wpAnyH_take (i := 15) (oi := { dst := some 90, op := Op.move (Operand.tmp 10), type := 3, pos := "ref.go:108", after := #[zG 10], guard := some (10, true) }) (v := .int .i64 (k : Int)) rfl (by kernel_rfl) (by kernel_rfl) (by kernel_rfl) (fun _ _ _ h => h) (Or.inl ⟨by rfl, by intro W hSw; go_simp⟩) hHeld ?_
                try simp only [Act.put, pS1, pS2, pS3]
                refine wpAnyH_take (i := 16) (oi := { dst := some 91, op := Op.indexAddr 60 (Operand.tmp 89) (Operand.tmp 90), type := 0, pos := "ref.go:108", after := #[zD 14, zD 15, zG 10], guard := some (10, true) }) (v := .pointer (some ⟨g, k * 2, none⟩)) rfl (by kernel_rfl) (by kernel_rfl) (by kernel_rfl) (fun _ _ _ h => h) (Or.inl ⟨by rfl, by intro W hSw; have h1 := IX.out W; go_simp⟩) hHeld ?_
                try simp only [Act.put, pS1, pS2, pS3]
                refine wpAnyH_take (i := 17) (oi := { dst := some 92, op := Op.fieldAddr 44 (Operand.tmp 91) 1, type := 0, pos := "ref.go:108", after := #[zD 16, zG 10], guard := some (10, true) }) (v := .pointer (some ⟨g, k * 2 + 1, none⟩)) rfl (by kernel_rfl) (by kernel_rfl) (by kernel_rfl) (fun _ _ _ h => h) (Or.inl ⟨by rfl, by intro W hSw; go_simp⟩) hHeld ?_
                try simp only [Act.put, pS1, pS2, pS3]
                refine wpAnyH_take (i := 18) (oi := { dst := some 93, op := Op.load 3 (Operand.tmp 92), type := 3, pos := "ref.go:108", after := #[zD 17, zG 10], guard := some (10, true) }) (v := .int .i64 (q.cost : Int)) rfl (by kernel_rfl) (by kernel_rfl) (by kernel_rfl) (fun _ _ _ h => h) (Or.inl ⟨by rfl, by intro W hSw; have h1 := (HQ.out W hSw.1).2; go_simp⟩) hHeld ?_
                try simp only [Act.put, pS1, pS2, pS3]
                refine wpAnyH_take (i := 19) (oi := { dst := some 94, op := Op.fieldAddr 44 (Operand.tmp 7) 1, type := 0, pos := "ref.go:108", after := #[zG 10], guard := some (10, true) }) (v := .pointer (some ⟨W1.heap.size, 1, none⟩)) rfl (by kernel_rfl) (by kernel_rfl) (by kernel_rfl) (fun _ _ _ h => h) (Or.inl ⟨by rfl, by intro W hSw; go_simp⟩) hHeld ?_
                try simp only [Act.put, pS1, pS2, pS3]
                refine wpAnyH_take (i := 20) (oi := { dst := some 95, op := Op.load 3 (Operand.tmp 94), type := 3, pos := "ref.go:108", after := #[zD 19, zG 10], guard := some (10, true) }) (v := .int .i64 (d.cost : Int)) rfl (by kernel_rfl) (by kernel_rfl) (by kernel_rfl) (fun _ _ _ h => h) (Or.inl ⟨by rfl, by intro W hSw; have h1 := row1 hSw.2; go_simp⟩) hHeld ?_
                try simp only [Act.put, pS1, pS2, pS3]
                refine wpAnyH_take (i := 21) (oi := { dst := some 96, op := Op.binOp BinOp.gtr 3 (Operand.tmp 93) (Operand.tmp 95) 3, type := 4, pos := "ref.go:108", after := #[zD 18, zD 20, zG 10], guard := some (10, true) }) (v := .bool true) rfl (by kernel_rfl) (by kernel_rfl) (by kernel_rfl) (fun _ _ _ h => h) (Or.inl ⟨by rfl, by intro W hSw; go_simp⟩) hHeld ?_
                try simp only [Act.put, pS1, pS2, pS3]
                refine wpAnyH_take (i := 22) (oi := { dst := some 97, op := Op.pick (Operand.tmp 85) (Operand.tmp 96) (Operand.const (Value.bool false)), type := 4, pos := "ref.go:108", after := #[zD 10, zD 21], guard := none }) (v := .bool true) rfl (by kernel_rfl) (by kernel_rfl) (by kernel_rfl) (fun _ _ _ h => h) (Or.inl ⟨by rfl, by intro W hSw; go_simp⟩) hHeld ?_
                try simp only [Act.put, pS1, pS2, pS3]
                refine wpAnyH_done (by kernel_rfl) ?_ _
                clear hHeld HBW HX
                obtain ⟨m0, m1, m2, m3⟩ := HC.out W2 HB2.out
                obtain ⟨q0, q1⟩ := HQ.out W2 HB2.out
                have ix := IX.out
                have x0 := row0 HX2.out
                have x1 := row1 HX2.out
                have xf0 := frozen_of_row W2 W1.heap.size 0 _ _ HX2.out
                have xf1 := frozen_of_row W2 W1.heap.size 1 _ _ HX2.out
                have hgr := gr_trans (Lib.grownBy_setCell W2 W1.heap.size 0 (.slice q.a q.len q.cap)) (Lib.grownBy_setCell _ W1.heap.size 1 (.int .i64 (q.cost : Int)))
                have HB3 : Hid (Below w.heap.size w ((W2.setCell ⟨W1.heap.size, 0, none⟩ (.slice q.a q.len q.cap)).setCell ⟨W1.heap.size, 1, none⟩ (.int .i64 (q.cost : Int)))) := (HB2.out.setCell HGW.out _).setCell HGW.out _
                have HX3 : Hid (((W2.setCell ⟨W1.heap.size, 0, none⟩ (.slice q.a q.len q.cap)).setCell ⟨W1.heap.size, 1, none⟩ (.int .i64 (q.cost : Int))).heap[W1.heap.size]? = some (.cells #[.slice q.a q.len q.cap, .int .i64 (q.cost : Int)] 44 (0, 0))) := by show _ = _; rw [Go.heap_setCell_same _ _ 1 _ _ (.int .i64 (q.cost : Int)) (Go.heap_setCell_same W2 _ 0 _ _ (.slice q.a q.len q.cap) HX2.out)]; simp
                clear hgr HQ IX SMQ HB2 HX2
                go_wp2
                go_roundw
                case rel => exact ⟨k + 1, q, by omega, by go_num, HN, HB3, HX3⟩
                case measure => simp [intOf]; omega
              · have hdc : decide ((d.cost : Int) < (q.cost : Int)) = false := by rw [decide_eq_false_iff_not]; omega
                have HN := hidd (HP2.out.cheap hks hqst hcs)
                clear hqs hqc hqst hq hmem hks hs HP2
                go_wp2
                refine wp_region_held_drew (S := (fun V => Below w.heap.size w V ∧ V.heap[W1.heap.size]? = some (.cells #[.slice d.a d.len d.cap, .int .i64 (d.cost : Int)] 44 (0, 0)))) (by kernel_rfl) ⟨HBW.out.drew, HX.out⟩ (fun hHeld => ?_)
                refine wpAnyH_take (i := 0) (oi := { dst := some 75, op := Op.move (Operand.tmp 1), type := 29, pos := "ref.go:108", after := #[], guard := none }) (v := .slice a len cap) rfl (by kernel_rfl) (by kernel_rfl) (by kernel_rfl) (fun _ _ _ h => h) (Or.inl ⟨by rfl, by intro W hSw; go_simp⟩) hHeld ?_
                try simp only [Act.put, pS1, pS2, pS3]
                refine wpAnyH_take (i := 1) (oi := { dst := some 76, op := Op.move (Operand.tmp 0), type := 26, pos := "ref.go:108", after := #[], guard := none }) (v := .pointer (some ⟨m, 0, none⟩)) rfl (by kernel_rfl) (by kernel_rfl) (by kernel_rfl) (fun _ _ _ h => h) (Or.inl ⟨by rfl, by intro W hSw; go_simp⟩) hHeld ?_
                try simp only [Act.put, pS1, pS2, pS3]
                refine wpAnyH_take (i := 2) (oi := { dst := some 77, op := Op.nilCheck (Operand.tmp 76), type := 0, pos := "ref.go:108", after := #[zD 1], guard := none }) (v := .pointer (some ⟨m, 0, none⟩)) rfl (by kernel_rfl) (by kernel_rfl) (by kernel_rfl) (fun _ _ _ h => h) (Or.inl ⟨by rfl, by intro W hSw; go_simp⟩) hHeld ?_
                try simp only [Act.put, pS1, pS2, pS3]
                refine wpAnyH_take (i := 3) (oi := { dst := some 78, op := Op.fieldAddr 62 (Operand.tmp 77) 0, type := 0, pos := "ref.go:108", after := #[zD 2], guard := none }) (v := .pointer (some ⟨m, 0, none⟩)) rfl (by kernel_rfl) (by kernel_rfl) (by kernel_rfl) (fun _ _ _ h => h) (Or.inl ⟨by rfl, by intro W hSw; go_simp⟩) hHeld ?_
                try simp only [Act.put, pS1, pS2, pS3]
                refine wpAnyH_take (i := 4) (oi := { dst := some 79, op := Op.load 60 (Operand.tmp 78), type := 60, pos := "ref.go:108", after := #[zD 3], guard := none }) (v := .slice (some ⟨g, 0, none⟩) n scap) rfl (by kernel_rfl) (by kernel_rfl) (by kernel_rfl) (fun _ _ _ h => h) (Or.inl ⟨by rfl, by intro W hSw; have h1 := (HC.out W hSw.1).1; go_simp⟩) hHeld ?_
                try simp only [Act.put, pS1, pS2, pS3]
                refine wpAnyH_take (i := 5) (oi := { dst := some 80, op := Op.move (Operand.tmp 10), type := 3, pos := "ref.go:108", after := #[], guard := none }) (v := .int .i64 (k : Int)) rfl (by kernel_rfl) (by kernel_rfl) (by kernel_rfl) (fun _ _ _ h => h) (Or.inl ⟨by rfl, by intro W hSw; go_simp⟩) hHeld ?_
                try simp only [Act.put, pS1, pS2, pS3]
                refine wpAnyH_take (i := 6) (oi := { dst := some 81, op := Op.indexAddr 60 (Operand.tmp 79) (Operand.tmp 80), type := 0, pos := "ref.go:108", after := #[zD 4, zD 5], guard := none }) (v := .pointer (some ⟨g, k * 2, none⟩)) rfl (by kernel_rfl) (by kernel_rfl) (by kernel_rfl) (fun _ _ _ h => h) (Or.inl ⟨by rfl, by intro W hSw; have h1 := IX.out W; go_simp⟩) hHeld ?_
                try simp only [Act.put, pS1, pS2, pS3]
                refine wpAnyH_take (i := 7) (oi := { dst := some 82, op := Op.fieldAddr 44 (Operand.tmp 81) 0, type := 0, pos := "ref.go:108", after := #[zD 6], guard := none }) (v := .pointer (some ⟨g, k * 2, none⟩)) rfl (by kernel_rfl) (by kernel_rfl) (by kernel_rfl) (fun _ _ _ h => h) (Or.inl ⟨by rfl, by intro W hSw; go_simp⟩) hHeld ?_
                try simp only [Act.put, pS1, pS2, pS3]
                refine wpAnyH_take (i := 8) (oi := { dst := some 83, op := Op.load 29 (Operand.tmp 82), type := 29, pos := "ref.go:108", after := #[zD 7], guard := none }) (v := .slice q.a q.len q.cap) rfl (by kernel_rfl) (by kernel_rfl) (by kernel_rfl) (fun _ _ _ h => h) (Or.inl ⟨by rfl, by intro W hSw; have h1 := (HQ.out W hSw.1).1; go_simp⟩) hHeld ?_
                try simp only [Act.put, pS1, pS2, pS3]
                refine wpAnyH_ready (rs := [9]) (by kernel_rfl) (by simp) ?_
                refine (AllReadyH.cons (o := { dst := some 84, op := Op.call { callee := Callee.value (Operand.func 27), args := #[Operand.tmp 75, Operand.tmp 83], argTypes := #[29, 29] }, type := 4, pos := "ref.go:108", after := #[zD 0, zD 8], guard := none }) rfl (fun K hK => ?_) AllReadyH.nil)
                go_simp
                refine (SMQ.out _ HBW.out.drew).mono ?_
                rintro e W2 ⟨rfl, hb2⟩
                have HB2 := hidd (HBW.out.drew.trans (hb2.mono HBW.out.drew.size))
                have HX2 : Hid (W2.heap[W1.heap.size]? = some (.cells #[.slice d.a d.len d.cap, .int .i64 (d.cost : Int)] 44 (0, 0))) := (hb2.block W1.heap.size (heap_lt HX.out)).trans HX.out
                clear hb2
                go_wp2_with fail
                refine hK.out _ _ ⟨HB2.out, HX2.out⟩ (fun hHeld => ?_)
                clear hK K
                try simp only [Act.put, pS1, pS2, pS3]
                refine wpAnyH_take (i := 10) (oi := { dst := some 85, op := Op.move (Operand.tmp 84), type := 4, pos := "ref.go:108", after := #[zD 9, zC 9], guard := none }) (v := .bool true) rfl (by kernel_rfl) (by kernel_rfl) (by kernel_rfl) (fun _ _ _ h => h) (Or.inl ⟨by rfl, by intro W hSw; go_simp⟩) hHeld ?_
                try simp only [Act.put, pS1, pS2, pS3]
                refine wpAnyH_take (i := 11) (oi := { dst := some 86, op := Op.move (Operand.tmp 0), type := 26, pos := "ref.go:108", after := #[zG 10], guard := some (10, true) }) (v := .pointer (some ⟨m, 0, none⟩)) rfl (by kernel_rfl) (by kernel_rfl) (by kernel_rfl) (fun _ _ _ h => h) (Or.inl ⟨by rfl, by intro W hSw; go_simp⟩) hHeld ?_
                try simp only [Act.put, pS1, pS2, pS3]
                refine wpAnyH_take (i := 12) (oi := { dst := some 87, op := Op.nilCheck (Operand.tmp 86), type := 0, pos := "ref.go:108", after := #[zD 11, zG 10], guard := some (10, true) }) (v := .pointer (some ⟨m, 0, none⟩)) rfl (by kernel_rfl) (by kernel_rfl) (by kernel_rfl) (fun _ _ _ h => h) (Or.inl ⟨by rfl, by intro W hSw; go_simp⟩) hHeld ?_
                try simp only [Act.put, pS1, pS2, pS3]
                refine wpAnyH_take (i := 13) (oi := { dst := some 88, op := Op.fieldAddr 62 (Operand.tmp 87) 0, type := 0, pos := "ref.go:108", after := #[zD 12, zG 10], guard := some (10, true) }) (v := .pointer (some ⟨m, 0, none⟩)) rfl (by kernel_rfl) (by kernel_rfl) (by kernel_rfl) (fun _ _ _ h => h) (Or.inl ⟨by rfl, by intro W hSw; go_simp⟩) hHeld ?_
                try simp only [Act.put, pS1, pS2, pS3]
                refine wpAnyH_take (i := 14) (oi := { dst := some 89, op := Op.load 60 (Operand.tmp 88), type := 60, pos := "ref.go:108", after := #[zD 13, zG 10], guard := some (10, true) }) (v := .slice (some ⟨g, 0, none⟩) n scap) rfl (by kernel_rfl) (by kernel_rfl) (by kernel_rfl) (fun _ _ _ h => h) (Or.inl ⟨by rfl, by intro W hSw; have h1 := (HC.out W hSw.1).1; go_simp⟩) hHeld ?_
                try simp only [Act.put, pS1, pS2, pS3]
                refine wpAnyH_take (i := 15) (oi := { dst := some 90, op := Op.move (Operand.tmp 10), type := 3, pos := "ref.go:108", after := #[zG 10], guard := some (10, true) }) (v := .int .i64 (k : Int)) rfl (by kernel_rfl) (by kernel_rfl) (by kernel_rfl) (fun _ _ _ h => h) (Or.inl ⟨by rfl, by intro W hSw; go_simp⟩) hHeld ?_
                try simp only [Act.put, pS1, pS2, pS3]
                refine wpAnyH_take (i := 16) (oi := { dst := some 91, op := Op.indexAddr 60 (Operand.tmp 89) (Operand.tmp 90), type := 0, pos := "ref.go:108", after := #[zD 14, zD 15, zG 10], guard := some (10, true) }) (v := .pointer (some ⟨g, k * 2, none⟩)) rfl (by kernel_rfl) (by kernel_rfl) (by kernel_rfl) (fun _ _ _ h => h) (Or.inl ⟨by rfl, by intro W hSw; have h1 := IX.out W; go_simp⟩) hHeld ?_
                try simp only [Act.put, pS1, pS2, pS3]
                refine wpAnyH_take (i := 17) (oi := { dst := some 92, op := Op.fieldAddr 44 (Operand.tmp 91) 1, type := 0, pos := "ref.go:108", after := #[zD 16, zG 10], guard := some (10, true) }) (v := .pointer (some ⟨g, k * 2 + 1, none⟩)) rfl (by kernel_rfl) (by kernel_rfl) (by kernel_rfl) (fun _ _ _ h => h) (Or.inl ⟨by rfl, by intro W hSw; go_simp⟩) hHeld ?_
                try simp only [Act.put, pS1, pS2, pS3]
                refine wpAnyH_take (i := 18) (oi := { dst := some 93, op := Op.load 3 (Operand.tmp 92), type := 3, pos := "ref.go:108", after := #[zD 17, zG 10], guard := some (10, true) }) (v := .int .i64 (q.cost : Int)) rfl (by kernel_rfl) (by kernel_rfl) (by kernel_rfl) (fun _ _ _ h => h) (Or.inl ⟨by rfl, by intro W hSw; have h1 := (HQ.out W hSw.1).2; go_simp⟩) hHeld ?_
                try simp only [Act.put, pS1, pS2, pS3]
                refine wpAnyH_take (i := 19) (oi := { dst := some 94, op := Op.fieldAddr 44 (Operand.tmp 7) 1, type := 0, pos := "ref.go:108", after := #[zG 10], guard := some (10, true) }) (v := .pointer (some ⟨W1.heap.size, 1, none⟩)) rfl (by kernel_rfl) (by kernel_rfl) (by kernel_rfl) (fun _ _ _ h => h) (Or.inl ⟨by rfl, by intro W hSw; go_simp⟩) hHeld ?_
                try simp only [Act.put, pS1, pS2, pS3]
                refine wpAnyH_take (i := 20) (oi := { dst := some 95, op := Op.load 3 (Operand.tmp 94), type := 3, pos := "ref.go:108", after := #[zD 19, zG 10], guard := some (10, true) }) (v := .int .i64 (d.cost : Int)) rfl (by kernel_rfl) (by kernel_rfl) (by kernel_rfl) (fun _ _ _ h => h) (Or.inl ⟨by rfl, by intro W hSw; have h1 := row1 hSw.2; go_simp⟩) hHeld ?_
                try simp only [Act.put, pS1, pS2, pS3]
                refine wpAnyH_take (i := 21) (oi := { dst := some 96, op := Op.binOp BinOp.gtr 3 (Operand.tmp 93) (Operand.tmp 95) 3, type := 4, pos := "ref.go:108", after := #[zD 18, zD 20, zG 10], guard := some (10, true) }) (v := .bool false) rfl (by kernel_rfl) (by kernel_rfl) (by kernel_rfl) (fun _ _ _ h => h) (Or.inl ⟨by rfl, by intro W hSw; go_simp⟩) hHeld ?_
                try simp only [Act.put, pS1, pS2, pS3]
                refine wpAnyH_take (i := 22) (oi := { dst := some 97, op := Op.pick (Operand.tmp 85) (Operand.tmp 96) (Operand.const (Value.bool false)), type := 4, pos := "ref.go:108", after := #[zD 10, zD 21], guard := none }) (v := .bool false) rfl (by kernel_rfl) (by kernel_rfl) (by kernel_rfl) (fun _ _ _ h => h) (Or.inl ⟨by rfl, by intro W hSw; go_simp⟩) hHeld ?_
                try simp only [Act.put, pS1, pS2, pS3]
                refine wpAnyH_done (by kernel_rfl) ?_ _
                clear hHeld HBW HX HQ IX SMQ
                go_wp2
                go_roundw
                case rel => exact ⟨k + 1, d, by omega, by go_num, HN, HB2, HX2⟩
                case measure => simp [intOf]; omega
            · rw [decide_eq_false hs] at SMQ
              have HN := hidd (HP2.out.other hks (fun e => hs e.symm))
              clear hqs hqc hqst hq hmem hks hs HP2
              go_wp2
              refine wp_region_held_drew (S := (fun V => Below w.heap.size w V ∧ V.heap[W1.heap.size]? = some (.cells #[.slice d.a d.len d.cap, .int .i64 (d.cost : Int)] 44 (0, 0)))) (by kernel_rfl) ⟨HBW.out.drew, HX.out⟩ (fun hHeld => ?_)
              refine wpAnyH_take (i := 0) (oi := { dst := some 75, op := Op.move (Operand.tmp 1), type := 29, pos := "ref.go:108", after := #[], guard := none }) (v := .slice a len cap) rfl (by kernel_rfl) (by kernel_rfl) (by kernel_rfl) (fun _ _ _ h => h) (Or.inl ⟨by rfl, by intro W hSw; go_simp⟩) hHeld ?_
              try simp only [Act.put, pS1, pS2, pS3]
              refine wpAnyH_take (i := 1) (oi := { dst := some 76, op := Op.move (Operand.tmp 0), type := 26, pos := "ref.go:108", after := #[], guard := none }) (v := .pointer (some ⟨m, 0, none⟩)) rfl (by kernel_rfl) (by kernel_rfl) (by kernel_rfl) (fun _ _ _ h => h) (Or.inl ⟨by rfl, by intro W hSw; go_simp⟩) hHeld ?_
              try simp only [Act.put, pS1, pS2, pS3]
              refine wpAnyH_take (i := 2) (oi := { dst := some 77, op := Op.nilCheck (Operand.tmp 76), type := 0, pos := "ref.go:108", after := #[zD 1], guard := none }) (v := .pointer (some ⟨m, 0, none⟩)) rfl (by kernel_rfl) (by kernel_rfl) (by kernel_rfl) (fun _ _ _ h => h) (Or.inl ⟨by rfl, by intro W hSw; go_simp⟩) hHeld ?_
              try simp only [Act.put, pS1, pS2, pS3]
              refine wpAnyH_take (i := 3) (oi := { dst := some 78, op := Op.fieldAddr 62 (Operand.tmp 77) 0, type := 0, pos := "ref.go:108", after := #[zD 2], guard := none }) (v := .pointer (some ⟨m, 0, none⟩)) rfl (by kernel_rfl) (by kernel_rfl) (by kernel_rfl) (fun _ _ _ h => h) (Or.inl ⟨by rfl, by intro W hSw; go_simp⟩) hHeld ?_
              try simp only [Act.put, pS1, pS2, pS3]
              refine wpAnyH_take (i := 4) (oi := { dst := some 79, op := Op.load 60 (Operand.tmp 78), type := 60, pos := "ref.go:108", after := #[zD 3], guard := none }) (v := .slice (some ⟨g, 0, none⟩) n scap) rfl (by kernel_rfl) (by kernel_rfl) (by kernel_rfl) (fun _ _ _ h => h) (Or.inl ⟨by rfl, by intro W hSw; have h1 := (HC.out W hSw.1).1; go_simp⟩) hHeld ?_
              try simp only [Act.put, pS1, pS2, pS3]
              refine wpAnyH_take (i := 5) (oi := { dst := some 80, op := Op.move (Operand.tmp 10), type := 3, pos := "ref.go:108", after := #[], guard := none }) (v := .int .i64 (k : Int)) rfl (by kernel_rfl) (by kernel_rfl) (by kernel_rfl) (fun _ _ _ h => h) (Or.inl ⟨by rfl, by intro W hSw; go_simp⟩) hHeld ?_
              try simp only [Act.put, pS1, pS2, pS3]
              refine wpAnyH_take (i := 6) (oi := { dst := some 81, op := Op.indexAddr 60 (Operand.tmp 79) (Operand.tmp 80), type := 0, pos := "ref.go:108", after := #[zD 4, zD 5], guard := none }) (v := .pointer (some ⟨g, k * 2, none⟩)) rfl (by kernel_rfl) (by kernel_rfl) (by kernel_rfl) (fun _ _ _ h => h) (Or.inl ⟨by rfl, by intro W hSw; have h1 := IX.out W; go_simp⟩) hHeld ?_
              try simp only [Act.put, pS1, pS2, pS3]
              refine wpAnyH_take (i := 7) (oi := { dst := some 82, op := Op.fieldAddr 44 (Operand.tmp 81) 0, type := 0, pos := "ref.go:108", after := #[zD 6], guard := none }) (v := .pointer (some ⟨g, k * 2, none⟩)) rfl (by kernel_rfl) (by kernel_rfl) (by kernel_rfl) (fun _ _ _ h => h) (Or.inl ⟨by rfl, by intro W hSw; go_simp⟩) hHeld ?_
              try simp only [Act.put, pS1, pS2, pS3]
              refine wpAnyH_take (i := 8) (oi := { dst := some 83, op := Op.load 29 (Operand.tmp 82), type := 29, pos := "ref.go:108", after := #[zD 7], guard := none }) (v := .slice q.a q.len q.cap) rfl (by kernel_rfl) (by kernel_rfl) (by kernel_rfl) (fun _ _ _ h => h) (Or.inl ⟨by rfl, by intro W hSw; have h1 := (HQ.out W hSw.1).1; go_simp⟩) hHeld ?_
              try simp only [Act.put, pS1, pS2, pS3]
              refine wpAnyH_ready (rs := [9]) (by kernel_rfl) (by simp) ?_
              refine (AllReadyH.cons (o := { dst := some 84, op := Op.call { callee := Callee.value (Operand.func 27), args := #[Operand.tmp 75, Operand.tmp 83], argTypes := #[29, 29] }, type := 4, pos := "ref.go:108", after := #[zD 0, zD 8], guard := none }) rfl (fun K hK => ?_) AllReadyH.nil)
              go_simp
              refine (SMQ.out _ HBW.out.drew).mono ?_
              rintro e W2 ⟨rfl, hb2⟩
              have HB2 := hidd (HBW.out.drew.trans (hb2.mono HBW.out.drew.size))
              have HX2 : Hid (W2.heap[W1.heap.size]? = some (.cells #[.slice d.a d.len d.cap, .int .i64 (d.cost : Int)] 44 (0, 0))) := (hb2.block W1.heap.size (heap_lt HX.out)).trans HX.out
              clear hb2
              go_wp2_with fail
              refine hK.out _ _ ⟨HB2.out, HX2.out⟩ (fun hHeld => ?_)
              clear hK K
              try simp only [Act.put, pS1, pS2, pS3]
              refine wpAnyH_take (i := 10) (oi := { dst := some 85, op := Op.move (Operand.tmp 84), type := 4, pos := "ref.go:108", after := #[zD 9, zC 9], guard := none }) (v := .bool false) rfl (by kernel_rfl) (by kernel_rfl) (by kernel_rfl) (fun _ _ _ h => h) (Or.inl ⟨by rfl, by intro W hSw; go_simp⟩) hHeld ?_
              try simp only [Act.put, pS1, pS2, pS3]
              refine wpAnyH_take (i := 11) (oi := { dst := some 86, op := Op.move (Operand.tmp 0), type := 26, pos := "ref.go:108", after := #[zG 10], guard := some (10, true) }) (v := undef) rfl (by kernel_rfl) (by kernel_rfl) (by kernel_rfl) (fun _ _ _ h => h) (Or.inr ⟨by rfl, rfl⟩) hHeld ?_
              try simp only [Act.put, pS1, pS2, pS3]
              refine wpAnyH_take (i := 12) (oi := { dst := some 87, op := Op.nilCheck (Operand.tmp 86), type := 0, pos := "ref.go:108", after := #[zD 11, zG 10], guard := some (10, true) }) (v := undef) rfl (by kernel_rfl) (by kernel_rfl) (by kernel_rfl) (fun _ _ _ h => h) (Or.inr ⟨by rfl, rfl⟩) hHeld ?_
              try simp only [Act.put, pS1, pS2, pS3]
              refine wpAnyH_take (i := 13) (oi := { dst := some 88, op := Op.fieldAddr 62 (Operand.tmp 87) 0, type := 0, pos := "ref.go:108", after := #[zD 12, zG 10], guard := some (10, true) }) (v := undef) rfl (by kernel_rfl) (by kernel_rfl) (by kernel_rfl) (fun _ _ _ h => h) (Or.inr ⟨by rfl, rfl⟩) hHeld ?_
              try simp only [Act.put, pS1, pS2, pS3]
              refine wpAnyH_take (i := 14) (oi := { dst := some 89, op := Op.load 60 (Operand.tmp 88), type := 60, pos := "ref.go:108", after := #[zD 13, zG 10], guard := some (10, true) }) (v := undef) rfl (by kernel_rfl) (by kernel_rfl) (by kernel_rfl) (fun _ _ _ h => h) (Or.inr ⟨by rfl, rfl⟩) hHeld ?_
              try simp only [Act.put, pS1, pS2, pS3]
              refine wpAnyH_take (i := 15) (oi := { dst := some 90, op := Op.move (Operand.tmp 10), type := 3, pos := "ref.go:108", after := #[zG 10], guard := some (10, true) }) (v := undef) rfl (by kernel_rfl) (by kernel_rfl) (by kernel_rfl) (fun _ _ _ h => h) (Or.inr ⟨by rfl, rfl⟩) hHeld ?_
              try simp only [Act.put, pS1, pS2, pS3]
              refine wpAnyH_take (i := 16) (oi := { dst := some 91, op := Op.indexAddr 60 (Operand.tmp 89) (Operand.tmp 90), type := 0, pos := "ref.go:108", after := #[zD 14, zD 15, zG 10], guard := some (10, true) }) (v := undef) rfl (by kernel_rfl) (by kernel_rfl) (by kernel_rfl) (fun _ _ _ h => h) (Or.inr ⟨by rfl, rfl⟩) hHeld ?_
              try simp only [Act.put, pS1, pS2, pS3]
              refine wpAnyH_take (i := 17) (oi := { dst := some 92, op := Op.fieldAddr 44 (Operand.tmp 91) 1, type := 0, pos := "ref.go:108", after := #[zD 16, zG 10], guard := some (10, true) }) (v := undef) rfl (by kernel_rfl) (by kernel_rfl) (by kernel_rfl) (fun _ _ _ h => h) (Or.inr ⟨by rfl, rfl⟩) hHeld ?_
              try simp only [Act.put, pS1, pS2, pS3]
              refine wpAnyH_take (i := 18) (oi := { dst := some 93, op := Op.load 3 (Operand.tmp 92), type := 3, pos := "ref.go:108", after := #[zD 17, zG 10], guard := some (10, true) }) (v := undef) rfl (by kernel_rfl) (by kernel_rfl) (by kernel_rfl) (fun _ _ _ h => h) (Or.inr ⟨by rfl, rfl⟩) hHeld ?_
              try simp only [Act.put, pS1, pS2, pS3]
              refine wpAnyH_take (i := 19) (oi := { dst := some 94, op := Op.fieldAddr 44 (Operand.tmp 7) 1, type := 0, pos := "ref.go:108", after := #[zG 10], guard := some (10, true) }) (v := undef) rfl (by kernel_rfl) (by kernel_rfl) (by kernel_rfl) (fun _ _ _ h => h) (Or.inr ⟨by rfl, rfl⟩) hHeld ?_
              try simp only [Act.put, pS1, pS2, pS3]
              refine wpAnyH_take (i := 20) (oi := { dst := some 95, op := Op.load 3 (Operand.tmp 94), type := 3, pos := "ref.go:108", after := #[zD 19, zG 10], guard := some (10, true) }) (v := undef) rfl (by kernel_rfl) (by kernel_rfl) (by kernel_rfl) (fun _ _ _ h => h) (Or.inr ⟨by rfl, rfl⟩) hHeld ?_
              try simp only [Act.put, pS1, pS2, pS3]
              refine wpAnyH_take (i := 21) (oi := { dst := some 96, op := Op.binOp BinOp.gtr 3 (Operand.tmp 93) (Operand.tmp 95) 3, type := 4, pos := "ref.go:108", after := #[zD 18, zD 20, zG 10], guard := some (10, true) }) (v := undef) rfl (by kernel_rfl) (by kernel_rfl) (by kernel_rfl) (fun _ _ _ h => h) (Or.inr ⟨by rfl, rfl⟩) hHeld ?_
              try simp only [Act.put, pS1, pS2, pS3]
              refine wpAnyH_take (i := 22) (oi := { dst := some 97, op := Op.pick (Operand.tmp 85) (Operand.tmp 96) (Operand.const (Value.bool false)), type := 4, pos := "ref.go:108", after := #[zD 10, zD 21], guard := none }) (v := .bool false) rfl (by kernel_rfl) (by kernel_rfl) (by kernel_rfl) (fun _ _ _ h => h) (Or.inl ⟨by rfl, by intro W hSw; go_simp⟩) hHeld ?_
              try simp only [Act.put, pS1, pS2, pS3]
              refine wpAnyH_done (by kernel_rfl) ?_ _
              clear hHeld HBW HX HQ IX SMQ
              go_wp2
              go_roundw
              case rel => exact ⟨k + 1, d, by omega, by go_num, HN, HB2, HX2⟩
              case measure => simp [intOf]; omega
          · obtain rfl : n = k := by omega
            have HPD := HP2.out.done (Nat.le_of_eq HH.out.slen)
            have HMD := hidd HPD.1
            have hdn : ¬ ((n : Int) < (n : Int)) := by omega
            have IX := HOX
            have SMX := hidd (HH.out.same x L.may HH.out.may (.inr rfl))
            have hxc := HH.out.may.cost
            have hdcst := HPD.2.cost
            by_cases hs : rs = L.may.recs
            · rw [decide_eq_true hs] at SMX
              by_cases hcs : d.cost < x.cost
              · have hdc : decide ((d.cost : Int) < (x.cost : Int)) = true := by rw [decide_eq_true_eq]; omega
                have HSX : Hid (StOf w x (opensX L rs true)) := by
                  show StOf w x _
                  rw [HOX.out, dearer_yes hs.symm (by omega)]
                  exact HH.out.may
                have HSD : Hid (∀ V, Below w.heap.size w V → V.frozen? ⟨m, 0, none⟩ = false ∧ V.frozen? ⟨m, 3, none⟩ = false ∧ m < V.heap.size) := fun V hV => by
                  obtain ⟨-, -, -, z1, z2, z3⟩ := NX.out V x (.inr rfl) HSX.out hV
                  exact ⟨z1, z2, z3⟩
                clear HPD HP2 hlt hxc hdcst hs
                go_wp2
                refine wp_region_held_drew (S := (fun V => Below w.heap.size w V ∧ V.heap[W1.heap.size]? = some (.cells #[.slice d.a d.len d.cap, .int .i64 (d.cost : Int)] 44 (0, 0)))) (by kernel_rfl) ⟨HBW.out.drew, HX.out⟩ (fun hHeld => ?_)
                refine wpAnyH_take (i := 0) (oi := { dst := some 105, op := Op.move (Operand.tmp 2), type := 4, pos := "ref.go:112", after := #[], guard := none }) (v := .bool true) rfl (by kernel_rfl) (by kernel_rfl) (by kernel_rfl) (fun _ _ _ h => h) (Or.inl ⟨by rfl, by intro W hSw; go_simp⟩) hHeld ?_
                try simp only [Act.put, pS1, pS2, pS3]
                refine wpAnyH_take (i := 1) (oi := { dst := some 106, op := Op.move (Operand.tmp 105), type := 4, pos := "ref.go:112", after := #[zD 0], guard := none }) (v := .bool true) rfl (by kernel_rfl) (by kernel_rfl) (by kernel_rfl) (fun _ _ _ h => h) (Or.inl ⟨by rfl, by intro W hSw; go_simp⟩) hHeld ?_
                try simp only [Act.put, pS1, pS2, pS3]
                refine wpAnyH_take (i := 2) (oi := { dst := some 107, op := Op.move (Operand.tmp 0), type := 26, pos := "ref.go:112", after := #[zG 1], guard := some (1, true) }) (v := .pointer (some ⟨m, 0, none⟩)) rfl (by kernel_rfl) (by kernel_rfl) (by kernel_rfl) (fun _ _ _ h => h) (Or.inl ⟨by rfl, by intro W hSw; go_simp⟩) hHeld ?_
                try simp only [Act.put, pS1, pS2, pS3]
                refine wpAnyH_take (i := 3) (oi := { dst := some 108, op := Op.nilCheck (Operand.tmp 107), type := 0, pos := "ref.go:112", after := #[zD 2, zG 1], guard := some (1, true) }) (v := .pointer (some ⟨m, 0, none⟩)) rfl (by kernel_rfl) (by kernel_rfl) (by kernel_rfl) (fun _ _ _ h => h) (Or.inl ⟨by rfl, by intro W hSw; go_simp⟩) hHeld ?_
                try simp only [Act.put, pS1, pS2, pS3]
                refine wpAnyH_take (i := 4) (oi := { dst := some 109, op := Op.fieldAddr 62 (Operand.tmp 108) 2, type := 0, pos := "ref.go:112", after := #[zD 3, zG 1], guard := some (1, true) }) (v := .pointer (some ⟨m, 3, none⟩)) rfl (by kernel_rfl) (by kernel_rfl) (by kernel_rfl) (fun _ _ _ h => h) (Or.inl ⟨by rfl, by intro W hSw; go_simp⟩) hHeld ?_
                try simp only [Act.put, pS1, pS2, pS3]
                refine wpAnyH_take (i := 5) (oi := { dst := some 110, op := Op.load 4 (Operand.tmp 109), type := 4, pos := "ref.go:112", after := #[zD 4, zG 1], guard := some (1, true) }) (v := .bool true) rfl (by kernel_rfl) (by kernel_rfl) (by kernel_rfl) (fun _ _ _ h => h) (Or.inl ⟨by rfl, by intro W hSw; have h1 := (HC.out W hSw.1).2.2.2; go_simp⟩) hHeld ?_
                try simp only [Act.put, pS1, pS2, pS3]
                refine wpAnyH_take (i := 6) (oi := { dst := some 111, op := Op.pick (Operand.tmp 106) (Operand.tmp 110) (Operand.const (Value.bool false)), type := 4, pos := "ref.go:112", after := #[zD 1, zD 5], guard := none }) (v := .bool true) rfl (by kernel_rfl) (by kernel_rfl) (by kernel_rfl) (fun _ _ _ h => h) (Or.inl ⟨by rfl, by intro W hSw; go_simp⟩) hHeld ?_
                try simp only [Act.put, pS1, pS2, pS3]
                refine wpAnyH_take (i := 7) (oi := { dst := some 112, op := Op.move (Operand.tmp 111), type := 4, pos := "ref.go:112", after := #[zD 6, zC 1], guard := none }) (v := .bool true) rfl (by kernel_rfl) (by kernel_rfl) (by kernel_rfl) (fun _ _ _ h => h) (Or.inl ⟨by rfl, by intro W hSw; go_simp⟩) hHeld ?_
                try simp only [Act.put, pS1, pS2, pS3]
                refine wpAnyH_take (i := 8) (oi := { dst := some 113, op := Op.move (Operand.tmp 1), type := 29, pos := "ref.go:112", after := #[zG 7], guard := some (7, true) }) (v := .slice a len cap) rfl (by kernel_rfl) (by kernel_rfl) (by kernel_rfl) (fun _ _ _ h => h) (Or.inl ⟨by rfl, by intro W hSw; go_simp⟩) hHeld ?_
                try simp only [Act.put, pS1, pS2, pS3]
                refine wpAnyH_take (i := 9) (oi := { dst := some 114, op := Op.move (Operand.tmp 0), type := 26, pos := "ref.go:112", after := #[zG 7], guard := some (7, true) }) (v := .pointer (some ⟨m, 0, none⟩)) rfl (by kernel_rfl) (by kernel_rfl) (by kernel_rfl) (fun _ _ _ h => h) (Or.inl ⟨by rfl, by intro W hSw; go_simp⟩) hHeld ?_
                try simp only [Act.put, pS1, pS2, pS3]
                refine wpAnyH_take (i := 10) (oi := { dst := some 115, op := Op.nilCheck (Operand.tmp 114), type := 0, pos := "ref.go:112", after := #[zD 9, zG 7], guard := some (7, true) }) (v := .pointer (some ⟨m, 0, none⟩)) rfl (by kernel_rfl) (by kernel_rfl) (by kernel_rfl) (fun _ _ _ h => h) (Or.inl ⟨by rfl, by intro W hSw; go_simp⟩) hHeld ?_
                try simp only [Act.put, pS1, pS2, pS3]
                refine wpAnyH_take (i := 11) (oi := { dst := some 116, op := Op.fieldAddr 62 (Operand.tmp 115) 1, type := 0, pos := "ref.go:112", after := #[zD 10, zG 7], guard := some (7, true) }) (v := .pointer (some ⟨m, 1, none⟩)) rfl (by kernel_rfl) (by kernel_rfl) (by kernel_rfl) (fun _ _ _ h => h) (Or.inl ⟨by rfl, by intro W hSw; go_simp⟩) hHeld ?_
                try simp only [Act.put, pS1, pS2, pS3]
                refine wpAnyH_take (i := 12) (oi := { dst := some 117, op := Op.fieldAddr 44 (Operand.tmp 116) 0, type := 0, pos := "ref.go:112", after := #[zD 11, zG 7], guard := some (7, true) }) (v := .pointer (some ⟨m, 1, none⟩)) rfl (by kernel_rfl) (by kernel_rfl) (by kernel_rfl) (fun _ _ _ h => h) (Or.inl ⟨by rfl, by intro W hSw; go_simp⟩) hHeld ?_
                try simp only [Act.put, pS1, pS2, pS3]
                refine wpAnyH_take (i := 13) (oi := { dst := some 118, op := Op.load 29 (Operand.tmp 117), type := 29, pos := "ref.go:112", after := #[zD 12, zG 7], guard := some (7, true) }) (v := .slice x.a x.len x.cap) rfl (by kernel_rfl) (by kernel_rfl) (by kernel_rfl) (fun _ _ _ h => h) (Or.inl ⟨by rfl, by intro W hSw; have h1 := (HC.out W hSw.1).2.1; go_simp⟩) hHeld ?_
                try simp only [Act.put, pS1, pS2, pS3]
                refine wpAnyH_ready (rs := [14]) (by kernel_rfl) (by simp) ?_
                refine (AllReadyH.cons (o := { dst := some 119, op := Op.call { callee := Callee.value (Operand.func 27), args := #[Operand.tmp 113, Operand.tmp 118], argTypes := #[29, 29] }, type := 4, pos := "ref.go:112", after := #[zD 8, zD 13, zC 7, zG 7], guard := some (7, true) }) rfl (fun K hK => ?_) AllReadyH.nil)
                go_simp
                refine (SMX.out _ HBW.out.drew).mono ?_
                rintro e W2 ⟨rfl, hb2⟩
                have HB2 := hidd (HBW.out.drew.trans (hb2.mono HBW.out.drew.size))
                have HX2 : Hid (W2.heap[W1.heap.size]? = some (.cells #[.slice d.a d.len d.cap, .int .i64 (d.cost : Int)] 44 (0, 0))) := (hb2.block W1.heap.size (heap_lt HX.out)).trans HX.out
                clear hb2
                go_wp2_with fail
                refine hK.out _ _ ⟨HB2.out, HX2.out⟩ (fun hHeld => ?_)
                clear hK K
                try simp only [Act.put, pS1, pS2, pS3]
                refine wpAnyH_take (i := 15) (oi := { dst := some 120, op := Op.pick (Operand.tmp 112) (Operand.tmp 119) (Operand.const (Value.bool false)), type := 4, pos := "ref.go:112", after := #[zD 7, zD 14], guard := none }) (v := .bool true) rfl (by kernel_rfl) (by kernel_rfl) (by kernel_rfl) (fun _ _ _ h => h) (Or.inl ⟨by rfl, by intro W hSw; go_simp⟩) hHeld ?_
                try simp only [Act.put, pS1, pS2, pS3]
                refine wpAnyH_take (i := 16) (oi := { dst := some 121, op := Op.move (Operand.tmp 120), type := 4, pos := "ref.go:112", after := #[zD 15, zC 14], guard := none }) (v := .bool true) rfl (by kernel_rfl) (by kernel_rfl) (by kernel_rfl) (fun _ _ _ h => h) (Or.inl ⟨by rfl, by intro W hSw; go_simp⟩) hHeld ?_
                try simp only [Act.put, pS1, pS2, pS3]
                refine wpAnyH_take (i := 17) (oi := { dst := some 122, op := Op.move (Operand.tmp 0), type := 26, pos := "ref.go:112", after := #[zG 16], guard := some (16, true) }) (v := .pointer (some ⟨m, 0, none⟩)) rfl (by kernel_rfl) (by kernel_rfl) (by kernel_rfl) (fun _ _ _ h => h) (Or.inl ⟨by rfl, by intro W hSw; go_simp⟩) hHeld ?_
                try simp only [Act.put, pS1, pS2, pS3]
                refine wpAnyH_take (i := 18) (oi := { dst := some 123, op := Op.nilCheck (Operand.tmp 122), type := 0, pos := "ref.go:112", after := #[zD 17, zG 16], guard := some (16, true) }) (v := .pointer (some ⟨m, 0, none⟩)) rfl (by kernel_rfl) (by kernel_rfl) (by kernel_rfl) (fun _ _ _ h => h) (Or.inl ⟨by rfl, by intro W hSw; go_simp⟩) hHeld ?_
                try simp only [Act.put, pS1, pS2, pS3]
                refine wpAnyH_take (i := 19) (oi := { dst := some 124, op := Op.fieldAddr 62 (Operand.tmp 123) 1, type := 0, pos := "ref.go:112", after := #[zD 18, zG 16], guard := some (16, true) }) (v := .pointer (some ⟨m, 1, none⟩)) rfl (by kernel_rfl) (by kernel_rfl) (by kernel_rfl) (fun _ _ _ h => h) (Or.inl ⟨by rfl, by intro W hSw; go_simp⟩) hHeld ?_
                try simp only [Act.put, pS1, pS2, pS3]
                refine wpAnyH_take (i := 20) (oi := { dst := some 125, op := Op.fieldAddr 44 (Operand.tmp 124) 1, type := 0, pos := "ref.go:112", after := #[zD 19, zG 16], guard := some (16, true) }) (v := .pointer (some ⟨m, 2, none⟩)) rfl (by kernel_rfl) (by kernel_rfl) (by kernel_rfl) (fun _ _ _ h => h) (Or.inl ⟨by rfl, by intro W hSw; go_simp⟩) hHeld ?_
                try simp only [Act.put, pS1, pS2, pS3]
                refine wpAnyH_take (i := 21) (oi := { dst := some 126, op := Op.load 3 (Operand.tmp 125), type := 3, pos := "ref.go:112", after := #[zD 20, zG 16], guard := some (16, true) }) (v := .int .i64 (x.cost : Int)) rfl (by kernel_rfl) (by kernel_rfl) (by kernel_rfl) (fun _ _ _ h => h) (Or.inl ⟨by rfl, by intro W hSw; have h1 := (HC.out W hSw.1).2.2.1; go_simp⟩) hHeld ?_
                try simp only [Act.put, pS1, pS2, pS3]
                refine wpAnyH_take (i := 22) (oi := { dst := some 127, op := Op.fieldAddr 44 (Operand.tmp 7) 1, type := 0, pos := "ref.go:112", after := #[zG 16], guard := some (16, true) }) (v := .pointer (some ⟨W1.heap.size, 1, none⟩)) rfl (by kernel_rfl) (by kernel_rfl) (by kernel_rfl) (fun _ _ _ h => h) (Or.inl ⟨by rfl, by intro W hSw; go_simp⟩) hHeld ?_
                try simp only [Act.put, pS1, pS2, pS3]
                refine wpAnyH_take (i := 23) (oi := { dst := some 128, op := Op.load 3 (Operand.tmp 127), type := 3, pos := "ref.go:112", after := #[zD 22, zG 16], guard := some (16, true) }) (v := .int .i64 (d.cost : Int)) rfl (by kernel_rfl) (by kernel_rfl) (by kernel_rfl) (fun _ _ _ h => h) (Or.inl ⟨by rfl, by intro W hSw; have h1 := row1 hSw.2; go_simp⟩) hHeld ?_
                try simp only [Act.put, pS1, pS2, pS3]
                refine wpAnyH_take (i := 24) (oi := { dst := some 129, op := Op.binOp BinOp.gtr 3 (Operand.tmp 126) (Operand.tmp 128) 3, type := 4, pos := "ref.go:112", after := #[zD 21, zD 23, zG 16], guard := some (16, true) }) (v := .bool true) rfl (by kernel_rfl) (by kernel_rfl) (by kernel_rfl) (fun _ _ _ h => h) (Or.inl ⟨by rfl, by intro W hSw; go_simp⟩) hHeld ?_
                try simp only [Act.put, pS1, pS2, pS3]
                refine wpAnyH_take (i := 25) (oi := { dst := some 130, op := Op.pick (Operand.tmp 121) (Operand.tmp 129) (Operand.const (Value.bool false)), type := 4, pos := "ref.go:112", after := #[zD 16, zD 24], guard := none }) (v := .bool true) rfl (by kernel_rfl) (by kernel_rfl) (by kernel_rfl) (fun _ _ _ h => h) (Or.inl ⟨by rfl, by intro W hSw; go_simp⟩) hHeld ?_
                try simp only [Act.put, pS1, pS2, pS3]
                refine wpAnyH_done (by kernel_rfl) ?_ _
                clear hHeld HBW HX
                obtain ⟨m0, m1, m2, m3⟩ := HC.out W2 HB2.out
                obtain ⟨zf0, zf3, hmW⟩ := HSD.out W2 HB2.out
                have x0 := row0 HX2.out
                have x1 := row1 HX2.out
                have xf0 := frozen_of_row W2 W1.heap.size 0 _ _ HX2.out
                have xf1 := frozen_of_row W2 W1.heap.size 1 _ _ HX2.out
                have HB3 : Hid (Below w.heap.size w ((W2.setCell ⟨W1.heap.size, 0, none⟩ (.slice x.a x.len x.cap)).setCell ⟨W1.heap.size, 1, none⟩ (.int .i64 (x.cost : Int)))) := (HB2.out.setCell HGW.out _).setCell HGW.out _
                obtain ⟨hfin, -⟩ := NX.out ((W2.setCell ⟨W1.heap.size, 0, none⟩ (.slice x.a x.len x.cap)).setCell ⟨W1.heap.size, 1, none⟩ (.int .i64 (x.cost : Int))) x (.inr rfl) HSX.out HB3.out
                rw [show ((W2.setCell ⟨W1.heap.size, 0, none⟩ (.slice x.a x.len x.cap)).setCell ⟨W1.heap.size, 1, none⟩ (.int .i64 (x.cost : Int))).heap.size = W2.heap.size by simp] at hfin
                have HF := hidd hfin
                have hgm : m < W1.heap.size := HGM.out
                clear hfin HC NX SMX IX HB3 HSD HSX
                go_wp2
                go_ret
                exact ⟨by rw [HFD.out]; rfl, HF.out⟩
              · have hdc : decide ((d.cost : Int) < (x.cost : Int)) = false := by rw [decide_eq_false_iff_not]; omega
                have HSD : Hid (StOf w d (opensX L rs true)) := by
                  show StOf w d _
                  rw [HOX.out, dearer_no (fun h => by have := h.2; omega)]
                  exact HPD.2
                clear HPD HP2 hlt hxc hdcst hs
                go_wp2
                refine wp_region_held_drew (S := (fun V => Below w.heap.size w V ∧ V.heap[W1.heap.size]? = some (.cells #[.slice d.a d.len d.cap, .int .i64 (d.cost : Int)] 44 (0, 0)))) (by kernel_rfl) ⟨HBW.out.drew, HX.out⟩ (fun hHeld => ?_)
                refine wpAnyH_take (i := 0) (oi := { dst := some 105, op := Op.move (Operand.tmp 2), type := 4, pos := "ref.go:112", after := #[], guard := none }) (v := .bool true) rfl (by kernel_rfl) (by kernel_rfl) (by kernel_rfl) (fun _ _ _ h => h) (Or.inl ⟨by rfl, by intro W hSw; go_simp⟩) hHeld ?_
                try simp only [Act.put, pS1, pS2, pS3]
                refine wpAnyH_take (i := 1) (oi := { dst := some 106, op := Op.move (Operand.tmp 105), type := 4, pos := "ref.go:112", after := #[zD 0], guard := none }) (v := .bool true) rfl (by kernel_rfl) (by kernel_rfl) (by kernel_rfl) (fun _ _ _ h => h) (Or.inl ⟨by rfl, by intro W hSw; go_simp⟩) hHeld ?_
                try simp only [Act.put, pS1, pS2, pS3]
                refine wpAnyH_take (i := 2) (oi := { dst := some 107, op := Op.move (Operand.tmp 0), type := 26, pos := "ref.go:112", after := #[zG 1], guard := some (1, true) }) (v := .pointer (some ⟨m, 0, none⟩)) rfl (by kernel_rfl) (by kernel_rfl) (by kernel_rfl) (fun _ _ _ h => h) (Or.inl ⟨by rfl, by intro W hSw; go_simp⟩) hHeld ?_
                try simp only [Act.put, pS1, pS2, pS3]
                refine wpAnyH_take (i := 3) (oi := { dst := some 108, op := Op.nilCheck (Operand.tmp 107), type := 0, pos := "ref.go:112", after := #[zD 2, zG 1], guard := some (1, true) }) (v := .pointer (some ⟨m, 0, none⟩)) rfl (by kernel_rfl) (by kernel_rfl) (by kernel_rfl) (fun _ _ _ h => h) (Or.inl ⟨by rfl, by intro W hSw; go_simp⟩) hHeld ?_
                try simp only [Act.put, pS1, pS2, pS3]
                refine wpAnyH_take (i := 4) (oi := { dst := some 109, op := Op.fieldAddr 62 (Operand.tmp 108) 2, type := 0, pos := "ref.go:112", after := #[zD 3, zG 1], guard := some (1, true) }) (v := .pointer (some ⟨m, 3, none⟩)) rfl (by kernel_rfl) (by kernel_rfl) (by kernel_rfl) (fun _ _ _ h => h) (Or.inl ⟨by rfl, by intro W hSw; go_simp⟩) hHeld ?_
                try simp only [Act.put, pS1, pS2, pS3]
                refine wpAnyH_take (i := 5) (oi := { dst := some 110, op := Op.load 4 (Operand.tmp 109), type := 4, pos := "ref.go:112", after := #[zD 4, zG 1], guard := some (1, true) }) (v := .bool true) rfl (by kernel_rfl) (by kernel_rfl) (by kernel_rfl) (fun _ _ _ h => h) (Or.inl ⟨by rfl, by intro W hSw; have h1 := (HC.out W hSw.1).2.2.2; go_simp⟩) hHeld ?_
                try simp only [Act.put, pS1, pS2, pS3]
                refine wpAnyH_take (i := 6) (oi := { dst := some 111, op := Op.pick (Operand.tmp 106) (Operand.tmp 110) (Operand.const (Value.bool false)), type := 4, pos := "ref.go:112", after := #[zD 1, zD 5], guard := none }) (v := .bool true) rfl (by kernel_rfl) (by kernel_rfl) (by kernel_rfl) (fun _ _ _ h => h) (Or.inl ⟨by rfl, by intro W hSw; go_simp⟩) hHeld ?_
                try simp only [Act.put, pS1, pS2, pS3]
                refine wpAnyH_take (i := 7) (oi := { dst := some 112, op := Op.move (Operand.tmp 111), type := 4, pos := "ref.go:112", after := #[zD 6, zC 1], guard := none }) (v := .bool true) rfl (by kernel_rfl) (by kernel_rfl) (by kernel_rfl) (fun _ _ _ h => h) (Or.inl ⟨by rfl, by intro W hSw; go_simp⟩) hHeld ?_
                try simp only [Act.put, pS1, pS2, pS3]
                refine wpAnyH_take (i := 8) (oi := { dst := some 113, op := Op.move (Operand.tmp 1), type := 29, pos := "ref.go:112", after := #[zG 7], guard := some (7, true) }) (v := .slice a len cap) rfl (by kernel_rfl) (by kernel_rfl) (by kernel_rfl) (fun _ _ _ h => h) (Or.inl ⟨by rfl, by intro W hSw; go_simp⟩) hHeld ?_
                try simp only [Act.put, pS1, pS2, pS3]
                refine wpAnyH_take (i := 9) (oi := { dst := some 114, op := Op.move (Operand.tmp 0), type := 26, pos := "ref.go:112", after := #[zG 7], guard := some (7, true) }) (v := .pointer (some ⟨m, 0, none⟩)) rfl (by kernel_rfl) (by kernel_rfl) (by kernel_rfl) (fun _ _ _ h => h) (Or.inl ⟨by rfl, by intro W hSw; go_simp⟩) hHeld ?_
                try simp only [Act.put, pS1, pS2, pS3]
                refine wpAnyH_take (i := 10) (oi := { dst := some 115, op := Op.nilCheck (Operand.tmp 114), type := 0, pos := "ref.go:112", after := #[zD 9, zG 7], guard := some (7, true) }) (v := .pointer (some ⟨m, 0, none⟩)) rfl (by kernel_rfl) (by kernel_rfl) (by kernel_rfl) (fun _ _ _ h => h) (Or.inl ⟨by rfl, by intro W hSw; go_simp⟩) hHeld ?_
                try simp only [Act.put, pS1, pS2, pS3]
                refine wpAnyH_take (i := 11) (oi := { dst := some 116, op := Op.fieldAddr 62 (Operand.tmp 115) 1, type := 0, pos := "ref.go:112", after := #[zD 10, zG 7], guard := some (7, true) }) (v := .pointer (some ⟨m, 1, none⟩)) rfl (by kernel_rfl) (by kernel_rfl) (by kernel_rfl) (fun _ _ _ h => h) (Or.inl ⟨by rfl, by intro W hSw; go_simp⟩) hHeld ?_
                try simp only [Act.put, pS1, pS2, pS3]
                refine wpAnyH_take (i := 12) (oi := { dst := some 117, op := Op.fieldAddr 44 (Operand.tmp 116) 0, type := 0, pos := "ref.go:112", after := #[zD 11, zG 7], guard := some (7, true) }) (v := .pointer (some ⟨m, 1, none⟩)) rfl (by kernel_rfl) (by kernel_rfl) (by kernel_rfl) (fun _ _ _ h => h) (Or.inl ⟨by rfl, by intro W hSw; go_simp⟩) hHeld ?_
                try simp only [Act.put, pS1, pS2, pS3]
                refine wpAnyH_take (i := 13) (oi := { dst := some 118, op := Op.load 29 (Operand.tmp 117), type := 29, pos := "ref.go:112", after := #[zD 12, zG 7], guard := some (7, true) }) (v := .slice x.a x.len x.cap) rfl (by kernel_rfl) (by kernel_rfl) (by kernel_rfl) (fun _ _ _ h => h) (Or.inl ⟨by rfl, by intro W hSw; have h1 := (HC.out W hSw.1).2.1; go_simp⟩) hHeld ?_
                try simp only [Act.put, pS1, pS2, pS3]
                refine wpAnyH_ready (rs := [14]) (by kernel_rfl) (by simp) ?_
                refine (AllReadyH.cons (o := { dst := some 119, op := Op.call { callee := Callee.value (Operand.func 27), args := #[Operand.tmp 113, Operand.tmp 118], argTypes := #[29, 29] }, type := 4, pos := "ref.go:112", after := #[zD 8, zD 13, zC 7, zG 7], guard := some (7, true) }) rfl (fun K hK => ?_) AllReadyH.nil)
                go_simp
                refine (SMX.out _ HBW.out.drew).mono ?_
                rintro e W2 ⟨rfl, hb2⟩
                have HB2 := hidd (HBW.out.drew.trans (hb2.mono HBW.out.drew.size))
                have HX2 : Hid (W2.heap[W1.heap.size]? = some (.cells #[.slice d.a d.len d.cap, .int .i64 (d.cost : Int)] 44 (0, 0))) := (hb2.block W1.heap.size (heap_lt HX.out)).trans HX.out
                clear hb2
                go_wp2_with fail
                refine hK.out _ _ ⟨HB2.out, HX2.out⟩ (fun hHeld => ?_)
                clear hK K
                try simp only [Act.put, pS1, pS2, pS3]
                refine wpAnyH_take (i := 15) (oi := { dst := some 120, op := Op.pick (Operand.tmp 112) (Operand.tmp 119) (Operand.const (Value.bool false)), type := 4, pos := "ref.go:112", after := #[zD 7, zD 14], guard := none }) (v := .bool true) rfl (by kernel_rfl) (by kernel_rfl) (by kernel_rfl) (fun _ _ _ h => h) (Or.inl ⟨by rfl, by intro W hSw; go_simp⟩) hHeld ?_
                try simp only [Act.put, pS1, pS2, pS3]
                refine wpAnyH_take (i := 16) (oi := { dst := some 121, op := Op.move (Operand.tmp 120), type := 4, pos := "ref.go:112", after := #[zD 15, zC 14], guard := none }) (v := .bool true) rfl (by kernel_rfl) (by kernel_rfl) (by kernel_rfl) (fun _ _ _ h => h) (Or.inl ⟨by rfl, by intro W hSw; go_simp⟩) hHeld ?_
                try simp only [Act.put, pS1, pS2, pS3]
                refine wpAnyH_take (i := 17) (oi := { dst := some 122, op := Op.move (Operand.tmp 0), type := 26, pos := "ref.go:112", after := #[zG 16], guard := some (16, true) }) (v := .pointer (some ⟨m, 0, none⟩)) rfl (by kernel_rfl) (by kernel_rfl) (by kernel_rfl) (fun _ _ _ h => h) (Or.inl ⟨by rfl, by intro W hSw; go_simp⟩) hHeld ?_
                try simp only [Act.put, pS1, pS2, pS3]
                refine wpAnyH_take (i := 18) (oi := { dst := some 123, op := Op.nilCheck (Operand.tmp 122), type := 0, pos := "ref.go:112", after := #[zD 17, zG 16], guard := some (16, true) }) (v := .pointer (some ⟨m, 0, none⟩)) rfl (by kernel_rfl) (by kernel_rfl) (by kernel_rfl) (fun _ _ _ h => h) (Or.inl ⟨by rfl, by intro W hSw; go_simp⟩) hHeld ?_
                try simp only [Act.put, pS1, pS2, pS3]
                refine wpAnyH_take (i := 19) (oi := { dst := some 124, op := Op.fieldAddr 62 (Operand.tmp 123) 1, type := 0, pos := "ref.go:112", after := #[zD 18, zG 16], guard := some (16, true) }) (v := .pointer (some ⟨m, 1, none⟩)) rfl (by kernel_rfl) (by kernel_rfl) (by kernel_rfl) (fun _ _ _ h => h) (Or.inl ⟨by rfl, by intro W hSw; go_simp⟩) hHeld ?_
                try simp only [Act.put, pS1, pS2, pS3]
                refine wpAnyH_take (i := 20) (oi := { dst := some 125, op := Op.fieldAddr 44 (Operand.tmp 124) 1, type := 0, pos := "ref.go:112", after := #[zD 19, zG 16], guard := some (16, true) }) (v := .pointer (some ⟨m, 2, none⟩)) rfl (by kernel_rfl) (by kernel_rfl) (by kernel_rfl) (fun _ _ _ h => h) (Or.inl ⟨by rfl, by intro W hSw; go_simp⟩) hHeld ?_
                try simp only [Act.put, pS1, pS2, pS3]
                refine wpAnyH_take (i := 21) (oi := { dst := some 126, op := Op.load 3 (Operand.tmp 125), type := 3, pos := "ref.go:112", after := #[zD 20, zG 16], guard := some (16, true) }) (v := .int .i64 (x.cost : Int)) rfl (by kernel_rfl) (by kernel_rfl) (by kernel_rfl) (fun _ _ _ h => h) (Or.inl ⟨by rfl, by intro W hSw; have h1 := (HC.out W hSw.1).2.2.1; go_simp⟩) hHeld ?_
                try simp only [Act.put, pS1, pS2, pS3]
                refine wpAnyH_take (i := 22) (oi := { dst := some 127, op := Op.fieldAddr 44 (Operand.tmp 7) 1, type := 0, pos := "ref.go:112", after := #[zG 16], guard := some (16, true) }) (v := .pointer (some ⟨W1.heap.size, 1, none⟩)) rfl (by kernel_rfl) (by kernel_rfl) (by kernel_rfl) (fun _ _ _ h => h) (Or.inl ⟨by rfl, by intro W hSw; go_simp⟩) hHeld ?_
                try simp only [Act.put, pS1, pS2, pS3]
                refine wpAnyH_take (i := 23) (oi := { dst := some 128, op := Op.load 3 (Operand.tmp 127), type := 3, pos := "ref.go:112", after := #[zD 22, zG 16], guard := some (16, true) }) (v := .int .i64 (d.cost : Int)) rfl (by kernel_rfl) (by kernel_rfl) (by kernel_rfl) (fun _ _ _ h => h) (Or.inl ⟨by rfl, by intro W hSw; have h1 := row1 hSw.2; go_simp⟩) hHeld ?_
                try simp only [Act.put, pS1, pS2, pS3]
                refine wpAnyH_take (i := 24) (oi := { dst := some 129, op := Op.binOp BinOp.gtr 3 (Operand.tmp 126) (Operand.tmp 128) 3, type := 4, pos := "ref.go:112", after := #[zD 21, zD 23, zG 16], guard := some (16, true) }) (v := .bool false) rfl (by kernel_rfl) (by kernel_rfl) (by kernel_rfl) (fun _ _ _ h => h) (Or.inl ⟨by rfl, by intro W hSw; go_simp⟩) hHeld ?_
                try simp only [Act.put, pS1, pS2, pS3]
                refine wpAnyH_take (i := 25) (oi := { dst := some 130, op := Op.pick (Operand.tmp 121) (Operand.tmp 129) (Operand.const (Value.bool false)), type := 4, pos := "ref.go:112", after := #[zD 16, zD 24], guard := none }) (v := .bool false) rfl (by kernel_rfl) (by kernel_rfl) (by kernel_rfl) (fun _ _ _ h => h) (Or.inl ⟨by rfl, by intro W hSw; go_simp⟩) hHeld ?_
                try simp only [Act.put, pS1, pS2, pS3]
                refine wpAnyH_done (by kernel_rfl) ?_ _
                clear hHeld HBW HX
                have x0 := row0 HX2.out
                have x1 := row1 HX2.out
                have xf0 := frozen_of_row W2 W1.heap.size 0 _ _ HX2.out
                have xf1 := frozen_of_row W2 W1.heap.size 1 _ _ HX2.out
                obtain ⟨-, z0, z3, zf0, zf3, hmW⟩ := NX.out W2 d HMD.out HSD.out HB2.out
                obtain ⟨hfin, -⟩ := NX.out W2 d HMD.out HSD.out HB2.out
                have HF := hidd hfin
                clear hfin
                clear HC NX SMX IX
                go_wp2
                go_ret
                exact ⟨by rw [HFD.out]; rfl, HF.out⟩
            · rw [decide_eq_false hs] at SMX
              have HSD : Hid (StOf w d (opensX L rs true)) := by
                show StOf w d _
                rw [HOX.out, dearer_no (fun h => hs h.1.symm)]
                exact HPD.2
              clear HPD HP2 hlt hxc hdcst hs
              go_wp2
              refine wp_region_held_drew (S := (fun V => Below w.heap.size w V ∧ V.heap[W1.heap.size]? = some (.cells #[.slice d.a d.len d.cap, .int .i64 (d.cost : Int)] 44 (0, 0)))) (by kernel_rfl) ⟨HBW.out.drew, HX.out⟩ (fun hHeld => ?_)
              refine wpAnyH_take (i := 0) (oi := { dst := some 105, op := Op.move (Operand.tmp 2), type := 4, pos := "ref.go:112", after := #[], guard := none }) (v := .bool true) rfl (by kernel_rfl) (by kernel_rfl) (by kernel_rfl) (fun _ _ _ h => h) (Or.inl ⟨by rfl, by intro W hSw; go_simp⟩) hHeld ?_
              try simp only [Act.put, pS1, pS2, pS3]
              refine wpAnyH_take (i := 1) (oi := { dst := some 106, op := Op.move (Operand.tmp 105), type := 4, pos := "ref.go:112", after := #[zD 0], guard := none }) (v := .bool true) rfl (by kernel_rfl) (by kernel_rfl) (by kernel_rfl) (fun _ _ _ h => h) (Or.inl ⟨by rfl, by intro W hSw; go_simp⟩) hHeld ?_
              try simp only [Act.put, pS1, pS2, pS3]
              refine wpAnyH_take (i := 2) (oi := { dst := some 107, op := Op.move (Operand.tmp 0), type := 26, pos := "ref.go:112", after := #[zG 1], guard := some (1, true) }) (v := .pointer (some ⟨m, 0, none⟩)) rfl (by kernel_rfl) (by kernel_rfl) (by kernel_rfl) (fun _ _ _ h => h) (Or.inl ⟨by rfl, by intro W hSw; go_simp⟩) hHeld ?_
              try simp only [Act.put, pS1, pS2, pS3]
              refine wpAnyH_take (i := 3) (oi := { dst := some 108, op := Op.nilCheck (Operand.tmp 107), type := 0, pos := "ref.go:112", after := #[zD 2, zG 1], guard := some (1, true) }) (v := .pointer (some ⟨m, 0, none⟩)) rfl (by kernel_rfl) (by kernel_rfl) (by kernel_rfl) (fun _ _ _ h => h) (Or.inl ⟨by rfl, by intro W hSw; go_simp⟩) hHeld ?_
              try simp only [Act.put, pS1, pS2, pS3]
              refine wpAnyH_take (i := 4) (oi := { dst := some 109, op := Op.fieldAddr 62 (Operand.tmp 108) 2, type := 0, pos := "ref.go:112", after := #[zD 3, zG 1], guard := some (1, true) }) (v := .pointer (some ⟨m, 3, none⟩)) rfl (by kernel_rfl) (by kernel_rfl) (by kernel_rfl) (fun _ _ _ h => h) (Or.inl ⟨by rfl, by intro W hSw; go_simp⟩) hHeld ?_
              try simp only [Act.put, pS1, pS2, pS3]
              refine wpAnyH_take (i := 5) (oi := { dst := some 110, op := Op.load 4 (Operand.tmp 109), type := 4, pos := "ref.go:112", after := #[zD 4, zG 1], guard := some (1, true) }) (v := .bool true) rfl (by kernel_rfl) (by kernel_rfl) (by kernel_rfl) (fun _ _ _ h => h) (Or.inl ⟨by rfl, by intro W hSw; have h1 := (HC.out W hSw.1).2.2.2; go_simp⟩) hHeld ?_
              try simp only [Act.put, pS1, pS2, pS3]
              refine wpAnyH_take (i := 6) (oi := { dst := some 111, op := Op.pick (Operand.tmp 106) (Operand.tmp 110) (Operand.const (Value.bool false)), type := 4, pos := "ref.go:112", after := #[zD 1, zD 5], guard := none }) (v := .bool true) rfl (by kernel_rfl) (by kernel_rfl) (by kernel_rfl) (fun _ _ _ h => h) (Or.inl ⟨by rfl, by intro W hSw; go_simp⟩) hHeld ?_
              try simp only [Act.put, pS1, pS2, pS3]
              refine wpAnyH_take (i := 7) (oi := { dst := some 112, op := Op.move (Operand.tmp 111), type := 4, pos := "ref.go:112", after := #[zD 6, zC 1], guard := none }) (v := .bool true) rfl (by kernel_rfl) (by kernel_rfl) (by kernel_rfl) (fun _ _ _ h => h) (Or.inl ⟨by rfl, by intro W hSw; go_simp⟩) hHeld ?_
              try simp only [Act.put, pS1, pS2, pS3]
              refine wpAnyH_take (i := 8) (oi := { dst := some 113, op := Op.move (Operand.tmp 1), type := 29, pos := "ref.go:112", after := #[zG 7], guard := some (7, true) }) (v := .slice a len cap) rfl (by kernel_rfl) (by kernel_rfl) (by kernel_rfl) (fun _ _ _ h => h) (Or.inl ⟨by rfl, by intro W hSw; go_simp⟩) hHeld ?_
              try simp only [Act.put, pS1, pS2, pS3]
              refine wpAnyH_take (i := 9) (oi := { dst := some 114, op := Op.move (Operand.tmp 0), type := 26, pos := "ref.go:112", after := #[zG 7], guard := some (7, true) }) (v := .pointer (some ⟨m, 0, none⟩)) rfl (by kernel_rfl) (by kernel_rfl) (by kernel_rfl) (fun _ _ _ h => h) (Or.inl ⟨by rfl, by intro W hSw; go_simp⟩) hHeld ?_
              try simp only [Act.put, pS1, pS2, pS3]
              refine wpAnyH_take (i := 10) (oi := { dst := some 115, op := Op.nilCheck (Operand.tmp 114), type := 0, pos := "ref.go:112", after := #[zD 9, zG 7], guard := some (7, true) }) (v := .pointer (some ⟨m, 0, none⟩)) rfl (by kernel_rfl) (by kernel_rfl) (by kernel_rfl) (fun _ _ _ h => h) (Or.inl ⟨by rfl, by intro W hSw; go_simp⟩) hHeld ?_
              try simp only [Act.put, pS1, pS2, pS3]
              refine wpAnyH_take (i := 11) (oi := { dst := some 116, op := Op.fieldAddr 62 (Operand.tmp 115) 1, type := 0, pos := "ref.go:112", after := #[zD 10, zG 7], guard := some (7, true) }) (v := .pointer (some ⟨m, 1, none⟩)) rfl (by kernel_rfl) (by kernel_rfl) (by kernel_rfl) (fun _ _ _ h => h) (Or.inl ⟨by rfl, by intro W hSw; go_simp⟩) hHeld ?_
              try simp only [Act.put, pS1, pS2, pS3]
              refine wpAnyH_take (i := 12) (oi := { dst := some 117, op := Op.fieldAddr 44 (Operand.tmp 116) 0, type := 0, pos := "ref.go:112", after := #[zD 11, zG 7], guard := some (7, true) }) (v := .pointer (some ⟨m, 1, none⟩)) rfl (by kernel_rfl) (by kernel_rfl) (by kernel_rfl) (fun _ _ _ h => h) (Or.inl ⟨by rfl, by intro W hSw; go_simp⟩) hHeld ?_
              try simp only [Act.put, pS1, pS2, pS3]
              refine wpAnyH_take (i := 13) (oi := { dst := some 118, op := Op.load 29 (Operand.tmp 117), type := 29, pos := "ref.go:112", after := #[zD 12, zG 7], guard := some (7, true) }) (v := .slice x.a x.len x.cap) rfl (by kernel_rfl) (by kernel_rfl) (by kernel_rfl) (fun _ _ _ h => h) (Or.inl ⟨by rfl, by intro W hSw; have h1 := (HC.out W hSw.1).2.1; go_simp⟩) hHeld ?_
              try simp only [Act.put, pS1, pS2, pS3]
              refine wpAnyH_ready (rs := [14]) (by kernel_rfl) (by simp) ?_
              refine (AllReadyH.cons (o := { dst := some 119, op := Op.call { callee := Callee.value (Operand.func 27), args := #[Operand.tmp 113, Operand.tmp 118], argTypes := #[29, 29] }, type := 4, pos := "ref.go:112", after := #[zD 8, zD 13, zC 7, zG 7], guard := some (7, true) }) rfl (fun K hK => ?_) AllReadyH.nil)
              go_simp
              refine (SMX.out _ HBW.out.drew).mono ?_
              rintro e W2 ⟨rfl, hb2⟩
              have HB2 := hidd (HBW.out.drew.trans (hb2.mono HBW.out.drew.size))
              have HX2 : Hid (W2.heap[W1.heap.size]? = some (.cells #[.slice d.a d.len d.cap, .int .i64 (d.cost : Int)] 44 (0, 0))) := (hb2.block W1.heap.size (heap_lt HX.out)).trans HX.out
              clear hb2
              go_wp2_with fail
              refine hK.out _ _ ⟨HB2.out, HX2.out⟩ (fun hHeld => ?_)
              clear hK K
              try simp only [Act.put, pS1, pS2, pS3]
              refine wpAnyH_take (i := 15) (oi := { dst := some 120, op := Op.pick (Operand.tmp 112) (Operand.tmp 119) (Operand.const (Value.bool false)), type := 4, pos := "ref.go:112", after := #[zD 7, zD 14], guard := none }) (v := .bool false) rfl (by kernel_rfl) (by kernel_rfl) (by kernel_rfl) (fun _ _ _ h => h) (Or.inl ⟨by rfl, by intro W hSw; go_simp⟩) hHeld ?_
              try simp only [Act.put, pS1, pS2, pS3]
              refine wpAnyH_take (i := 16) (oi := { dst := some 121, op := Op.move (Operand.tmp 120), type := 4, pos := "ref.go:112", after := #[zD 15, zC 14], guard := none }) (v := .bool false) rfl (by kernel_rfl) (by kernel_rfl) (by kernel_rfl) (fun _ _ _ h => h) (Or.inl ⟨by rfl, by intro W hSw; go_simp⟩) hHeld ?_
              try simp only [Act.put, pS1, pS2, pS3]
              refine wpAnyH_take (i := 17) (oi := { dst := some 122, op := Op.move (Operand.tmp 0), type := 26, pos := "ref.go:112", after := #[zG 16], guard := some (16, true) }) (v := undef) rfl (by kernel_rfl) (by kernel_rfl) (by kernel_rfl) (fun _ _ _ h => h) (Or.inr ⟨by rfl, rfl⟩) hHeld ?_
              try simp only [Act.put, pS1, pS2, pS3]
              refine wpAnyH_take (i := 18) (oi := { dst := some 123, op := Op.nilCheck (Operand.tmp 122), type := 0, pos := "ref.go:112", after := #[zD 17, zG 16], guard := some (16, true) }) (v := undef) rfl (by kernel_rfl) (by kernel_rfl) (by kernel_rfl) (fun _ _ _ h => h) (Or.inr ⟨by rfl, rfl⟩) hHeld ?_
              try simp only [Act.put, pS1, pS2, pS3]
              refine wpAnyH_take (i := 19) (oi := { dst := some 124, op := Op.fieldAddr 62 (Operand.tmp 123) 1, type := 0, pos := "ref.go:112", after := #[zD 18, zG 16], guard := some (16, true) }) (v := undef) rfl (by kernel_rfl) (by kernel_rfl) (by kernel_rfl) (fun _ _ _ h => h) (Or.inr ⟨by rfl, rfl⟩) hHeld ?_
              try simp only [Act.put, pS1, pS2, pS3]
              refine wpAnyH_take (i := 20) (oi := { dst := some 125, op := Op.fieldAddr 44 (Operand.tmp 124) 1, type := 0, pos := "ref.go:112", after := #[zD 19, zG 16], guard := some (16, true) }) (v := undef) rfl (by kernel_rfl) (by kernel_rfl) (by kernel_rfl) (fun _ _ _ h => h) (Or.inr ⟨by rfl, rfl⟩) hHeld ?_
              try simp only [Act.put, pS1, pS2, pS3]
              refine wpAnyH_take (i := 21) (oi := { dst := some 126, op := Op.load 3 (Operand.tmp 125), type := 3, pos := "ref.go:112", after := #[zD 20, zG 16], guard := some (16, true) }) (v := undef) rfl (by kernel_rfl) (by kernel_rfl) (by kernel_rfl) (fun _ _ _ h => h) (Or.inr ⟨by rfl, rfl⟩) hHeld ?_
              try simp only [Act.put, pS1, pS2, pS3]
              refine wpAnyH_take (i := 22) (oi := { dst := some 127, op := Op.fieldAddr 44 (Operand.tmp 7) 1, type := 0, pos := "ref.go:112", after := #[zG 16], guard := some (16, true) }) (v := undef) rfl (by kernel_rfl) (by kernel_rfl) (by kernel_rfl) (fun _ _ _ h => h) (Or.inr ⟨by rfl, rfl⟩) hHeld ?_
              try simp only [Act.put, pS1, pS2, pS3]
              refine wpAnyH_take (i := 23) (oi := { dst := some 128, op := Op.load 3 (Operand.tmp 127), type := 3, pos := "ref.go:112", after := #[zD 22, zG 16], guard := some (16, true) }) (v := undef) rfl (by kernel_rfl) (by kernel_rfl) (by kernel_rfl) (fun _ _ _ h => h) (Or.inr ⟨by rfl, rfl⟩) hHeld ?_
              try simp only [Act.put, pS1, pS2, pS3]
              refine wpAnyH_take (i := 24) (oi := { dst := some 129, op := Op.binOp BinOp.gtr 3 (Operand.tmp 126) (Operand.tmp 128) 3, type := 4, pos := "ref.go:112", after := #[zD 21, zD 23, zG 16], guard := some (16, true) }) (v := undef) rfl (by kernel_rfl) (by kernel_rfl) (by kernel_rfl) (fun _ _ _ h => h) (Or.inr ⟨by rfl, rfl⟩) hHeld ?_
              try simp only [Act.put, pS1, pS2, pS3]
              refine wpAnyH_take (i := 25) (oi := { dst := some 130, op := Op.pick (Operand.tmp 121) (Operand.tmp 129) (Operand.const (Value.bool false)), type := 4, pos := "ref.go:112", after := #[zD 16, zD 24], guard := none }) (v := .bool false) rfl (by kernel_rfl) (by kernel_rfl) (by kernel_rfl) (fun _ _ _ h => h) (Or.inl ⟨by rfl, by intro W hSw; go_simp⟩) hHeld ?_
              try simp only [Act.put, pS1, pS2, pS3]
              refine wpAnyH_done (by kernel_rfl) ?_ _
              clear hHeld HBW HX
              have x0 := row0 HX2.out
              have x1 := row1 HX2.out
              have xf0 := frozen_of_row W2 W1.heap.size 0 _ _ HX2.out
              have xf1 := frozen_of_row W2 W1.heap.size 1 _ _ HX2.out
              obtain ⟨-, z0, z3, zf0, zf3, hmW⟩ := NX.out W2 d HMD.out HSD.out HB2.out
              obtain ⟨hfin, -⟩ := NX.out W2 d HMD.out HSD.out HB2.out
              have HF := hidd hfin
              clear hfin
              clear HC NX SMX IX
              go_wp2
              go_ret
              exact ⟨by rw [HFD.out]; rfl, HF.out⟩
/-- Opens, whatever it is asked. -/
theorem refOpens (w : World) (m : Nat) (L : LgT) (M : Nat → Prop) (h : LogAt w m L M) (hn : (statesL L).length ≤ 1000000) (hb : ∀ s, s ∈ statesL L ∨ s = L.may → s.recs.length ≤ 1000000) (a : Option Addr) (len cap : Nat) (rs : List ByteArray) (hR : Texts w a len rs) (hl : len ≤ maxLen) (c : Bool) :
    Calls Tryd.prog 14 #[ptr m, .slice a len cap, .bool c] w fun e w' => e = .returned (.bool (opensB L rs c)) ∧ WentL w m (opensL L rs c) M (fun _ => False) w' := by
  obtain ⟨g, scap, n, cs, x, hh⟩ := opHyp w m L M h hn hb a len cap rs hR hl c
  cases c
  · exact opens_calm w m g scap n L cs x M a len cap rs hh
  · cases hm : L.maybe
    · exact opens_none w m g scap n L cs x M a len cap rs hm hh
    · exact opens_may w m g scap n L cs x M a len cap rs hm hh
end Go.Proofs.YtdnnhmihigdnkaaDoor
