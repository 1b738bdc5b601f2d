/- Texts of our own that the row of EntryClaims leans on, part 18. -/
import Derived.Test.YtgkfodmccfnaoaaEntryClaimsJ15
import Derived.Test.YtgkfodmccfnaoaaEntryClaimsJ16
import Derived.Test.YtgkfodmccfnaoaaEntryClaimsJ17

/- What the document's Digest and Row answer. -/
namespace Go.Proofs.Ytgkfodmccfnaoaa
open Go.RowKit Sums Nums
set_option linter.unusedVariables false
set_option linter.unusedSimpArgs false
set_option maxRecDepth 100000
/-! A row of the tags from 1 on. -/
theorem tagsN_succ (n : Nat) : tagsN (n + 1) = tagsN n ++ [(n : Int) + 1] := by unfold tagsN; rw [List.range_succ, List.map_append]; rfl
theorem fieldsN_snoc (l : List ByteArray) (x : ByteArray) : fieldsN (l ++ [x]) = fieldsN l ++ [((l.length : Int) + 1, x)] := by
  unfold fieldsN
  rw [List.length_append, List.length_singleton, tagsN_succ, List.zip_append (by rw [tagsN_length])]
  rfl
theorem row_next (l : List ByteArray) (k : Nat) (hk : k < l.length) : rowB (fieldsN (l.take (k + 1))) = rowB (fieldsN (l.take k)) ++ fieldBytesI ((k : Int) + 1) (l[k]).data.toList := by
  rw [List.take_add_one, List.getElem?_eq_getElem hk]
  simp only [Option.toList_some]
  rw [fieldsN_snoc, rowB_append, List.length_take, Nat.min_eq_left (by omega)]
  simp [rowB]
theorem rowB_small : ∀ (fs : List (Int × ByteArray)), (∀ f ∈ fs, f.2.size ≤ 65536) → (rowB fs).length ≤ 65540 * fs.length
  | [], _ => by simp [rowB]
  | f :: r, h => by
    have h1 := h f (by simp)
    have h2 := rowB_small r (fun x hx => h x (List.mem_cons_of_mem _ hx))
    show (fieldBytesI f.1 f.2.data.toList ++ rowB r).length ≤ _
    rw [List.length_append, fieldBytesI_length]
    have : f.2.data.toList.length = f.2.size := rfl
    simp only [List.length_cons]
    omega
theorem fieldsN_mem {l : List ByteArray} {f : Int × ByteArray} (h : f ∈ fieldsN l) : f.2 ∈ l := by
  unfold fieldsN at h
  exact (List.of_mem_zip h).2
theorem fieldsN_length (l : List ByteArray) : (fieldsN l).length = l.length := by
  unfold fieldsN
  rw [List.length_zip, tagsN_length, Nat.min_self]
set_option maxHeartbeats 4000000 in
theorem refRow_any (a : Option Addr) (len cap : Nat) (l : List ByteArray) (w : World) (hT : Texts w a len l) (hl : len ≤ 200) (hs : ∀ s ∈ l, s.size ≤ 65536) :
    Calls Try.prog 20 #[.slice a len cap] w fun e w' => ∃ v, e = .returned v ∧ w'.ownsRow w.heap.size 5 1 v (rowB (fieldsN l)).length (cellsOf (rowB (fieldsN l))) ∧ Below w.heap.size w w' := by
  have hlen : l.length = len := hT.1
  have HT := hidk hT
  have HS := hidk hs
  have HN0 : Hid (w.ownsRow w.heap.size 5 1 (.slice none 0 0) (rowB (fieldsN (l.take 0))).length (cellsOf (rowB (fieldsN (l.take 0))))) := World.ownsRow_nil _ _ _ _
  clear hT hs
  go_enter Try.func20, Try.ntmps20
  go_wp2
  go_loopw [3, 4] (fun v i wr => ∃ k : Nat, k ≤ len ∧ i = .int .i64 k ∧ Hid (wr.ownsRow w.heap.size 5 1 v (rowB (fieldsN (l.take k))).length (cellsOf (rowB (fieldsN (l.take k)))) ∧ Below w.heap.size w wr)) (fun _ i _ => len - (intOf i).toNat)
  case atStart => exact ⟨0, by omega, rfl, HN0.out, Below.refl _ _⟩
  case round =>
    clear HN0
    obtain ⟨k, hk, rfl, HO⟩ := hrel
    by_cases hlt : k < len
    · have hkl : k < l.length := by omega
      obtain ⟨p, HP⟩ : ∃ p, Hid (p = l[k]) := ⟨l[k], hidk rfl⟩
      obtain ⟨b, off, rfl, hcell⟩ : ∃ b off, a = some ⟨b, off, none⟩ ∧ wr.cell? ⟨b, off + k, none⟩ = some (.string p) := by
        rcases (HT.out.keep HO.out.2).2 with h0 | ⟨b, off, e, _, hc⟩
        · omega
        · exact ⟨b, off, e, by rw [hc k hkl, HP.out]⟩
      have hps : p.size ≤ 65536 := by rw [HP.out]; exact HS.out _ (List.getElem_mem hkl)
      have hlt' : (k : Int) < (len : Int) := by omega
      have BY : Hid (Calls Try.prog 30 #[.int .i64 ((k : Int) + 1), .string p] wr fun e w' => ∃ v', e = .returned v' ∧ w'.ownsRow wr.heap.size 5 1 v' (fieldBytesI ((k : Int) + 1) p.data.toList).length (cellsOf (fieldBytesI ((k : Int) + 1) p.data.toList)) ∧ Below wr.heap.size wr w') := by
        have := bytes_any (k + 1) p wr hps (by omega)
        rw [show (((k + 1 : Nat)) : Int) = (k : Int) + 1 by omega] at this
        rw [fieldBytesI_nat _ _ (by omega), show ((k : Int) + 1).toNat = k + 1 by omega]
        exact this
      have hbnd : (rowB (fieldsN (l.take k))).length ≤ 65540 * 200 := by
        have h1 := rowB_small (fieldsN (l.take k)) (fun f hf => HS.out _ (List.mem_of_mem_take (fieldsN_mem hf)))
        rw [fieldsN_length, List.length_take] at h1
        have : 65540 * min k l.length ≤ 65540 * 200 := Nat.mul_le_mul_left _ (by omega)
        omega
      have hnx := row_next l k hkl
      rw [← HP.out] at hnx
      have HNX := hidk hnx
      have wrk := wrap_int ((k : Int) + 1) (by omega) (by omega)
      clear hnx
      go_wp2_with fail
      refine BY.out.mono ?_
      rintro e w1 ⟨v1, rfl, ho1, hb1⟩
      obtain ⟨a1, c1, rfl, hr1⟩ := reads_own ho1
      have hfl : (fieldBytesI ((k : Int) + 1) p.data.toList).length ≤ 65540 := by rw [fieldBytesI_length]; have : p.data.toList.length = p.size := rfl; omega
      have hoK : w1.ownsRow w.heap.size 5 1 u3 (rowB (fieldsN (l.take k))).length (cellsOf (rowB (fieldsN (l.take k)))) := HO.out.1.kept (row := none) ⟨hb1.os, hb1.tape, hb1.output, hb1.size, fun j hj _ => hb1.block j hj⟩ (by cases hv : u3.ownBlock <;> simp)
      have hBw1 : Below w.heap.size w w1 := HO.out.2.trans (hb1.mono HO.out.2.size)
      obtain ⟨v2, w2, hrun, ho2, hg2⟩ := run_append_grows hr1 w.heap.size _ 26 u3 _ hoK hBw1.size (by omega)
      have HO2 : Hid (w2.ownsRow w.heap.size 5 1 v2 (rowB (fieldsN (l.take (k + 1)))).length (cellsOf (rowB (fieldsN (l.take (k + 1))))) ∧ Below w.heap.size w w2) := by
        refine ⟨?_, hBw1.grown hg2 hBw1.size (fun q e => (hoK.lt q e).1)⟩
        rw [HNX.out, List.length_append]
        exact ho2
      have HRUN := hidk hrun
      clear hrun ho2 hg2 hoK hBw1 ho1 hr1 hb1 HO BY HNX
      go_wp2_with (first
        | (show wpList _ _ _ ({ dst := some 21, op := _, type := _, pos := _, after := _, guard := _ } :: _) _ _; refine wpList_append_run rfl (.tmp 19) (.tmp 20) 26 26 rfl _ _ _ w2 rfl rfl HRUN.out ?_; try simp only [Act.put, List.setIfInBounds_toArray, List.set_cons_zero, List.set_cons_succ])
        | fail)
      go_roundw
      case rel => exact ⟨k + 1, by omega, by go_num, HO2⟩
      case measure => simp [intOf]; omega
    · obtain rfl : k = len := by omega
      have HO' := HO.out
      rw [List.take_of_length_le (by omega)] at HO'
      have HF := hidk HO'
      clear HO' HO
      go_wp2
      go_ret
      exact ⟨_, rfl, HF.out⟩
end Go.Proofs.Ytgkfodmccfnaoaa

/- What the document's Bytes, May, BytesSigned and Tag answer. -/
namespace Go.Proofs.Ytgkfodmccfnaoaa
open Go.RowKit Sums Nums
set_option linter.unusedVariables false
set_option linter.unusedSimpArgs false
set_option maxRecDepth 100000
theorem cell_keep {W W' : World} {p : Addr} {v : Value} (hb : Below W.heap.size W W') (h : W.cell? p = some v) : W'.cell? p = some v := by
  rw [hb.cell (World.block_lt_of_cell? _ _ h)]; exact h
theorem HRow.keep {W W' : World} {g o : Nat} {h : HdT} (hr : HRow W g o h) (hb : Below W.heap.size W W') : HRow W' g o h :=
  ⟨cell_keep hb hr.r, cell_keep hb hr.e, cell_keep hb hr.s, range_keep hb hr.d, cell_keep hb hr.t⟩
end Go.Proofs.Ytgkfodmccfnaoaa

/- What the document's May, BytesSigned, PutSigned and Tag answer. -/
namespace Go.Proofs.Ytgkfodmccfnaoaa
open Go.RowKit Sums Nums
set_option linter.unusedVariables false
set_option linter.unusedSimpArgs false
set_option maxRecDepth 100000
/-- What the parts of a signed head's row read as. -/
structure SRow (W : World) (g o : Nat) (s : SgT) : Prop where
  h : W.rangeAt g o (hcells s.h)
  n : W.cell? ⟨g, o + 36, none⟩ = some (.int .i64 s.n)
  g : W.rangeAt g (o + 37) (cellsOf s.g)
theorem SRow.keep {W W' : World} {g o : Nat} {s : SgT} (hr : SRow W g o s) (hb : Below W.heap.size W W') : SRow W' g o s := ⟨range_keep hb hr.h, cell_keep hb hr.n, range_keep hb hr.g⟩
end Go.Proofs.Ytgkfodmccfnaoaa

/- Structs of numbers and digests: heads and signed heads, built and compared. -/
namespace Go.Proofs.Ytgkfodmccfnaoaa
open Go.RowKit Sums Nums
set_option linter.unusedVariables false
set_option linter.unusedSimpArgs false
set_option maxRecDepth 100000
theorem fold_set (D : List Value) : ∀ (k off : Nat) (cs : Array Value) (pre old rest : List Value), cs.toList = pre ++ old ++ rest → pre.length = off + k → old.length = D.length →
    ((D.zipIdx k).foldl (fun cs (c, j) => cs.setIfInBounds (off + j) c) cs).toList = pre ++ D ++ rest := by
  induction D with
  | nil =>
    intro k off cs pre old rest h hp ho
    have : old = [] := List.eq_nil_of_length_eq_zero ho
    subst this
    simpa using h
  | cons d D ih =>
    intro k off cs pre old rest h hp ho
    match old, ho with
    | x :: old, ho =>
      rw [List.zipIdx_cons, List.foldl_cons]
      have := ih (k + 1) off (cs.setIfInBounds (off + k) d) (pre ++ [d]) old rest (by
        rw [Array.toList_setIfInBounds, h, ← hp]
        simp) (by simp; omega) (by simpa using ho)
      rw [this]
      simp
theorem fill_val (place : Nat → Option (Nat × Nat)) (i off n : Nat) (v : Value) (D cs : Array Value) (pre old post : List Value) (more : List (Nat × Value)) (hv : v.cells = D) (hp : place i = some (off, n)) (hn : D.size = n) (hcs : cs.toList = pre ++ old ++ post) (hpre : pre.length = off) (hold : old.length = n) :
    Instr.fill place cs ((i, v) :: more) = Instr.fill place (pre ++ D.toList ++ post).toArray more := by
  have hcz : cs.size = off + n + post.length := by rw [← Array.length_toList, hcs]; simp only [List.length_append, hpre, hold]
  conv => lhs; unfold Instr.fill
  simp only [hp, hv, hn]
  rw [if_neg (by simp; omega)]
  congr 1
  apply Array.ext'
  have := fold_set D.toList 0 off cs pre old post hcs (by omega) (by rw [hold, Array.length_toList, hn])
  rw [← this, ← Array.foldl_toList]
  congr 2
  simp
end Go.Proofs.Ytgkfodmccfnaoaa

/- What the document's Tag, Sign and Verify answer. -/
namespace Go.Proofs.Ytgkfodmccfnaoaa
open Go.RowKit Sums Nums
set_option linter.unusedVariables false
set_option linter.unusedSimpArgs false
set_option maxRecDepth 100000

end Go.Proofs.Ytgkfodmccfnaoaa
