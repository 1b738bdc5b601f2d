/-
  No cell of these rows narrows 'for every input' (looked for: loops, veiled, ifaces, maps, wideKeys, modest, calm, conditions, laid).
  DERIVED. THE GIVEN ROWS OF THIS SEAT. 6 by the template 'for every input the law returns true; each argument reads behind the call as it read before'; 0 by the template 'total and deterministic' (their statements: YtjpmmbmhkpgjcaaTotals.lean).
  GIVEN WITH THE SEED: the statements are not yours to turn. If you find one false, say at which input.
  Laid BY PROGRAM, IN A SANDBOX (cutbox-rows.mjs): the forced cells as the released guide's own fill.sh prints them over the translation 68a312d4406ad8e5… (all of the seat's roots in one cut). By AI agents, Wed Nov 11 2026. No macro, syntax, notation, axiom, sorry.
-/
import Derived.Test.YtjpmmbmhkpgjcaaChecked
import GoSem.Claim
import GoSem.ClaimJoined
import GoSem.ClaimMapViews
import Derived.JoinedTies
import Derived.KernelRfl
namespace Go.Proofs.Ytjpmmbmhkpgjcaa
/- THE CELL 'sum', in the pinned program and in every row, IS THE sha256 OF THE DUMP (.gsa) THAT YtjpmmbmhkpgjcaaProg.lean LOADS. Nothing in Lean hashes anything: it is a label: what it is worth is what the hold of that sum in a sandbox is worth. -/
noncomputable def Try.pinned : Pinned := { name := "ytjpmmbmhkpgjcaa", sum := "68a312d4406ad8e52124a5c4401bde9c97798f45d35113618990e617a375626f", checked := Try.checked }
namespace Rows
def none {H : Type} : Left H := { results := [], args := [] }

/-- 'estreatlaw15.KeepChecks': WHATEVER THE INPUT: true; the input reads as it did. -/
def keepChecksSpec : ChangeSpec := { name := "keepChecks", fn := fun _ => fun
  | [d] => { results := [.lit (.bool true)], args := [d] }
  | _ => none }
def keepChecksRow : OpenClaim := { program := "ytjpmmbmhkpgjcaa", sum := "68a312d4406ad8e52124a5c4401bde9c97798f45d35113618990e617a375626f", func := "estreat/estreatlaw15.KeepChecks", spec := "keepChecks", unfollowed := true, recurses := true, apart := false }
def KeepChecksSaid : Prop := keepChecksRow.holds Try.pinned (OpenSpec.ofChange keepChecksSpec)

/-- ITS FALSE NEIGHBOUR: 'it returns false'. Refute it at one input. -/
def keepChecksWrong : ChangeSpec := { name := "keepChecks", fn := fun _ => fun
  | [d] => { results := [.lit (.bool false)], args := [d] }
  | _ => none }
def KeepChecksWrongFalsely : Prop := keepChecksRow.holds Try.pinned (OpenSpec.ofChange keepChecksWrong)

/-- 'estreatlaw15.KeepFolds': WHATEVER THE INPUT: true; the input reads as it did. -/
def keepFoldsSpec : ChangeSpec := { name := "keepFolds", fn := fun _ => fun
  | [d1, d2] => { results := [.lit (.bool true)], args := [d1, d2] }
  | _ => none }
def keepFoldsRow : OpenClaim := { program := "ytjpmmbmhkpgjcaa", sum := "68a312d4406ad8e52124a5c4401bde9c97798f45d35113618990e617a375626f", func := "estreat/estreatlaw15.KeepFolds", spec := "keepFolds", unfollowed := true, recurses := true, apart := false }
def KeepFoldsSaid : Prop := keepFoldsRow.holds Try.pinned (OpenSpec.ofChange keepFoldsSpec)

/-- ITS FALSE NEIGHBOUR: 'it returns false'. Refute it at one input. -/
def keepFoldsWrong : ChangeSpec := { name := "keepFolds", fn := fun _ => fun
  | [d1, d2] => { results := [.lit (.bool false)], args := [d1, d2] }
  | _ => none }
def KeepFoldsWrongFalsely : Prop := keepFoldsRow.holds Try.pinned (OpenSpec.ofChange keepFoldsWrong)

/-- 'estreatlaw15.KeepRight': WHATEVER THE INPUT: true; the input reads as it did. -/
def keepRightSpec : ChangeSpec := { name := "keepRight", fn := fun _ => fun
  | [d1, d2] => { results := [.lit (.bool true)], args := [d1, d2] }
  | _ => none }
def keepRightRow : OpenClaim := { program := "ytjpmmbmhkpgjcaa", sum := "68a312d4406ad8e52124a5c4401bde9c97798f45d35113618990e617a375626f", func := "estreat/estreatlaw15.KeepRight", spec := "keepRight", unfollowed := true, recurses := true, apart := false }
def KeepRightSaid : Prop := keepRightRow.holds Try.pinned (OpenSpec.ofChange keepRightSpec)

/-- ITS FALSE NEIGHBOUR: 'it returns false'. Refute it at one input. -/
def keepRightWrong : ChangeSpec := { name := "keepRight", fn := fun _ => fun
  | [d1, d2] => { results := [.lit (.bool false)], args := [d1, d2] }
  | _ => none }
def KeepRightWrongFalsely : Prop := keepRightRow.holds Try.pinned (OpenSpec.ofChange keepRightWrong)

/-- 'estreatlaw15.KeepLays': WHATEVER THE INPUT: true; the input reads as it did. -/
def keepLaysSpec : ChangeSpec := { name := "keepLays", fn := fun _ => fun
  | [d] => { results := [.lit (.bool true)], args := [d] }
  | _ => none }
def keepLaysRow : OpenClaim := { program := "ytjpmmbmhkpgjcaa", sum := "68a312d4406ad8e52124a5c4401bde9c97798f45d35113618990e617a375626f", func := "estreat/estreatlaw15.KeepLays", spec := "keepLays", unfollowed := true, recurses := true, apart := false }
def KeepLaysSaid : Prop := keepLaysRow.holds Try.pinned (OpenSpec.ofChange keepLaysSpec)

/-- ITS FALSE NEIGHBOUR: 'it returns false'. Refute it at one input. -/
def keepLaysWrong : ChangeSpec := { name := "keepLays", fn := fun _ => fun
  | [d] => { results := [.lit (.bool false)], args := [d] }
  | _ => none }
def KeepLaysWrongFalsely : Prop := keepLaysRow.holds Try.pinned (OpenSpec.ofChange keepLaysWrong)

/-- 'estreatlaw15.KeepReads': WHATEVER THE INPUT: true; the input reads as it did. -/
def keepReadsSpec : ChangeSpec := { name := "keepReads", fn := fun _ => fun
  | [d1, d2, d3, d4] => { results := [.lit (.bool true)], args := [d1, d2, d3, d4] }
  | _ => none }
def keepReadsRow : OpenClaim := { program := "ytjpmmbmhkpgjcaa", sum := "68a312d4406ad8e52124a5c4401bde9c97798f45d35113618990e617a375626f", func := "estreat/estreatlaw15.KeepReads", spec := "keepReads", unfollowed := true, recurses := true, apart := false }
def KeepReadsSaid : Prop := keepReadsRow.holds Try.pinned (OpenSpec.ofChange keepReadsSpec)

/-- ITS FALSE NEIGHBOUR: 'it returns false'. Refute it at one input. -/
def keepReadsWrong : ChangeSpec := { name := "keepReads", fn := fun _ => fun
  | [d1, d2, d3, d4] => { results := [.lit (.bool false)], args := [d1, d2, d3, d4] }
  | _ => none }
def KeepReadsWrongFalsely : Prop := keepReadsRow.holds Try.pinned (OpenSpec.ofChange keepReadsWrong)

/-- 'estreatlaw15.KeepApart': WHATEVER THE INPUT: true; the input reads as it did. -/
def keepApartSpec : ChangeSpec := { name := "keepApart", fn := fun _ => fun
  | [d1, d2] => { results := [.lit (.bool true)], args := [d1, d2] }
  | _ => none }
def keepApartRow : OpenClaim := { program := "ytjpmmbmhkpgjcaa", sum := "68a312d4406ad8e52124a5c4401bde9c97798f45d35113618990e617a375626f", func := "estreat/estreatlaw15.KeepApart", spec := "keepApart", unfollowed := true, recurses := true, apart := false }
def KeepApartSaid : Prop := keepApartRow.holds Try.pinned (OpenSpec.ofChange keepApartSpec)

/-- ITS FALSE NEIGHBOUR: 'it returns false'. Refute it at one input. -/
def keepApartWrong : ChangeSpec := { name := "keepApart", fn := fun _ => fun
  | [d1, d2] => { results := [.lit (.bool false)], args := [d1, d2] }
  | _ => none }
def KeepApartWrongFalsely : Prop := keepApartRow.holds Try.pinned (OpenSpec.ofChange keepApartWrong)

/- THE SECOND FORM. 'bulk': how many values and letters a reading holds, each counted each time it is reached (what is shared counts as often as it is met; a slice's spare places count too). A statement '..UptoSaid' is the law's where the arguments, and the package variables that the reading takes, are together of bulk at most 1048576: NARROWER than '..Said'. Prove '..Said' where nothing that the law and all that it calls make is longer than what came in: it says more and counts as full. Else prove '..UptoSaid'. A law counts once. -/
mutual
def uptoBulk {H : Type} : DataW H → Nat
  | .lit (.string bytes) => bytes.length + 1
  | .lit _ => 1
  | .nil => 1
  | .ptr d => uptoBulk d + 1
  | .slice elems spare => uptoBulkAll elems + uptoBulkAll spare + 1
  | .agg parts => uptoBulkAll parts + 1
  | .iface _ d => uptoBulk d + 1
  | .map entries => uptoBulkEntries entries + 1
  | .held _ => 1
def uptoBulkAll {H : Type} : List (DataW H) → Nat
  | [] => 0
  | d :: r => uptoBulk d + uptoBulkAll r
def uptoBulkEntries {H : Type} : List (Lit × DataW H) → Nat
  | [] => 0
  | x :: r => uptoBulkEntry x + uptoBulkEntries r
def uptoBulkEntry {H : Type} : Lit × DataW H → Nat
  | (.string bytes, d) => bytes.length + uptoBulk d + 1
  | (_, d) => uptoBulk d + 1
 end
def uptoSmall : (H : Type) → List (DataW H) → Bool := fun _ ds => decide (uptoBulkAll ds ≤ 1048576)
def OpenSpec.upto (s : _root_.Go.ChangeSpec) : _root_.Go.OpenSpec := { _root_.Go.OpenSpec.ofChange s with cond := some uptoSmall }

/-- 'estreatlaw15.KeepChecks', WHERE WHAT IT READS IS OF BULK AT MOST 1048576: true; the input reads as it did. -/
def keepChecksUptoRow : OpenClaim := { program := "ytjpmmbmhkpgjcaa", sum := "68a312d4406ad8e52124a5c4401bde9c97798f45d35113618990e617a375626f", func := "estreat/estreatlaw15.KeepChecks", spec := "keepChecks", unfollowed := true, recurses := true, apart := false, narrowed := true }
def KeepChecksUptoSaid : Prop := keepChecksUptoRow.holds Try.pinned (OpenSpec.upto keepChecksSpec)

/-- 'estreatlaw15.KeepFolds', WHERE WHAT IT READS IS OF BULK AT MOST 1048576: true; the input reads as it did. -/
def keepFoldsUptoRow : OpenClaim := { program := "ytjpmmbmhkpgjcaa", sum := "68a312d4406ad8e52124a5c4401bde9c97798f45d35113618990e617a375626f", func := "estreat/estreatlaw15.KeepFolds", spec := "keepFolds", unfollowed := true, recurses := true, apart := false, narrowed := true }
def KeepFoldsUptoSaid : Prop := keepFoldsUptoRow.holds Try.pinned (OpenSpec.upto keepFoldsSpec)

/-- 'estreatlaw15.KeepRight', WHERE WHAT IT READS IS OF BULK AT MOST 1048576: true; the input reads as it did. -/
def keepRightUptoRow : OpenClaim := { program := "ytjpmmbmhkpgjcaa", sum := "68a312d4406ad8e52124a5c4401bde9c97798f45d35113618990e617a375626f", func := "estreat/estreatlaw15.KeepRight", spec := "keepRight", unfollowed := true, recurses := true, apart := false, narrowed := true }
def KeepRightUptoSaid : Prop := keepRightUptoRow.holds Try.pinned (OpenSpec.upto keepRightSpec)

/-- 'estreatlaw15.KeepLays', WHERE WHAT IT READS IS OF BULK AT MOST 1048576: true; the input reads as it did. -/
def keepLaysUptoRow : OpenClaim := { program := "ytjpmmbmhkpgjcaa", sum := "68a312d4406ad8e52124a5c4401bde9c97798f45d35113618990e617a375626f", func := "estreat/estreatlaw15.KeepLays", spec := "keepLays", unfollowed := true, recurses := true, apart := false, narrowed := true }
def KeepLaysUptoSaid : Prop := keepLaysUptoRow.holds Try.pinned (OpenSpec.upto keepLaysSpec)

/-- 'estreatlaw15.KeepReads', WHERE WHAT IT READS IS OF BULK AT MOST 1048576: true; the input reads as it did. -/
def keepReadsUptoRow : OpenClaim := { program := "ytjpmmbmhkpgjcaa", sum := "68a312d4406ad8e52124a5c4401bde9c97798f45d35113618990e617a375626f", func := "estreat/estreatlaw15.KeepReads", spec := "keepReads", unfollowed := true, recurses := true, apart := false, narrowed := true }
def KeepReadsUptoSaid : Prop := keepReadsUptoRow.holds Try.pinned (OpenSpec.upto keepReadsSpec)

/-- 'estreatlaw15.KeepApart', WHERE WHAT IT READS IS OF BULK AT MOST 1048576: true; the input reads as it did. -/
def keepApartUptoRow : OpenClaim := { program := "ytjpmmbmhkpgjcaa", sum := "68a312d4406ad8e52124a5c4401bde9c97798f45d35113618990e617a375626f", func := "estreat/estreatlaw15.KeepApart", spec := "keepApart", unfollowed := true, recurses := true, apart := false, narrowed := true }
def KeepApartUptoSaid : Prop := keepApartUptoRow.holds Try.pinned (OpenSpec.upto keepApartSpec)

end Rows
end Go.Proofs.Ytjpmmbmhkpgjcaa
