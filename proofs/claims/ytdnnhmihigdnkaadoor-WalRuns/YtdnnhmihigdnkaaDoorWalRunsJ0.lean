/- Short names for what our texts repeat. -/
import Derived.Test.YtdnnhmihigdnkaaDoorProg
import Derived.RowKit
namespace Go.Proofs.YtdnnhmihigdnkaaDoor
abbrev zD (n : Nat) : Edge := { on := n, ground := Ground.data }
abbrev zP (n : Nat) : Edge := { on := n, ground := Ground.phase }
abbrev zC (n : Nat) : Edge := { on := n, ground := Ground.chain }
abbrev zG (n : Nat) : Edge := { on := n, ground := Ground.guard }
theorem pS1 {α : Type} (l : List α) (i : Nat) (a : α) : l.toArray.setIfInBounds i a = (l.set i a).toArray := List.setIfInBounds_toArray l i a
theorem pS2 {α : Type} (a : α) (l : List α) (b : α) : (a :: l).set 0 b = b :: l := rfl
theorem pS3 {α : Type} (a : α) (l : List α) (n : Nat) (b : α) : (a :: l).set (n + 1) b = a :: l.set n b := rfl
end Go.Proofs.YtdnnhmihigdnkaaDoor
