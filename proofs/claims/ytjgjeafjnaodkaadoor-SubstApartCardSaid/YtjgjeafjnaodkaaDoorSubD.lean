/-
  The contracts of the document's own Walk and Fresh for subst, from outside.
-/
import Derived.Test.YtjgjeafjnaodkaaDoorSubC
namespace Go.Proofs.YtjgjeafjnaodkaaDoor
open Go.RowKit

theorem below_turn {n : Nat} {M : Nat → Prop} {w W W' : World} (h : Below n w W) (k : Turn M W W') (hM : ∀ j, M j → n ≤ j) (hn : n ≤ W.heap.size) : Below n w W' := h.trans (k.below hM hn)

end Go.Proofs.YtjgjeafjnaodkaaDoor
