/-
  The contract of the laws' helper live for subst, under its own name.
-/
import Derived.Test.YtjgjeafjnaodkaaDoorSubL
namespace Go.Proofs.YtjgjeafjnaodkaaDoor
open Go.RowKit

theorem sub_live (w : World) :
    Calls Tryd.prog 4 #[] w fun e w' => e = .returned (.bool true) ∧ Below w.heap.size w w' := sub_liveL w
end Go.Proofs.YtjgjeafjnaodkaaDoor
