/-
  The contract of the laws' helper live for subst, under its own name.
-/
import Derived.Test.YtjgjeafjnaodkaaSubL
namespace Go.Proofs.Ytjgjeafjnaodkaa
open Go.RowKit

theorem sub_live (w : World) :
    Calls Try.prog 7 #[] w fun e w' => e = .returned (.bool true) ∧ Below w.heap.size w w' := sub_liveL w
end Go.Proofs.Ytjgjeafjnaodkaa
