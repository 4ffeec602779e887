/-
  The contract of the laws' helper live for unify, under its own name.
-/
import Derived.Test.YtlpmofmhcnclhaaDoorUniL
namespace Go.Proofs.YtlpmofmhcnclhaaDoor
open Go.RowKit

theorem uni_live (w : World) :
    Calls Tryd.prog 8 #[] w fun e w' => e = .returned (.bool true) ∧ Below w.heap.size w w' := uni_liveL w
end Go.Proofs.YtlpmofmhcnclhaaDoor
