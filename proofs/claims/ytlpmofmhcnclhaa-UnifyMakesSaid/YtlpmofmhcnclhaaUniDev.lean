/-
  The contract of the laws' helper live for unify, under its own name.
-/
import Derived.Test.YtlpmofmhcnclhaaUniL
namespace Go.Proofs.Ytlpmofmhcnclhaa
open Go.RowKit

theorem uni_live (w : World) :
    Calls Try.prog 5 #[] w fun e w' => e = .returned (.bool true) ∧ Below w.heap.size w w' := uni_liveL w
end Go.Proofs.Ytlpmofmhcnclhaa
