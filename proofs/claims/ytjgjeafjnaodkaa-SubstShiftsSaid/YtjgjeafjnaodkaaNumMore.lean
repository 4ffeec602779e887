/-
  The contracts of package num and of the document's own answers: quotients, what is left, signs, sizes, how two compare.
-/
import Derived.Test.YtjgjeafjnaodkaaNumCalls
namespace Go.Proofs.Ytjgjeafjnaodkaa
open Go.RowKit

/-- A number's size. -/
def absI (a : Int) : Int := if 0 ≤ a then a else -a

end Go.Proofs.Ytjgjeafjnaodkaa
