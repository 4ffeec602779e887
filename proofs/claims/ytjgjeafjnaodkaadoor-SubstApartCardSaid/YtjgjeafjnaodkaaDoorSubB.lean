/-
  The contracts of the document's own Look, spend and Walk for subst.
-/
import Derived.Test.YtjgjeafjnaodkaaDoorSubA
namespace Go.Proofs.YtjgjeafjnaodkaaDoor
open Go.RowKit

end Go.Proofs.YtjgjeafjnaodkaaDoor
