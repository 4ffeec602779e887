/-
  The contracts of the document's own answers for char: Class (any rune), value, hex.
-/
import Derived.Test.YtjgjeafjnaodkaaDoorCharRefA
namespace Go.Proofs.YtjgjeafjnaodkaaDoor
open Go.RowKit

end Go.Proofs.YtjgjeafjnaodkaaDoor
