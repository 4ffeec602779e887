/-
  The contracts of the document's own answers for char: Class (any rune), value, hex.
-/
import Derived.Test.YtjgjeafjnaodkaaCharRefA
namespace Go.Proofs.Ytjgjeafjnaodkaa
open Go.RowKit

end Go.Proofs.Ytjgjeafjnaodkaa
