/-
  The contracts of package char's own functions, together: Class here; Check, Bare, Write and Read in the texts that this one imports.
-/
import Derived.Test.YtpiiliecdkemhaaDoorCharDevJ
namespace Go.Proofs.YtpiiliecdkemhaaDoor
open Go.RowKit

theorem char_Class (c : Int) (w : World) :
    Calls Tryd.prog 12 #[.int .i32 c] w fun e w' => e = .returned (.int .i64 (cls c)) ∧ Below w.heap.size w w' :=
  (dev_Class c w).mono fun _ _ h => ⟨h.1, h.2 ▸ Below.refl _ _⟩
end Go.Proofs.YtpiiliecdkemhaaDoor
