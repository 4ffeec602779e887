/-
  The contracts of package num and of the document's own answers: quotients, what is left, signs, sizes, how two compare.
-/
import Derived.Test.YtglaoacdenecfaaDoorNumCalls
namespace Go.Proofs.YtglaoacdenecfaaDoor
open Go.RowKit

set_option maxHeartbeats 400000 in
theorem ref_Neg (a : Int) (w : World) (ha : In64 a) :
    Calls Tryd.prog 67 #[.int .i64 a] w fun e w' => e = .returned (.tuple #[.int .i64 (chkV (-a)), .int .i64 (chkE (-a))]) ∧ w = w' := by
  go_enter Tryd.func67, Tryd.ntmps67
  go_wp2_with (go_at_call 66; refine (ref_Sub _ _ _ (by unfold In64; omega) ha).mono ?_; rintro e w' ⟨rfl, rfl⟩; rw [show 0 - a = -a by omega])
  go_ret2
  exact ⟨rfl, rfl⟩

/-- A number's size. -/
def absI (a : Int) : Int := if 0 ≤ a then a else -a

end Go.Proofs.YtglaoacdenecfaaDoor
