/-
  The contracts of package num and of the document's own answers: quotients, what is left, signs, sizes, how two compare.
-/
import Derived.Test.YthfdiclmbbngcaaDoorNumCalls
namespace Go.Proofs.YthfdiclmbbngcaaDoor
open Go.RowKit

/-- A number's size. -/
def absI (a : Int) : Int := if 0 ≤ a then a else -a

set_option maxHeartbeats 400000 in
theorem num_Cmp (a b : Int) (w : World) :
    Calls Tryd.prog 62 #[.int .i64 a, .int .i64 b] w fun e w' => e = .returned (.int .i64 (cmpV a b)) ∧ w = w' := by
  go_enter Tryd.func62, Tryd.ntmps62
  go_wp2
  all_goals
    go_ret
    refine ⟨ret_int ?_, rfl⟩
    unfold cmpV
    split <;> (try split) <;> (first | rfl | (exfalso; omega))

set_option maxHeartbeats 400000 in
theorem ref_Cmp (a b : Int) (w : World) :
    Calls Tryd.prog 49 #[.int .i64 a, .int .i64 b] w fun e w' => e = .returned (.int .i64 (cmpV a b)) ∧ w = w' := by
  go_enter Tryd.func49, Tryd.ntmps49
  go_wp2
  all_goals
    go_ret
    refine ⟨ret_int ?_, rfl⟩
    unfold cmpV
    split <;> (try split) <;> (first | rfl | (exfalso; omega))

end Go.Proofs.YthfdiclmbbngcaaDoor
