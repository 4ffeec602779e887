/-
  The contracts of package num and of the document's own answers: what each call returns, for all numbers of 64 bits.
-/
import Derived.Test.YtjgjeafjnaodkaaChecked
import Derived.Test.YtjgjeafjnaodkaaNumPlain
import Derived.WalkKit
import Derived.WalkSpells
import Derived.Lib.Hide
namespace Go.Proofs.Ytjgjeafjnaodkaa
open Go.RowKit

theorem ans_in {x v : Int} (hx : In64 x) (hv : v = x) : Ending.returned (.tuple #[.int .i64 v, .int .i64 0]) = .returned (.tuple #[.int .i64 (chkV x), .int .i64 (chkE x)]) := by
  rw [chkV_in hx, chkE_in hx, hv]
theorem ans_out {x : Int} (hx : ¬ In64 x) : Ending.returned (.tuple #[.int .i64 0, .int .i64 10]) = .returned (.tuple #[.int .i64 (chkV x), .int .i64 (chkE x)]) := by
  rw [chkV_out hx, chkE_out hx]
theorem ans_eq {v e v' e' : Int} (hv : v = v') (he : e = e') : Ending.returned (.tuple #[.int .i64 v, .int .i64 e]) = .returned (.tuple #[.int .i64 v', .int .i64 e']) := by
  rw [hv, he]
theorem ret_int {a b : Int} (h : a = b) : Ending.returned (.int .i64 a) = .returned (.int .i64 b) := by rw [h]

end Go.Proofs.Ytjgjeafjnaodkaa
