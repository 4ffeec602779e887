/-
  Bounds out of the form of an int64 parameter, for the rows of laws.
-/
import Derived.Test.YthfdiclmbbngcaaDoorTermLaws
namespace Go.Proofs.YthfdiclmbbngcaaDoor
open Go.RowKit

theorem in64_of_wf {a : Int} (h : (Lit.int .i64 a).wf = true) : In64 a := by
  have e1 : IntKind.i64.min = -9223372036854775808 := rfl
  have e2 : IntKind.i64.max = 9223372036854775807 := rfl
  simp [Lit.wf, e1, e2] at h
  exact h
end Go.Proofs.YthfdiclmbbngcaaDoor
