import Derived.Test.YtinefdlkajnomaaGreatDoorMTermMR
import Derived.Lib.SmallJoins
import Derived.ChangeArms
import Derived.DataReads
namespace Go.Proofs.YtinefdlkajnomaaGreatDoor
open Go.RowKit Go.ChangeShapes Go.WideShapes Go.Joins
theorem U8 (b o n:Nat):(⟨b,o,none⟩:Addr).add n=⟨b,o+n,none⟩:=by
 unfold Addr.add;split
 · next h=>subst h;rfl
 · rfl
section
variable {H:Type} {enc:TypeId×Value->H} {w:World}
end
end Go.Proofs.YtinefdlkajnomaaGreatDoor
