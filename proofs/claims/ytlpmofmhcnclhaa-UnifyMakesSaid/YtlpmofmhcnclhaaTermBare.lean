/-
  The contract of the document's own bare for term: a term with 0 as all its variables' numbers.
-/
import Derived.Test.YtlpmofmhcnclhaaTermMk
namespace Go.Proofs.Ytlpmofmhcnclhaa
open Go.RowKit

mutual
def Tm.bare : Tm → Tm
  | .mk k s n l => .mk k s (if k = 1 then 0 else n) (Tm.bares l)
def Tm.bares : List Tm → List Tm
  | [] => []
  | t :: l => t.bare :: Tm.bares l
end
theorem Tm.bares_map (l : List Tm) : Tm.bares l = l.map Tm.bare := by
  induction l with
  | nil => rfl
  | cons t l ih => show t.bare :: Tm.bares l = _; rw [ih]; rfl
theorem Tm.bare_eq (t : Tm) : t.bare = .mk t.kind t.name (if t.kind = 1 then 0 else t.n) (t.args.map Tm.bare) := by
  cases t with
  | mk k s n l => show Tm.mk _ _ _ (Tm.bares l) = _; rw [Tm.bares_map]; rfl

end Go.Proofs.Ytlpmofmhcnclhaa
