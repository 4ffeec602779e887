/-
  The contracts of the document's own Walk for subst.
-/
import Derived.Test.YtjgjeafjnaodkaaDoorSubB
import Derived.Deep.DeepCutAuto
namespace Go.Proofs.YtjgjeafjnaodkaaDoor
open Go.RowKit

/-- How many steps a meter counts. -/
def mtOf (w : World) (mb : Nat) : Nat := match w.cell? ⟨mb, 0, none⟩ with | some (.int _ n) => n.toNat | _ => 0
theorem turn_own {M : Nat → Prop} {w W W' : World} (h : Turn (fun j => M j ∨ w.heap.size ≤ j) w W) (k : Turn (fun j => w.heap.size ≤ j) W W') : Turn M w W' :=
  ⟨k.os.trans h.os, k.tape.trans h.tape, k.output.trans h.output, Nat.le_trans h.size k.size, fun j hj hn => (k.block j (Nat.lt_of_lt_of_le hj h.size) (Nat.not_le.2 hj)).trans (h.block j hj fun e => e.elim hn (Nat.not_le.2 hj))⟩
theorem Turn.set4 {M : Nat → Prop} {W : World} {q : Nat} (hq : M q) (x y z u : Value) : Turn M W ((((W.setCell ⟨q, 0, none⟩ x).setCell ⟨q, 1, none⟩ y).setCell ⟨q, 2, none⟩ z).setCell ⟨q, 3, none⟩ u) :=
  (((Turn.set M W (p := ⟨q, 0, none⟩) hq x).trans (Turn.set M _ (p := ⟨q, 1, none⟩) hq y)).trans (Turn.set M _ (p := ⟨q, 2, none⟩) hq z)).trans (Turn.set M _ (p := ⟨q, 3, none⟩) hq u)
theorem keptR9 {w w1 : World} {q : Nat} {o : Obj} (hb : Below w.heap.size w w1) (hq : w.heap[q]? = some o) : w1.heap[q]? = some o := (hb.block q (Array.getElem?_eq_some_iff.1 hq).1).trans hq

end Go.Proofs.YtjgjeafjnaodkaaDoor
