/-
  The contract of the document's own Shift for term.
-/
import Derived.Test.YtjgjeafjnaodkaaDoorTermRow
import Derived.Test.YtjgjeafjnaodkaaDoorTermRefAC
namespace Go.Proofs.YtjgjeafjnaodkaaDoor
open Go.RowKit

/-- A number of 64 bits and another one, as Go adds them. -/
def add64 (a b : Int) : Int := wrap64 (a + b)
mutual
def Tm.shift (c : Int) : Tm → Tm
  | .mk k s n l => .mk k s (if k = 1 then add64 n c else n) (Tm.shifts c l)
def Tm.shifts (c : Int) : List Tm → List Tm
  | [] => []
  | t :: l => t.shift c :: Tm.shifts c l
end
theorem Tm.shifts_map (c : Int) (l : List Tm) : Tm.shifts c l = l.map (Tm.shift c) := by
  induction l with
  | nil => rfl
  | cons t l ih => show t.shift c :: Tm.shifts c l = _; rw [ih]; rfl
theorem Tm.shift_eq (c : Int) (t : Tm) : t.shift c = .mk t.kind t.name (if t.kind = 1 then add64 t.n c else t.n) (t.args.map (Tm.shift c)) := by
  cases t with
  | mk k s n l => show Tm.mk _ _ _ (Tm.shifts c l) = _; rw [Tm.shifts_map]; rfl
theorem map_step (f : Tm → Tm) (l : List Tm) (k : Nat) (h : k < l.length) : (l.take (k + 1)).map f = (l.take k).map f ++ [f (l[k]'h)] := by
  rw [List.take_succ_eq_append_getElem h, List.map_append]; rfl
theorem alloc_new (w : World) (o : Obj) : (w.alloc o).heap[w.heap.size]? = some o := Array.getElem?_push_size
theorem alloc_new2 (w : World) (o1 o2 : Obj) : ((w.alloc o1).alloc o2).heap[w.heap.size + 1]? = some o2 := by
  have h := alloc_new (w.alloc o1) o2
  rw [show (w.alloc o1).heap.size = w.heap.size + 1 by simp] at h
  exact h
theorem wrap64_in (x : Int) : In64 (wrap64 x) := by
  unfold In64 wrap64
  omega
/-- What a call answers that makes a term: it, in memory from B on. -/
def MadeTerm (B : Nat) (w : World) (t : Tm) (e : Ending) (w' : World) : Prop := ∃ ad cap, e = .returned (tmv t ad cap) ∧ TmP w' (fun b => B ≤ b) t ad cap ∧ Below B w w'
theorem cellsT {w : World} {q : Nat} {a b c d : Value} {t : TypeId} (h : w.heap[q]? = some (.cells #[a, b, c, d] t (0, 0))) :
    w.cell? ⟨q, 0, none⟩ = some a ∧ w.cell? ⟨q, 1, none⟩ = some b ∧ w.cell? ⟨q, 2, none⟩ = some c ∧ w.cell? ⟨q, 3, none⟩ = some d ∧ w.frozen? ⟨q, 0, none⟩ = false ∧ w.frozen? ⟨q, 1, none⟩ = false ∧ w.frozen? ⟨q, 2, none⟩ = false ∧ w.frozen? ⟨q, 3, none⟩ = false := by
  simp [World.cell?, World.frozen?, h]

end Go.Proofs.YtjgjeafjnaodkaaDoor
