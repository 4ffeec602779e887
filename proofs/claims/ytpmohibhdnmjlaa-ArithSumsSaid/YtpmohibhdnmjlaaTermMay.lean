/-
  The contracts of the document's own may and Check for term.
-/
import Derived.Test.YtpmohibhdnmjlaaTermMR
import Derived.Test.YtpmohibhdnmjlaaCharRefC
import Derived.Lib.Strings
namespace Go.Proofs.Ytpmohibhdnmjlaa
open Go.RowKit

/-- Whether a term may be, its depth aside. -/
def mayK (k : Int) (s : ByteArray) (n : Int) (len : Nat) (all : Bool) : Bool :=
  if k = 1 then decide (0 ≤ n) && (decide (s.data.toList = []) && decide (len = 0))
  else if k = 2 then decide (n = 0) && (checkL s.data.toList && decide (len = 0))
  else if k = 3 then decide (s.data.toList = []) && decide (len = 0)
  else if k = 4 then decide (n = 0) && (checkL s.data.toList && (decide (1 ≤ len) && (decide (len ≤ 16) && all)))
  else false
mutual
def Tm.may : Tm → Bool
  | .mk k s n l => mayK k s n l.length (Tm.mays l)
def Tm.mays : List Tm → Bool
  | [] => true
  | t :: l => t.may && Tm.mays l
end
theorem Tm.may_eq (t : Tm) : t.may = mayK t.kind t.name t.n t.args.length (Tm.mays t.args) := by cases t; rfl
theorem Tm.mays_all (l : List Tm) : Tm.mays l = l.all Tm.may := by
  induction l with
  | nil => rfl
  | cons t l ih => show (t.may && Tm.mays l) = _; rw [ih, List.all_cons]
theorem mays_snoc (l : List Tm) (k : Nat) (h : k < l.length) : Tm.mays (l.take (k + 1)) = (Tm.mays (l.take k) && (l[k]'h).may) := by
  rw [Tm.mays_all, Tm.mays_all, List.take_succ_eq_append_getElem h, List.all_append]; simp
theorem mays_hit (l : List Tm) (k : Nat) (h : k < l.length) (h1 : (l[k]'h).may = false) : Tm.mays l = false := by
  rw [Tm.mays_all, List.all_eq_false]
  exact ⟨l[k], List.getElem_mem h, by rw [h1]; simp⟩
theorem empty_tl (s : ByteArray) : s.toList.isEmpty = decide (s.data.toList = []) := by
  rw [ByteArray.toList_eq]
  cases s.data.toList <;> rfl

/-- The cells of a block just laid, behind a call that leaves what is old. -/
theorem bcell_alloc {w w1 : World} {C : Array Value} {t : TypeId} (hb : Below (w.alloc (.cells C t)).heap.size (w.alloc (.cells C t)) w1) :
    (∀ i, w1.cell? ⟨w.heap.size, i, none⟩ = C[i]?) ∧ (∀ i, w1.frozen? ⟨w.heap.size, i, none⟩ = (w.alloc (.cells C t)).frozen? ⟨w.heap.size, i, none⟩) := by
  have hlt : w.heap.size < (w.alloc (.cells C t)).heap.size := by simp
  exact ⟨fun i => (hb.cell (p := ⟨w.heap.size, i, none⟩) hlt).trans (World.cell?_alloc_at _ _ _ _ rfl), fun i => hb.frozen (p := ⟨w.heap.size, i, none⟩) hlt⟩

/-- Check's answer. -/
def Tm.chk (t : Tm) : Int := if t.may then (if 60 < t.deep then 3 else 0) else 30

end Go.Proofs.Ytpmohibhdnmjlaa
