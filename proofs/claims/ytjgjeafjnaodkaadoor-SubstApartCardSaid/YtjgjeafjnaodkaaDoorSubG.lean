/-
  The walk of the law SubstTwice.
-/
import Derived.Test.YtjgjeafjnaodkaaDoorSubF
namespace Go.Proofs.YtjgjeafjnaodkaaDoor
open Go.RowKit

theorem onceGo_fromS : ∀ (l L : List Int) (x : Int), x ∈ onceGo L l → x ∈ L ∨ x ∈ l
  | [], L, x, h => by unfold onceGo at h; exact .inl h
  | n :: l, L, x, h => by
    unfold onceGo at h
    split at h
    · rcases onceGo_fromS l L x h with h | h
      · exact .inl h
      · exact .inr (.tail _ h)
    · rcases onceGo_fromS l (L ++ [n]) x h with h | h
      · rcases List.mem_append.1 h with h | h
        · exact .inl h
        · rw [List.mem_singleton.1 h]; exact .inr (.head _)
      · exact .inr (.tail _ h)
theorem vars_sub {t : Tm} {x : Int} (h : x ∈ t.vars) : x ∈ t.places := by
  rcases onceGo_fromS t.places [] x h with h | h
  · cases h
  · exact h
theorem vars_lenS (t : Tm) : t.vars.length ≤ t.size := by
  have h : ∀ (l L : List Int), (onceGo L l).length ≤ L.length + l.length := by
    intro l
    induction l with
    | nil => intro L; unfold onceGo; simp
    | cons n l ih =>
      intro L
      unfold onceGo
      split
      · have := ih L; rw [List.length_cons]; omega
      · have := ih (L ++ [n]); rw [List.length_append] at this; simp at this ⊢; omega
  have h1 := h t.places []
  have h2 := t.places_size
  unfold Tm.vars once
  simp at h1
  omega
/-- What the law holds of what is resolved. -/
theorem twice_facts (bs : List (Int × Tm)) (t : Tm) : ((resD bs 60 0 t).2.1 = 0 ∧ (∀ v ∈ (resD bs 60 0 t).1.vars, lookL bs v = none) ∧ (resD bs 60 0 t).1.size ≤ 2000 ∧ resD [] 60 0 (resD bs 60 0 t).1 = ((resD bs 60 0 t).1, 0, (resD bs 60 0 t).1.size)) ∨ ((resD bs 60 0 t).2.1 ≠ 0 ∧ (resD bs 60 0 t).1 = zeroT) := by
  rcases resD_out bs 60 0 t (Nat.zero_le _) with ⟨h1, h2, h3, h4, h5⟩ | ⟨h1, h2, _⟩
  · refine .inl ⟨h1, fun v hv => h2 v (vars_sub hv), by omega, ?_⟩
    have h := resD_self [] 60 0 (resD bs 60 0 t).1 (by omega) h3 fun _ _ => rfl
    rwa [Nat.zero_add] at h
  · exact .inr ⟨h1, h2⟩

end Go.Proofs.YtjgjeafjnaodkaaDoor
