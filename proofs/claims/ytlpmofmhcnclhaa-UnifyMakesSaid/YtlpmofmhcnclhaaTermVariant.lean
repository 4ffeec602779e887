/-
  The contracts of the document's own SameNums and Variant for term.
-/
import Derived.Test.YtlpmofmhcnclhaaTermVs
import Derived.Test.YtlpmofmhcnclhaaTermBare
import Derived.Test.YtlpmofmhcnclhaaTermMR
import Derived.Deep.QuietTactic
import Derived.BigQuiet
namespace Go.Proofs.Ytlpmofmhcnclhaa
open Go.RowKit

theorem below_drewN {B : Nat} {a w : World} (h : Below B a w) (n : Nat) : Below B a (w.drewN n) := ⟨h.os, h.tape, h.output, h.size, h.block⟩

/-- Two lists go together: where one has the same twice, so has the other one. -/
def pairs (x y : List Int) : Prop := ∀ i k, k < i → i < x.length → (x.getD i 0 = x.getD k 0 ↔ y.getD i 0 = y.getD k 0)
noncomputable def Tm.variant (a b : Tm) : Bool := @decide (a.bare = b.bare ∧ pairs a.places b.places) (Classical.propDecidable _)
theorem variant_true {a b : Tm} (h1 : a.bare = b.bare) (h2 : pairs a.places b.places) : a.variant b = true := by unfold Tm.variant; simp [h1, h2]
theorem variant_bare {a b : Tm} (h1 : a.bare ≠ b.bare) : a.variant b = false := by unfold Tm.variant; simp [h1]
theorem variant_pairs {a b : Tm} (h2 : ¬ pairs a.places b.places) : a.variant b = false := by unfold Tm.variant; simp [h2]
theorem bare_size' (m : Nat) : ∀ l : List Tm, Tm.sizes l ≤ m → Tm.sizes (l.map Tm.bare) = Tm.sizes l := by
  induction m with
  | zero =>
    intro l h
    cases l with
    | nil => rfl
    | cons t l => rw [Tm.sizes_cons] at h; have := t.size_pos; omega
  | succ m ih =>
    intro l h
    cases l with
    | nil => rfl
    | cons t l =>
      rw [Tm.sizes_cons] at h
      have h1 := t.size_eq
      have h2 := ih t.args (by omega)
      have h3 := ih l (by have := t.size_pos; omega)
      rw [List.map_cons, Tm.sizes_cons, Tm.sizes_cons, h3, t.bare_eq, Tm.size_eq, Tm.size_eq t]
      show 1 + Tm.sizes (t.args.map Tm.bare) + _ = _
      rw [h2]
theorem Tm.bare_size (t : Tm) : t.bare.size = t.size := by
  rw [t.bare_eq, Tm.size_eq, Tm.size_eq t]
  show 1 + Tm.sizes (t.args.map Tm.bare) = _
  rw [bare_size' _ t.args (Nat.le_refl _)]
theorem bare_places' (m : Nat) : ∀ l r : List Tm, Tm.sizes l ≤ m → l.map Tm.bare = r.map Tm.bare → (l.flatMap Tm.places).length = (r.flatMap Tm.places).length := by
  induction m with
  | zero =>
    intro l r h he
    cases l with
    | nil =>
      cases r with
      | nil => rfl
      | cons t r => cases he
    | cons t l => rw [Tm.sizes_cons] at h; have := t.size_pos; omega
  | succ m ih =>
    intro l r h he
    cases l with
    | nil =>
      cases r with
      | nil => rfl
      | cons t r => cases he
    | cons t l =>
      cases r with
      | nil => cases he
      | cons s r =>
        rw [List.map_cons, List.map_cons] at he
        injection he with he1 he2
        rw [t.bare_eq, s.bare_eq] at he1
        injection he1 with hk hnm hn ha
        rw [Tm.sizes_cons] at h
        have h1 := t.size_eq
        have h2 := ih t.args s.args (by omega) ha
        have h3 := ih l r (by have := t.size_pos; omega) he2
        rw [List.flatMap_cons, List.flatMap_cons, List.length_append, List.length_append, t.places_eq, s.places_eq, List.length_append, List.length_append, h2, h3, hk]
        split <;> rfl
theorem Tm.bare_places {a b : Tm} (h : a.bare = b.bare) : a.places.length = b.places.length := by
  have := bare_places' _ [a] [b] (Nat.le_refl _) (by rw [List.map_cons, List.map_cons, h])
  simpa using this
end Go.Proofs.Ytlpmofmhcnclhaa
