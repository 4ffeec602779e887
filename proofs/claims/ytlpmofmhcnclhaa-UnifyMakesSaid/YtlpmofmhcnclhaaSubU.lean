/-
  Words that the laws of subst and unify share.
-/
import Derived.Test.YtlpmofmhcnclhaaSubA
import Derived.Test.YtlpmofmhcnclhaaTermMk
import Derived.Test.YtlpmofmhcnclhaaTermVs
namespace Go.Proofs.Ytlpmofmhcnclhaa
open Go.RowKit

theorem rowS1 {w : World} {A : Tm} {ad : Option Addr} {ca : Nat} (hA : TmIn w A ad ca) (C : Array Value) (hC : C = (tcells A ad ca).toArray) : TArgs (w.alloc (.cells C 25)) (some ⟨w.heap.size, 0, none⟩) [A] := by
  subst hC
  have h1 := hA.args.on ((Below.refl _ w).alloc (Nat.le_refl _) (.cells (tcells A ad ca).toArray 25))
  rw [A.eta]
  exact .cons _ _ _ _ _ _ _ ad ca (World.cell?_alloc_at _ _ _ _ rfl) (World.cell?_alloc_at _ _ _ _ rfl) (World.cell?_alloc_at _ _ _ _ rfl) (World.cell?_alloc_at _ _ _ _ rfl) hA.kind hA.n hA.name hA.len hA.cap h1 (.nil _)
theorem walkF_size {bs : List (Int × Tm)} {m : Nat} (hb : ∀ b ∈ bs, b.2.size ≤ m) (h1 : 1 ≤ m) : ∀ (f n : Nat) (t : Tm), t.size ≤ m → (walkF bs f n t).1.size ≤ m
  | 0, n, t, h => h1
  | f + 1, n, t, h => by
    unfold walkF
    by_cases hk : t.kind = 1
    · rw [if_pos hk]
      cases hl : lookL bs t.n with
      | none => exact h
      | some x =>
        dsimp only
        by_cases hn : n < 2000
        · rw [if_pos hn]; exact walkF_size hb h1 f (n + 1) x (hb _ (lookL_mem hl))
        · rw [if_neg hn]; exact h1
    · rw [if_neg hk]; exact h
theorem look_size {bs : List (Int × Tm)} {m : Nat} (hb : ∀ b ∈ bs, b.2.size ≤ m) (h1 : 1 ≤ m) (v : Int) : ((lookL bs v).getD zeroT).size ≤ m := by
  cases hl : lookL bs v with
  | none => exact h1
  | some x => exact hb _ (lookL_mem hl)
/-- Same of equal terms. -/
theorem same_yes (T : Tm) (u1 u2 : Option Addr) (c1 c2 : Nat) (W : World) (h : T.size ≤ 1000000) (h1 : TmIn W T u1 c1) (h2 : TmIn W T u2 c2) : Calls Try.prog 24 #[tmv T u1 c1, tmv T u2 c2] W fun e w' => e = .returned (.bool true) ∧ Below W.heap.size W w' := by
  have := ref_Same T.size T T u1 u2 c1 c2 W (Nat.le_refl _) h h1 h2
  rwa [Tm.same_true rfl] at this
theorem onceGo_fromS : ∀ (l L : List Int) (x : Int), x ∈ onceGo L l → x ∈ L ∨ x ∈ l
  | [], L, x, h => by unfold onceGo at h; exact .inl h
  | n :: l, L, x, h => by
    unfold onceGo at h
    split at h
    · rcases onceGo_fromS l L x h with h | h
      · exact .inl h
      · exact .inr (.tail _ h)
    · rcases onceGo_fromS l (L ++ [n]) x h with h | h
      · rcases List.mem_append.1 h with h | h
        · exact .inl h
        · rw [List.mem_singleton.1 h]; exact .inr (.head _)
      · exact .inr (.tail _ h)
theorem vars_sub {t : Tm} {x : Int} (h : x ∈ t.vars) : x ∈ t.places := by
  rcases onceGo_fromS t.places [] x h with h | h
  · cases h
  · exact h
theorem vars_lenS (t : Tm) : t.vars.length ≤ t.size := by
  have h : ∀ (l L : List Int), (onceGo L l).length ≤ L.length + l.length := by
    intro l
    induction l with
    | nil => intro L; unfold onceGo; simp
    | cons n l ih =>
      intro L
      unfold onceGo
      split
      · have := ih L; rw [List.length_cons]; omega
      · have := ih (L ++ [n]); rw [List.length_append] at this; simp at this ⊢; omega
  have h1 := h t.places []
  have h2 := t.places_size
  unfold Tm.vars once
  simp at h1
  omega
end Go.Proofs.Ytlpmofmhcnclhaa
