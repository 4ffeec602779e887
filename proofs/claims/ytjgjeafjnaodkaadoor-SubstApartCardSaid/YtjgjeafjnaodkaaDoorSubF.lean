/-
  The walk of the law SubstWalks.
-/
import Derived.Test.YtjgjeafjnaodkaaDoorSubDev
import Derived.Test.YtjgjeafjnaodkaaDoorTermMake
import Derived.Deep.RegionHeld3
namespace Go.Proofs.YtjgjeafjnaodkaaDoor
open Go.RowKit

theorem rowS1 {w : World} {A : Tm} {ad : Option Addr} {ca : Nat} (hA : TmIn w A ad ca) (C : Array Value) (hC : C = (tcells A ad ca).toArray) : TArgs (w.alloc (.cells C 25)) (some ⟨w.heap.size, 0, none⟩) [A] := by
  subst hC
  have h1 := hA.args.on ((Below.refl _ w).alloc (Nat.le_refl _) (.cells (tcells A ad ca).toArray 25))
  rw [A.eta]
  exact .cons _ _ _ _ _ _ _ ad ca (World.cell?_alloc_at _ _ _ _ rfl) (World.cell?_alloc_at _ _ _ _ rfl) (World.cell?_alloc_at _ _ _ _ rfl) (World.cell?_alloc_at _ _ _ _ rfl) hA.kind hA.n hA.name hA.len hA.cap h1 (.nil _)
theorem walkF_size {bs : List (Int × Tm)} {m : Nat} (hb : ∀ b ∈ bs, b.2.size ≤ m) (h1 : 1 ≤ m) : ∀ (f n : Nat) (t : Tm), t.size ≤ m → (walkF bs f n t).1.size ≤ m
  | 0, n, t, h => h1
  | f + 1, n, t, h => by
    unfold walkF
    by_cases hk : t.kind = 1
    · rw [if_pos hk]
      cases hl : lookL bs t.n with
      | none => exact h
      | some x =>
        dsimp only
        by_cases hn : n < 2000
        · rw [if_pos hn]; exact walkF_size hb h1 f (n + 1) x (hb _ (lookL_mem hl))
        · rw [if_neg hn]; exact h1
    · rw [if_neg hk]; exact h
theorem look_size {bs : List (Int × Tm)} {m : Nat} (hb : ∀ b ∈ bs, b.2.size ≤ m) (h1 : 1 ≤ m) (v : Int) : ((lookL bs v).getD zeroT).size ≤ m := by
  cases hl : lookL bs v with
  | none => exact h1
  | some x => exact hb _ (lookL_mem hl)
/-- Same of equal terms. -/
theorem same_yes (T : Tm) (u1 u2 : Option Addr) (c1 c2 : Nat) (W : World) (h : T.size ≤ 1000000) (h1 : TmIn W T u1 c1) (h2 : TmIn W T u2 c2) : Calls Tryd.prog 11 #[tmv T u1 c1, tmv T u2 c2] W fun e w' => e = .returned (.bool true) ∧ Below W.heap.size W w' := by
  have := ref_Same T.size T T u1 u2 c1 c2 W (Nat.le_refl _) h h1 h2
  rwa [Tm.same_true rfl] at this

end Go.Proofs.YtjgjeafjnaodkaaDoor
