/-
  Plain mathematics: how an atom in quotes is read, rune by rune; no program in it.
-/
import Derived.Test.YtglaoacdenecfaaDoorCharPlain
namespace Go.Proofs.YtglaoacdenecfaaDoor
open Go.RowKit

theorem hexRun_le : ∀ (k : Nat) (t : List UInt8) (n : Int), (hexRun k t n).1 ≤ t.length
  | 0, t, n => by cases t <;> exact Nat.zero_le _
  | k + 1, [], n => Nat.le_refl 0
  | k + 1, b :: t, n => by
    by_cases h : 0 ≤ hexV b.toNat
    · have := hexRun_le k t (16 * n + hexV b.toNat)
      rw [show hexRun (k + 1) (b :: t) n = ((hexRun k t (16 * n + hexV b.toNat)).1 + 1, (hexRun k t (16 * n + hexV b.toNat)).2) from if_pos h, List.length_cons]
      show (hexRun k t (16 * n + hexV b.toNat)).1 + 1 ≤ t.length + 1
      omega
    · rw [show hexRun (k + 1) (b :: t) n = (0, n) from if_neg h]
      exact Nat.zero_le _
theorem escL_le (l : List UInt8) : (escL l).2 ≤ l.length := by
  cases l with
  | nil => exact Nat.le_refl 0
  | cons b t =>
    unfold escL
    dsimp only
    rw [List.length_cons]
    repeat' split
    all_goals (try (show _ ≤ t.length + 1))
    all_goals (first | omega | skip)
/-- What escL tells is a rune. -/
theorem hexRun_nonneg : ∀ (k : Nat) (t : List UInt8) (n : Int), 0 ≤ n → 0 ≤ (hexRun k t n).2
  | 0, t, n, h => by cases t <;> exact h
  | k + 1, [], n, h => h
  | k + 1, b :: t, n, h => by
    by_cases hv : 0 ≤ hexV b.toNat
    · rw [show hexRun (k + 1) (b :: t) n = ((hexRun k t (16 * n + hexV b.toNat)).1 + 1, (hexRun k t (16 * n + hexV b.toNat)).2) from if_pos hv]
      exact hexRun_nonneg k t _ (by omega)
    · rw [show hexRun (k + 1) (b :: t) n = (0, n) from if_neg hv]
      exact h
theorem escL_rune (l : List UInt8) : 0 ≤ (escL l).1 ∧ (escL l).1 ≤ 1114111 := by
  cases l with
  | nil => exact ⟨by decide, by decide⟩
  | cons b t =>
    have h0 := hexRun_nonneg 6 t 0 (by decide)
    have hb := b.toNat_lt
    unfold escL
    dsimp only
    repeat' split
    all_goals (constructor <;> (try dsimp only) <;> omega)

theorem readGo_fuel : ∀ (f : Nat) (l out : List UInt8) (a : Nat), l.length ≤ f → readGo f l out a = readGo l.length l out a
  | 0, l, out, a, h => by rw [List.eq_nil_of_length_eq_zero (Nat.le_zero.1 h)]; rfl
  | f + 1, l, out, a, h => by
    by_cases hl : l = []
    · subst hl; rfl
    · have hp : 0 < l.length := List.length_pos_iff.2 hl
      obtain ⟨m, hm⟩ : ∃ m, l.length = m + 1 := ⟨l.length - 1, by omega⟩
      have hw := Lib.decodeL_width l
      have hd : ∀ k, 1 ≤ k → (l.drop k).length ≤ m := fun k hk => by rw [List.length_drop]; omega
      have ih : ∀ k, 1 ≤ k → ∀ o b, readGo f (l.drop k) o b = readGo m (l.drop k) o b := fun k hk o b => by
        rw [readGo_fuel f _ _ _ (by have := hd k hk; omega), readGo_fuel m _ _ _ (hd k hk)]
      rw [hm]
      unfold readGo
      rw [if_neg hl, if_neg hl, ih 2 (by omega), ih _ (show 1 ≤ (escL (l.drop 1)).2 + 1 by omega), ih _ hw]
/-- From a place on. -/
def readAt (l out : List UInt8) (a : Nat) : Option (List UInt8 × Nat) := readGo l.length l out a
theorem readAt_nil (out : List UInt8) (a : Nat) : readAt [] out a = none := rfl
theorem readAt_step (l out : List UInt8) (a : Nat) (hl : l ≠ []) : readAt l out a =
    if (Lib.decodeL l).1 = 39 then (if l.getD 1 0 = 39 ∧ 1 < l.length then readAt (l.drop 2) (out ++ [39]) (a + 2) else some (out, a + 1))
    else if (Lib.decodeL l).1 = 92 then (if (escL (l.drop 1)).2 = 0 then none else readAt (l.drop ((escL (l.drop 1)).2 + 1)) (out ++ encL (escL (l.drop 1)).1) (a + (escL (l.drop 1)).2 + 1))
    else if (Lib.decodeL l).1 < 32 ∨ ((Lib.decodeL l).1 = 65533 ∧ (Lib.decodeL l).2 = 1) then none
    else readAt (l.drop (Lib.decodeL l).2) (out ++ encL (Lib.decodeL l).1) (a + (Lib.decodeL l).2) := by
  have hp : 0 < l.length := List.length_pos_iff.2 hl
  obtain ⟨m, hm⟩ : ∃ m, l.length = m + 1 := ⟨l.length - 1, by omega⟩
  have hw := Lib.decodeL_width l
  have ih : ∀ k, 1 ≤ k → ∀ o b, readGo m (l.drop k) o b = readAt (l.drop k) o b := fun k hk o b => readGo_fuel m _ _ _ (by rw [List.length_drop]; omega)
  rw [← ih 2 (by omega), ← ih _ (show 1 ≤ (escL (l.drop 1)).2 + 1 by omega), ← ih _ hw]
  conv => lhs; unfold readAt; rw [hm]; unfold readGo
  rw [if_neg hl]
theorem readL_eq (l : List UInt8) (h : l.headD 0 = 39) : readL l = readAt (l.drop 1) [] 1 := by
  unfold readL
  rw [if_pos h]
  exact readGo_fuel _ _ _ _ (by rw [List.length_drop]; omega)
theorem readL_no (l : List UInt8) (h : l.headD 0 ≠ 39) : readL l = none := if_neg h

/-- The three answers of Read. -/
def readS (l : List UInt8) : List UInt8 := ((readL l).map (·.1)).getD []
def readK (l : List UInt8) : Nat := ((readL l).map (·.2)).getD 0
def readX (l : List UInt8) : Int := if (readL l).isSome then 0 else 20
theorem read_none {l : List UInt8} (h : readL l = none) : readS l = [] ∧ readK l = 0 ∧ readX l = 20 := by unfold readS readK readX; rw [h]; exact ⟨rfl, rfl, rfl⟩
theorem read_some {l o : List UInt8} {n : Nat} (h : readL l = some (o, n)) : readS l = o ∧ readK l = n ∧ readX l = 0 := by unfold readS readK readX; rw [h]; exact ⟨rfl, rfl, rfl⟩
end Go.Proofs.YtglaoacdenecfaaDoor
