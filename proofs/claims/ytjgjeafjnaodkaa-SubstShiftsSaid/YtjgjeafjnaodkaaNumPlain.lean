/-
  Plain mathematics for package num: numbers of 64 bits, checked; no program in it. Proved: what is in bounds, that a wrapped product divided back tells whether it was over.
-/
import Derived.IntWalk
namespace Go.Proofs.Ytjgjeafjnaodkaa
open Go.RowKit

/-- x has 64 bits. -/
def In64 (x : Int) : Prop := -9223372036854775808 ≤ x ∧ x ≤ 9223372036854775807
/-- The checked number: itself, or 0 where it is over. -/
def chkV (x : Int) : Int := if -9223372036854775808 ≤ x ∧ x ≤ 9223372036854775807 then x else 0
/-- The error's number beside it. -/
def chkE (x : Int) : Int := if -9223372036854775808 ≤ x ∧ x ≤ 9223372036854775807 then 0 else 10
theorem chkV_in {x : Int} (h : In64 x) : chkV x = x := if_pos h
theorem chkE_in {x : Int} (h : In64 x) : chkE x = 0 := if_pos h
theorem chkV_out {x : Int} (h : ¬ In64 x) : chkV x = 0 := if_neg h
theorem chkE_out {x : Int} (h : ¬ In64 x) : chkE x = 10 := if_neg h
theorem chkE_zero {x : Int} (h : chkE x = 0) : In64 x := by
  unfold chkE at h
  split at h
  · assumption
  · exact absurd h (by decide)
theorem chkV_in64 (x : Int) : In64 (chkV x) := by
  unfold chkV In64
  split <;> omega
theorem chkE_01 (x : Int) : chkE x = 0 ∨ chkE x = 10 := by
  unfold chkE
  split <;> simp

theorem tdiv_mul (a b : Int) (hb : b ≠ 0) : (a * b).tdiv b = a := Int.mul_tdiv_cancel a hb

/-- How far a quotient times its divisor is off. -/
theorem tdiv_off (p b : Int) : p = b * p.tdiv b + p.tmod b := (Int.mul_tdiv_add_tmod p b).symm
theorem tmod_lt (p b : Int) (hb : b ≠ 0) : -(b.natAbs : Int) < p.tmod b ∧ p.tmod b < b.natAbs := by
  have h := Int.natAbs_tmod p b
  have h2 : p.natAbs % b.natAbs < b.natAbs := Nat.mod_lt _ (by omega)
  omega
/-- A product that wraps round does not divide back. -/
theorem mul_back (a b : Int) (hb : b ≠ 0) (hb1 : In64 b) (h : (wrap64 (a * b)).tdiv b = a) : In64 (a * b) := by
  have h1 := tdiv_off (wrap64 (a * b)) b
  have h2 := tmod_lt (wrap64 (a * b)) b hb
  rw [h, Int.mul_comm b a] at h1
  generalize (wrap64 (a * b)).tmod b = r at *
  generalize a * b = p at *
  unfold In64 at *
  unfold wrap64 at h1
  omega
theorem mul_fwd (a b : Int) (hb : b ≠ 0) (h : In64 (a * b)) : (wrap64 (a * b)).tdiv b = a := by
  rw [IntWalk.wrap64_in _ h, tdiv_mul a b hb]
/-- The test of Add: a sum that wraps round lands on the wrong side. -/
theorem add_over {a b : Int} (ha : In64 a) (hb : In64 b) (h : (!decide (b < 0) == decide (wrap64 (a + b) < a)) = true) : ¬ In64 (a + b) := by
  unfold In64 at *
  by_cases h1 : b < 0 <;> by_cases h2 : wrap64 (a + b) < a <;> simp [h1, h2] at h <;> unfold wrap64 at h2 <;> omega
theorem add_good {a b : Int} (ha : In64 a) (hb : In64 b) (h : (!decide (b < 0) == decide (wrap64 (a + b) < a)) = false) : In64 (a + b) := by
  unfold In64 at *
  by_cases h1 : b < 0 <;> by_cases h2 : wrap64 (a + b) < a <;> simp [h1, h2] at h <;> unfold wrap64 at h2 <;> omega
theorem sub_over {a b : Int} (ha : In64 a) (hb : In64 b) (h : (!decide (0 < b) == decide (wrap64 (a - b) < a)) = true) : ¬ In64 (a - b) := by
  unfold In64 at *
  by_cases h1 : 0 < b <;> by_cases h2 : wrap64 (a - b) < a <;> simp [h1, h2] at h <;> unfold wrap64 at h2 <;> omega
theorem sub_good {a b : Int} (ha : In64 a) (hb : In64 b) (h : (!decide (0 < b) == decide (wrap64 (a - b) < a)) = false) : In64 (a - b) := by
  unfold In64 at *
  by_cases h1 : 0 < b <;> by_cases h2 : wrap64 (a - b) < a <;> simp [h1, h2] at h <;> unfold wrap64 at h2 <;> omega
theorem tdiv_in {p b : Int} (hp : In64 p) (h0 : b ≠ 0) (h1 : b ≠ -1) : In64 (p.tdiv b) := by
  by_cases hb : b = 1
  · subst hb; rw [Int.tdiv_one]; exact hp
  · have h : (p.tdiv b).natAbs = p.natAbs / b.natAbs := Int.natAbs_tdiv p b
    have h2 : p.natAbs / b.natAbs ≤ p.natAbs / 2 := Nat.div_le_div_left (by omega) (by omega)
    rw [← h] at h2
    clear h
    generalize p.tdiv b = e at h2 ⊢
    unfold In64 at *
    omega
theorem tdiv_neg1 (p : Int) : p.tdiv (-1) = -p := by rw [Int.tdiv_neg, Int.tdiv_one]
/-- The test of Mul: divided back. -/
theorem mul_over {a b : Int} (ha : In64 a) (h0 : b ≠ 0) (h : (wrap64 ((wrap64 (a * b)).tdiv b) != a) = true) : ¬ In64 (a * b) := by
  intro hin
  rw [mul_fwd a b h0 hin, IntWalk.wrap64_in _ ha] at h
  simp at h
theorem mul_good {a b : Int} (ha : In64 a) (hb : In64 b) (h0 : b ≠ 0) (h1 : b = -1 → a ≠ -9223372036854775808) (h : (wrap64 ((wrap64 (a * b)).tdiv b) != a) = false) : In64 (a * b) := by
  by_cases hb1 : b = -1
  · have := h1 hb1
    subst hb1
    unfold In64 at *
    omega
  · refine mul_back a b h0 hb ?_
    have hw : In64 (wrap64 (a * b)) := by unfold In64 wrap64; omega
    rw [IntWalk.wrap64_in _ (tdiv_in hw h0 hb1)] at h
    simpa using h
/-! ### Quotients, and what is left -/
def quoV (a b : Int) : Int := if b = 0 then 0 else chkV (a.tdiv b)
def quoE (a b : Int) : Int := if b = 0 then 11 else chkE (a.tdiv b)
def remV (a b : Int) : Int := if b = 0 then 0 else a.tmod b
def zeroE (b : Int) : Int := if b = 0 then 11 else 0
/-- What is left, with the divisor's sign. -/
def adj (r b : Int) : Int := if r ≠ 0 ∧ ¬ (r < 0 ↔ b < 0) then r + b else r
def modV (a b : Int) : Int := if b = 0 then 0 else adj (a.tmod b) b
def cmpV (a b : Int) : Int := if a < b then -1 else if b < a then 1 else 0
theorem tmod_in {a b : Int} (hb : In64 b) (h0 : b ≠ 0) : In64 (a.tmod b) := by
  have h := tmod_lt a b h0
  unfold In64 at *
  omega
theorem tmod_neg1 (a : Int) : a.tmod (-1) = 0 := by rw [Int.tmod_neg, Int.tmod_one]
theorem adj_in {r b : Int} (hr : In64 r) (hb : In64 b) : In64 (adj r b) := by
  unfold adj In64 at *
  split <;> omega
theorem cmpV_swap (a b : Int) : cmpV b a = -cmpV a b := by
  unfold cmpV
  split <;> split <;> (try split) <;> omega
theorem cmpV_bd (a b : Int) : -1 ≤ cmpV a b ∧ cmpV a b ≤ 1 := by
  unfold cmpV
  split <;> (try split) <;> omega
theorem adj_yes {r b : Int} (h : (r != 0) = true ∧ (!decide (r < 0) == decide (b < 0)) = true) : adj r b = r + b := by
  obtain ⟨h1, h2⟩ := h
  refine if_pos ⟨by simpa using h1, fun h => ?_⟩
  simp [h] at h2
theorem adj_no {r b : Int} (h : (r != 0) = false ∨ (!decide (r < 0) == decide (b < 0)) = false) : adj r b = r := by
  refine if_neg fun ⟨h1, h2⟩ => ?_
  rcases h with h | h
  · simp at h; exact h1 h
  · simp at h
    exact h2 ⟨fun x => by simpa [x] using h.symm, fun x => by simpa [x] using h⟩
theorem adj_zero (b : Int) : adj 0 b = 0 := if_neg fun ⟨h, _⟩ => h rfl
theorem adj_or (r b : Int) : adj r b = r ∨ adj r b = r + b := by
  unfold adj
  split <;> simp
end Go.Proofs.Ytjgjeafjnaodkaa
