/-
  Joined texts: NumPlain, NumCalls, NumMore, NumBackA.
-/
import Derived.IntWalk
import Derived.Test.YtpmohibhdnmjlaaChecked
import Derived.WalkKit
import Derived.WalkSpells
import Derived.Lib.Hide
import Derived.Lib.ItoaMem
import Derived.Lib.OthersKept
import Derived.Laws.RangeAny
import Derived.Laws.RangeString
import Derived.Lib.ItoaLen
import Derived.Laws.IdiomStrings

/-
  Plain mathematics for package num: numbers of 64 bits, checked; no program in it. Proved: what is in bounds, that a wrapped product divided back tells whether it was over.
-/
namespace Go.Proofs.Ytpmohibhdnmjlaa
open Go.RowKit

/-- x has 64 bits. -/
def In64 (x : Int) : Prop := -9223372036854775808 ≤ x ∧ x ≤ 9223372036854775807
/-- The checked number: itself, or 0 where it is over. -/
def chkV (x : Int) : Int := if -9223372036854775808 ≤ x ∧ x ≤ 9223372036854775807 then x else 0
/-- The error's number beside it. -/
def chkE (x : Int) : Int := if -9223372036854775808 ≤ x ∧ x ≤ 9223372036854775807 then 0 else 10
theorem chkV_in {x : Int} (h : In64 x) : chkV x = x := if_pos h
theorem chkE_in {x : Int} (h : In64 x) : chkE x = 0 := if_pos h
theorem chkV_out {x : Int} (h : ¬ In64 x) : chkV x = 0 := if_neg h
theorem chkE_out {x : Int} (h : ¬ In64 x) : chkE x = 10 := if_neg h
theorem chkE_zero {x : Int} (h : chkE x = 0) : In64 x := by
  unfold chkE at h
  split at h
  · assumption
  · exact absurd h (by decide)
theorem chkV_in64 (x : Int) : In64 (chkV x) := by
  unfold chkV In64
  split <;> omega
theorem chkE_01 (x : Int) : chkE x = 0 ∨ chkE x = 10 := by
  unfold chkE
  split <;> simp

theorem tdiv_mul (a b : Int) (hb : b ≠ 0) : (a * b).tdiv b = a := Int.mul_tdiv_cancel a hb

/-- How far a quotient times its divisor is off. -/
theorem tdiv_off (p b : Int) : p = b * p.tdiv b + p.tmod b := (Int.mul_tdiv_add_tmod p b).symm
theorem tmod_lt (p b : Int) (hb : b ≠ 0) : -(b.natAbs : Int) < p.tmod b ∧ p.tmod b < b.natAbs := by
  have h := Int.natAbs_tmod p b
  have h2 : p.natAbs % b.natAbs < b.natAbs := Nat.mod_lt _ (by omega)
  omega
/-- A product that wraps round does not divide back. -/
theorem mul_back (a b : Int) (hb : b ≠ 0) (hb1 : In64 b) (h : (wrap64 (a * b)).tdiv b = a) : In64 (a * b) := by
  have h1 := tdiv_off (wrap64 (a * b)) b
  have h2 := tmod_lt (wrap64 (a * b)) b hb
  rw [h, Int.mul_comm b a] at h1
  generalize (wrap64 (a * b)).tmod b = r at *
  generalize a * b = p at *
  unfold In64 at *
  unfold wrap64 at h1
  omega
theorem mul_fwd (a b : Int) (hb : b ≠ 0) (h : In64 (a * b)) : (wrap64 (a * b)).tdiv b = a := by
  rw [IntWalk.wrap64_in _ h, tdiv_mul a b hb]
/-- The test of Add: a sum that wraps round lands on the wrong side. -/
theorem add_over {a b : Int} (ha : In64 a) (hb : In64 b) (h : (!decide (b < 0) == decide (wrap64 (a + b) < a)) = true) : ¬ In64 (a + b) := by
  unfold In64 at *
  by_cases h1 : b < 0 <;> by_cases h2 : wrap64 (a + b) < a <;> simp [h1, h2] at h <;> unfold wrap64 at h2 <;> omega
theorem add_good {a b : Int} (ha : In64 a) (hb : In64 b) (h : (!decide (b < 0) == decide (wrap64 (a + b) < a)) = false) : In64 (a + b) := by
  unfold In64 at *
  by_cases h1 : b < 0 <;> by_cases h2 : wrap64 (a + b) < a <;> simp [h1, h2] at h <;> unfold wrap64 at h2 <;> omega
theorem sub_over {a b : Int} (ha : In64 a) (hb : In64 b) (h : (!decide (0 < b) == decide (wrap64 (a - b) < a)) = true) : ¬ In64 (a - b) := by
  unfold In64 at *
  by_cases h1 : 0 < b <;> by_cases h2 : wrap64 (a - b) < a <;> simp [h1, h2] at h <;> unfold wrap64 at h2 <;> omega
theorem sub_good {a b : Int} (ha : In64 a) (hb : In64 b) (h : (!decide (0 < b) == decide (wrap64 (a - b) < a)) = false) : In64 (a - b) := by
  unfold In64 at *
  by_cases h1 : 0 < b <;> by_cases h2 : wrap64 (a - b) < a <;> simp [h1, h2] at h <;> unfold wrap64 at h2 <;> omega
theorem tdiv_in {p b : Int} (hp : In64 p) (h0 : b ≠ 0) (h1 : b ≠ -1) : In64 (p.tdiv b) := by
  by_cases hb : b = 1
  · subst hb; rw [Int.tdiv_one]; exact hp
  · have h : (p.tdiv b).natAbs = p.natAbs / b.natAbs := Int.natAbs_tdiv p b
    have h2 : p.natAbs / b.natAbs ≤ p.natAbs / 2 := Nat.div_le_div_left (by omega) (by omega)
    rw [← h] at h2
    clear h
    generalize p.tdiv b = e at h2 ⊢
    unfold In64 at *
    omega
theorem tdiv_neg1 (p : Int) : p.tdiv (-1) = -p := by rw [Int.tdiv_neg, Int.tdiv_one]
/-- The test of Mul: divided back. -/
theorem mul_over {a b : Int} (ha : In64 a) (h0 : b ≠ 0) (h : (wrap64 ((wrap64 (a * b)).tdiv b) != a) = true) : ¬ In64 (a * b) := by
  intro hin
  rw [mul_fwd a b h0 hin, IntWalk.wrap64_in _ ha] at h
  simp at h
theorem mul_good {a b : Int} (ha : In64 a) (hb : In64 b) (h0 : b ≠ 0) (h1 : b = -1 → a ≠ -9223372036854775808) (h : (wrap64 ((wrap64 (a * b)).tdiv b) != a) = false) : In64 (a * b) := by
  by_cases hb1 : b = -1
  · have := h1 hb1
    subst hb1
    unfold In64 at *
    omega
  · refine mul_back a b h0 hb ?_
    have hw : In64 (wrap64 (a * b)) := by unfold In64 wrap64; omega
    rw [IntWalk.wrap64_in _ (tdiv_in hw h0 hb1)] at h
    simpa using h
/-! ### Quotients, and what is left -/
def quoV (a b : Int) : Int := if b = 0 then 0 else chkV (a.tdiv b)
def quoE (a b : Int) : Int := if b = 0 then 11 else chkE (a.tdiv b)
def remV (a b : Int) : Int := if b = 0 then 0 else a.tmod b
def zeroE (b : Int) : Int := if b = 0 then 11 else 0
/-- What is left, with the divisor's sign. -/
def adj (r b : Int) : Int := if r ≠ 0 ∧ ¬ (r < 0 ↔ b < 0) then r + b else r
def modV (a b : Int) : Int := if b = 0 then 0 else adj (a.tmod b) b
def cmpV (a b : Int) : Int := if a < b then -1 else if b < a then 1 else 0
theorem tmod_in {a b : Int} (hb : In64 b) (h0 : b ≠ 0) : In64 (a.tmod b) := by
  have h := tmod_lt a b h0
  unfold In64 at *
  omega
theorem tmod_neg1 (a : Int) : a.tmod (-1) = 0 := by rw [Int.tmod_neg, Int.tmod_one]
theorem adj_in {r b : Int} (hr : In64 r) (hb : In64 b) : In64 (adj r b) := by
  unfold adj In64 at *
  split <;> omega
theorem cmpV_swap (a b : Int) : cmpV b a = -cmpV a b := by
  unfold cmpV
  split <;> split <;> (try split) <;> omega
theorem cmpV_bd (a b : Int) : -1 ≤ cmpV a b ∧ cmpV a b ≤ 1 := by
  unfold cmpV
  split <;> (try split) <;> omega
theorem adj_yes {r b : Int} (h : (r != 0) = true ∧ (!decide (r < 0) == decide (b < 0)) = true) : adj r b = r + b := by
  obtain ⟨h1, h2⟩ := h
  refine if_pos ⟨by simpa using h1, fun h => ?_⟩
  simp [h] at h2
theorem adj_no {r b : Int} (h : (r != 0) = false ∨ (!decide (r < 0) == decide (b < 0)) = false) : adj r b = r := by
  refine if_neg fun ⟨h1, h2⟩ => ?_
  rcases h with h | h
  · simp at h; exact h1 h
  · simp at h
    exact h2 ⟨fun x => by simpa [x] using h.symm, fun x => by simpa [x] using h⟩
theorem adj_zero (b : Int) : adj 0 b = 0 := if_neg fun ⟨h, _⟩ => h rfl
theorem adj_or (r b : Int) : adj r b = r ∨ adj r b = r + b := by
  unfold adj
  split <;> simp
end Go.Proofs.Ytpmohibhdnmjlaa

/-
  The contracts of package num and of the document's own answers: what each call returns, for all numbers of 64 bits.
-/
namespace Go.Proofs.Ytpmohibhdnmjlaa
open Go.RowKit

theorem ans_in {x v : Int} (hx : In64 x) (hv : v = x) : Ending.returned (.tuple #[.int .i64 v, .int .i64 0]) = .returned (.tuple #[.int .i64 (chkV x), .int .i64 (chkE x)]) := by
  rw [chkV_in hx, chkE_in hx, hv]
theorem ans_out {x : Int} (hx : ¬ In64 x) : Ending.returned (.tuple #[.int .i64 0, .int .i64 10]) = .returned (.tuple #[.int .i64 (chkV x), .int .i64 (chkE x)]) := by
  rw [chkV_out hx, chkE_out hx]
theorem ans_eq {v e v' e' : Int} (hv : v = v') (he : e = e') : Ending.returned (.tuple #[.int .i64 v, .int .i64 e]) = .returned (.tuple #[.int .i64 v', .int .i64 e']) := by
  rw [hv, he]
theorem ret_int {a b : Int} (h : a = b) : Ending.returned (.int .i64 a) = .returned (.int .i64 b) := by rw [h]

set_option maxHeartbeats 400000 in
theorem num_Add (a b : Int) (w : World) (ha : In64 a) (hb : In64 b) :
    Calls Try.prog 59 #[.int .i64 a, .int .i64 b] w fun e w' => e = .returned (.tuple #[.int .i64 (chkV (a + b)), .int .i64 (chkE (a + b))]) ∧ w = w' := by
  have ha' := ha
  have hb' := hb
  unfold In64 at ha hb
  obtain ⟨ha1, ha2⟩ := ha
  obtain ⟨hb1, hb2⟩ := hb
  go_enter Try.func59, Try.ntmps59
  go_wp2
  · go_ret2
    exact ⟨ans_out (add_over ha' hb' ‹_›), rfl⟩
  · go_ret2
    have h := add_good ha' hb' ‹_›
    exact ⟨ans_in h (IntWalk.wrap64_in _ h), rfl⟩

set_option maxHeartbeats 400000 in
theorem num_Sub (a b : Int) (w : World) (ha : In64 a) (hb : In64 b) :
    Calls Try.prog 60 #[.int .i64 a, .int .i64 b] w fun e w' => e = .returned (.tuple #[.int .i64 (chkV (a - b)), .int .i64 (chkE (a - b))]) ∧ w = w' := by
  have ha' := ha
  have hb' := hb
  unfold In64 at ha hb
  obtain ⟨ha1, ha2⟩ := ha
  obtain ⟨hb1, hb2⟩ := hb
  go_enter Try.func60, Try.ntmps60
  go_wp2
  · go_ret2
    exact ⟨ans_out (sub_over ha' hb' ‹_›), rfl⟩
  · go_ret2
    have h := sub_good ha' hb' ‹_›
    exact ⟨ans_in h (IntWalk.wrap64_in _ h), rfl⟩

set_option maxHeartbeats 400000 in
theorem num_Neg (a : Int) (w : World) (ha : In64 a) :
    Calls Try.prog 55 #[.int .i64 a] w fun e w' => e = .returned (.tuple #[.int .i64 (chkV (-a)), .int .i64 (chkE (-a))]) ∧ w = w' := by
  unfold In64 at ha
  obtain ⟨ha1, ha2⟩ := ha
  go_enter Try.func55, Try.ntmps55
  go_wp2
  · go_ret2
    rename_i h
    have h' : a = -9223372036854775808 := by simpa using h
    exact ⟨ans_out (by unfold In64; omega), rfl⟩
  · go_ret2
    rename_i h
    have h' : a ≠ -9223372036854775808 := by simpa using h
    have hi : In64 (-a) := by unfold In64; omega
    exact ⟨ans_in hi (by first | exact IntWalk.wrap64_in _ hi | rfl), rfl⟩

set_option maxHeartbeats 400000 in
theorem num_Mul (a b : Int) (w : World) (ha : In64 a) (hb : In64 b) :
    Calls Try.prog 61 #[.int .i64 a, .int .i64 b] w fun e w' => e = .returned (.tuple #[.int .i64 (chkV (a * b)), .int .i64 (chkE (a * b))]) ∧ w = w' := by
  have ha' := ha
  have hb' := hb
  unfold In64 at ha hb
  obtain ⟨ha1, ha2⟩ := ha
  obtain ⟨hb1, hb2⟩ := hb
  by_cases h0 : b = 0
  · subst h0
    go_enter Try.func61, Try.ntmps61
    go_wp2
    go_ret2
    exact ⟨ans_in (by unfold In64; omega) (by omega), rfl⟩
  by_cases h1 : b = -1
  · subst h1
    go_enter Try.func61, Try.ntmps61
    go_wp2_with (go_at_call 55; refine (num_Neg _ _ ha').mono ?_; rintro e w' ⟨rfl, rfl⟩)
    go_ret2
    exact ⟨ans_eq (congrArg chkV (show -a = a * -1 by omega)) (congrArg chkE (show -a = a * -1 by omega)), rfl⟩
  · have e0 : (b == 0) = false := by simpa using h0
    have e1 : (b == -1) = false := by simpa using h1
    go_enter Try.func61, Try.ntmps61
    go_wp2_with fail
    · go_ret2
      exact ⟨ans_out (mul_over ha' h0 ‹_›), rfl⟩
    · go_ret2
      have h := mul_good ha' hb' h0 (fun h => absurd h h1) ‹_›
      exact ⟨ans_in h (IntWalk.wrap64_in _ h), rfl⟩

set_option maxHeartbeats 400000 in
theorem ref_Add (a b : Int) (w : World) (ha : In64 a) (hb : In64 b) :
    Calls Try.prog 15 #[.int .i64 a, .int .i64 b] w fun e w' => e = .returned (.tuple #[.int .i64 (chkV (a + b)), .int .i64 (chkE (a + b))]) ∧ w = w' := by
  unfold In64 at ha hb
  obtain ⟨ha1, ha2⟩ := ha
  obtain ⟨hb1, hb2⟩ := hb
  go_enter Try.func15, Try.ntmps15
  go_wp2
  all_goals
    go_ret2
    first
      | exact ⟨ans_in (by unfold In64; omega) rfl, rfl⟩
      | exact ⟨ans_out (by unfold In64; omega), rfl⟩

set_option maxHeartbeats 400000 in
theorem ref_Sub (a b : Int) (w : World) (ha : In64 a) (hb : In64 b) :
    Calls Try.prog 16 #[.int .i64 a, .int .i64 b] w fun e w' => e = .returned (.tuple #[.int .i64 (chkV (a - b)), .int .i64 (chkE (a - b))]) ∧ w = w' := by
  unfold In64 at ha hb
  obtain ⟨ha1, ha2⟩ := ha
  obtain ⟨hb1, hb2⟩ := hb
  go_enter Try.func16, Try.ntmps16
  go_wp2
  all_goals
    go_ret2
    first
      | exact ⟨ans_in (by unfold In64; omega) rfl, rfl⟩
      | exact ⟨ans_out (by unfold In64; omega), rfl⟩

set_option maxHeartbeats 400000 in
theorem ref_Mul (a b : Int) (w : World) (ha : In64 a) (hb : In64 b) :
    Calls Try.prog 17 #[.int .i64 a, .int .i64 b] w fun e w' => e = .returned (.tuple #[.int .i64 (chkV (a * b)), .int .i64 (chkE (a * b))]) ∧ w = w' := by
  have ha' := ha
  have hb' := hb
  unfold In64 at ha hb
  obtain ⟨ha1, ha2⟩ := ha
  obtain ⟨hb1, hb2⟩ := hb
  by_cases h0 : b = 0
  · subst h0
    go_enter Try.func17, Try.ntmps17
    go_wp2
    all_goals
      go_ret2
      exact ⟨ans_in (by unfold In64; omega) (by omega), rfl⟩
  by_cases g0 : a = 0
  · subst g0
    go_enter Try.func17, Try.ntmps17
    go_wp2
    go_ret2
    exact ⟨ans_in (by unfold In64; omega) (by omega), rfl⟩
  by_cases g1 : a = -1
  · subst g1
    by_cases hl : b = -9223372036854775808
    · subst hl
      go_enter Try.func17, Try.ntmps17
      go_wp2
      go_ret2
      exact ⟨ans_out (by unfold In64; omega), rfl⟩
    · have e0 : (b == 0) = false := by simpa using h0
      have el : (b == -9223372036854775808) = false := by simpa using hl
      go_enter Try.func17, Try.ntmps17
      go_wp2
      all_goals
        go_ret2
        exact ⟨ans_in (by unfold In64; omega) (by omega), rfl⟩
  by_cases h1 : b = -1
  · subst h1
    by_cases hl : a = -9223372036854775808
    · subst hl
      go_enter Try.func17, Try.ntmps17
      go_wp2
      go_ret2
      exact ⟨ans_out (by unfold In64; omega), rfl⟩
    · have e0 : (a == 0) = false := by simpa using g0
      have e1 : (a == -1) = false := by simpa using g1
      have el : (a == -9223372036854775808) = false := by simpa using hl
      have hlo : -9223372036854775807 ≤ a := by omega
      go_enter Try.func17, Try.ntmps17
      go_wp2
      all_goals
        go_ret2
        exact ⟨ans_in (by unfold In64; omega) (by omega), rfl⟩
  · have e0 : (b == 0) = false := by simpa using h0
    have e1 : (a == 0) = false := by simpa using g0
    have e2 : (a == -1) = false := by simpa using g1
    have e3 : (b == -1) = false := by simpa using h1
    go_enter Try.func17, Try.ntmps17
    go_wp2
    · go_ret2
      exact ⟨ans_out (mul_over ha' h0 ‹_›), rfl⟩
    · go_ret2
      have h := mul_good ha' hb' h0 (fun h => absurd h h1) ‹_›
      exact ⟨ans_in h (IntWalk.wrap64_in _ h), rfl⟩
end Go.Proofs.Ytpmohibhdnmjlaa

/-
  The contracts of package num and of the document's own answers: quotients, what is left, signs, sizes, how two compare.
-/
namespace Go.Proofs.Ytpmohibhdnmjlaa
open Go.RowKit

set_option maxHeartbeats 400000 in
theorem num_Quo (a b : Int) (w : World) (ha : In64 a) (hb : In64 b) :
    Calls Try.prog 62 #[.int .i64 a, .int .i64 b] w fun e w' => e = .returned (.tuple #[.int .i64 (quoV a b), .int .i64 (quoE a b)]) ∧ w = w' := by
  have ha' := ha
  have hb' := hb
  unfold In64 at ha hb
  obtain ⟨ha1, ha2⟩ := ha
  obtain ⟨hb1, hb2⟩ := hb
  unfold quoV quoE
  by_cases h0 : b = 0
  · subst h0
    go_enter Try.func62, Try.ntmps62
    go_wp2
    go_ret2
    exact ⟨rfl, rfl⟩
  by_cases h1 : b = -1
  · subst h1
    rw [tdiv_neg1]
    go_enter Try.func62, Try.ntmps62
    go_wp2_with (go_at_call 55; refine (num_Neg _ _ ha').mono ?_; rintro e w' ⟨rfl, rfl⟩)
    go_ret2
    exact ⟨rfl, rfl⟩
  · have e0 : (b == 0) = false := by simpa using h0
    have e1 : (b == -1) = false := by simpa using h1
    have hq := tdiv_in ha' h0 h1
    rw [if_neg h0, if_neg h0]
    go_enter Try.func62, Try.ntmps62
    go_wp2_with fail
    go_ret2
    exact ⟨ans_in hq (by first | exact IntWalk.wrap64_in _ hq | rfl), rfl⟩

set_option maxHeartbeats 400000 in
theorem ref_Quo (a b : Int) (w : World) (ha : In64 a) (hb : In64 b) :
    Calls Try.prog 18 #[.int .i64 a, .int .i64 b] w fun e w' => e = .returned (.tuple #[.int .i64 (quoV a b), .int .i64 (quoE a b)]) ∧ w = w' := by
  have ha' := ha
  have hb' := hb
  unfold In64 at ha hb
  obtain ⟨ha1, ha2⟩ := ha
  obtain ⟨hb1, hb2⟩ := hb
  unfold quoV quoE
  by_cases h0 : b = 0
  · subst h0
    go_enter Try.func18, Try.ntmps18
    go_wp2
    go_ret2
    exact ⟨rfl, rfl⟩
  by_cases h1 : b = -1
  · subst h1
    rw [tdiv_neg1, if_neg (by decide), if_neg (by decide)]
    by_cases hl : a = -9223372036854775808
    · subst hl
      go_enter Try.func18, Try.ntmps18
      go_wp2
      go_ret2
      exact ⟨ans_out (by unfold In64; omega), rfl⟩
    · have el : (a == -9223372036854775808) = false := by simpa using hl
      have hlo : -9223372036854775807 ≤ a := by omega
      go_enter Try.func18, Try.ntmps18
      go_wp2
      go_ret2
      exact ⟨ans_in (by unfold In64; omega) (by omega), rfl⟩
  · have e0 : (b == 0) = false := by simpa using h0
    have e1 : (b == -1) = false := by simpa using h1
    have hq := tdiv_in ha' h0 h1
    rw [if_neg h0, if_neg h0]
    go_enter Try.func18, Try.ntmps18
    go_wp2_with fail
    · go_ret2
      rename_i h
      exact ⟨ans_in hq (by subst h; rw [← Int.neg_tdiv]; exact IntWalk.wrap64_in _ hq), rfl⟩
    · go_ret2
      exact ⟨ans_in hq (by exact IntWalk.wrap64_in _ hq), rfl⟩

set_option maxHeartbeats 400000 in
theorem num_Rem (a b : Int) (w : World) (ha : In64 a) (hb : In64 b) :
    Calls Try.prog 63 #[.int .i64 a, .int .i64 b] w fun e w' => e = .returned (.tuple #[.int .i64 (remV a b), .int .i64 (zeroE b)]) ∧ w = w' := by
  have ha' := ha
  have hb' := hb
  unfold In64 at ha hb
  obtain ⟨ha1, ha2⟩ := ha
  obtain ⟨hb1, hb2⟩ := hb
  unfold remV zeroE
  by_cases h0 : b = 0
  · subst h0
    go_enter Try.func63, Try.ntmps63
    go_wp2
    go_ret2
    exact ⟨rfl, rfl⟩
  rw [if_neg h0, if_neg h0]
  by_cases h1 : b = -1
  · subst h1
    rw [tmod_neg1]
    go_enter Try.func63, Try.ntmps63
    go_wp2
    go_ret2
    exact ⟨rfl, rfl⟩
  · have e0 : (b == 0) = false := by simpa using h0
    have e1 : (b == -1) = false := by simpa using h1
    have hq := tmod_in (a := a) hb' h0
    go_enter Try.func63, Try.ntmps63
    go_wp2_with fail
    go_ret2
    exact ⟨ans_eq (by first | exact IntWalk.wrap64_in _ hq | rfl) rfl, rfl⟩

set_option maxHeartbeats 400000 in
theorem ref_Rem (a b : Int) (w : World) (ha : In64 a) (hb : In64 b) :
    Calls Try.prog 19 #[.int .i64 a, .int .i64 b] w fun e w' => e = .returned (.tuple #[.int .i64 (remV a b), .int .i64 (zeroE b)]) ∧ w = w' := by
  have ha' := ha
  have hb' := hb
  unfold In64 at ha hb
  obtain ⟨ha1, ha2⟩ := ha
  obtain ⟨hb1, hb2⟩ := hb
  unfold remV zeroE
  by_cases h0 : b = 0
  · subst h0
    go_enter Try.func19, Try.ntmps19
    go_wp2
    go_ret2
    exact ⟨rfl, rfl⟩
  rw [if_neg h0, if_neg h0]
  by_cases h1 : b = -1
  · subst h1
    rw [tmod_neg1]
    go_enter Try.func19, Try.ntmps19
    go_wp2
    go_ret2
    exact ⟨rfl, rfl⟩
  · have e0 : (b == 0) = false := by simpa using h0
    have e1 : (b == -1) = false := by simpa using h1
    have hq := tmod_in (a := a) hb' h0
    go_enter Try.func19, Try.ntmps19
    go_wp2_with fail
    go_ret2
    exact ⟨ans_eq (by first | exact IntWalk.wrap64_in _ hq | rfl) rfl, rfl⟩

set_option maxHeartbeats 400000 in
theorem num_Mod (a b : Int) (w : World) (ha : In64 a) (hb : In64 b) :
    Calls Try.prog 64 #[.int .i64 a, .int .i64 b] w fun e w' => e = .returned (.tuple #[.int .i64 (modV a b), .int .i64 (zeroE b)]) ∧ w = w' := by
  have ha' := ha
  have hb' := hb
  unfold In64 at ha hb
  obtain ⟨ha1, ha2⟩ := ha
  obtain ⟨hb1, hb2⟩ := hb
  by_cases h0 : b = 0
  · subst h0
    go_enter Try.func64, Try.ntmps64
    go_wp2_with (go_at_call 63; refine (num_Rem _ _ _ ha' hb').mono ?_; rintro e w' ⟨rfl, rfl⟩; rw [show zeroE 0 = 11 from rfl])
    go_ret2
    exact ⟨rfl, rfl⟩
  · have hr := tmod_in (a := a) hb' h0
    have e1 : remV a b = a.tmod b := if_neg h0
    have e2 : zeroE b = 0 := if_neg h0
    have e3 : modV a b = adj (a.tmod b) b := if_neg h0
    have hR := num_Rem a b w ha' hb'
    rw [e3, e2]
    rw [e1, e2] at hR
    clear e1 e2 e3
    have HR := Lib.hid hR
    clear hR
    have hrl := hr
    unfold In64 at hrl
    obtain ⟨hr1, hr2⟩ := hrl
    generalize a.tmod b = r at *
    go_enter Try.func64, Try.ntmps64
    go_wp2_with (go_at_call 63; refine HR.out.mono ?_; rintro e w' ⟨rfl, rfl⟩)
    · go_ret2
      rename_i h
      exact ⟨ans_eq (by rw [h, adj_zero]) rfl, rfl⟩
    · go_ret2
      have h := adj_yes ‹_›
      exact ⟨ans_eq (by rw [h]; exact IntWalk.wrap64_in _ (by rw [← h]; exact adj_in hr hb')) rfl, rfl⟩
    · go_ret2
      have h := adj_no ‹_›
      exact ⟨ans_eq (by rw [h]) rfl, rfl⟩

set_option maxHeartbeats 400000 in
theorem ref_Mod (a b : Int) (w : World) (ha : In64 a) (hb : In64 b) :
    Calls Try.prog 20 #[.int .i64 a, .int .i64 b] w fun e w' => e = .returned (.tuple #[.int .i64 (modV a b), .int .i64 (zeroE b)]) ∧ w = w' := by
  have ha' := ha
  have hb' := hb
  unfold In64 at ha hb
  obtain ⟨ha1, ha2⟩ := ha
  obtain ⟨hb1, hb2⟩ := hb
  by_cases h0 : b = 0
  · subst h0
    go_enter Try.func20, Try.ntmps20
    go_wp2_with (go_at_call 19; refine (ref_Rem _ _ _ ha' hb').mono ?_; rintro e w' ⟨rfl, rfl⟩; rw [show zeroE 0 = 11 from rfl])
    go_ret2
    exact ⟨rfl, rfl⟩
  · have hr := tmod_in (a := a) hb' h0
    have e1 : remV a b = a.tmod b := if_neg h0
    have e2 : zeroE b = 0 := if_neg h0
    have e3 : modV a b = adj (a.tmod b) b := if_neg h0
    have hR := ref_Rem a b w ha' hb'
    rw [e3, e2]
    rw [e1, e2] at hR
    clear e1 e2 e3
    have HR := Lib.hid hR
    clear hR
    have hrl := hr
    unfold In64 at hrl
    obtain ⟨hr1, hr2⟩ := hrl
    generalize a.tmod b = r at *
    go_enter Try.func20, Try.ntmps20
    go_wp2_with (go_at_call 19; refine HR.out.mono ?_; rintro e w' ⟨rfl, rfl⟩)
    · go_ret2
      rename_i h
      exact ⟨ans_eq (by rw [h, adj_zero]) rfl, rfl⟩
    · go_ret2
      have h := adj_yes ‹_›
      exact ⟨ans_eq (by rw [h]; exact IntWalk.wrap64_in _ (by rw [← h]; exact adj_in hr hb')) rfl, rfl⟩
    · go_ret2
      have h := adj_no ‹_›
      exact ⟨ans_eq (by rw [h]) rfl, rfl⟩

set_option maxHeartbeats 400000 in
theorem ref_Neg (a : Int) (w : World) (ha : In64 a) :
    Calls Try.prog 43 #[.int .i64 a] w fun e w' => e = .returned (.tuple #[.int .i64 (chkV (-a)), .int .i64 (chkE (-a))]) ∧ w = w' := by
  go_enter Try.func43, Try.ntmps43
  go_wp2_with (go_at_call 16; refine (ref_Sub _ _ _ (by unfold In64; omega) ha).mono ?_; rintro e w' ⟨rfl, rfl⟩; rw [show 0 - a = -a by omega])
  go_ret2
  exact ⟨rfl, rfl⟩

/-- A number's size. -/
def absI (a : Int) : Int := if 0 ≤ a then a else -a

set_option maxHeartbeats 400000 in
theorem num_Abs (a : Int) (w : World) (ha : In64 a) :
    Calls Try.prog 56 #[.int .i64 a] w fun e w' => e = .returned (.tuple #[.int .i64 (chkV (absI a)), .int .i64 (chkE (absI a))]) ∧ w = w' := by
  unfold absI
  by_cases h : 0 ≤ a
  · rw [if_pos h]
    go_enter Try.func56, Try.ntmps56
    go_wp2
    go_ret2
    exact ⟨ans_in ha rfl, rfl⟩
  · rw [if_neg h]
    go_enter Try.func56, Try.ntmps56
    go_wp2_with (go_at_call 55; refine (num_Neg _ _ ha).mono ?_; rintro e w' ⟨rfl, rfl⟩)
    go_ret2
    exact ⟨rfl, rfl⟩

set_option maxHeartbeats 400000 in
theorem ref_Abs (a : Int) (w : World) (ha : In64 a) :
    Calls Try.prog 44 #[.int .i64 a] w fun e w' => e = .returned (.tuple #[.int .i64 (chkV (absI a)), .int .i64 (chkE (absI a))]) ∧ w = w' := by
  unfold absI
  by_cases h : 0 ≤ a
  · rw [if_pos h]
    go_enter Try.func44, Try.ntmps44
    go_wp2
    go_ret2
    exact ⟨ans_in ha rfl, rfl⟩
  · rw [if_neg h]
    go_enter Try.func44, Try.ntmps44
    go_wp2_with (go_at_call 43; refine (ref_Neg _ _ ha).mono ?_; rintro e w' ⟨rfl, rfl⟩)
    go_ret2
    exact ⟨rfl, rfl⟩

set_option maxHeartbeats 400000 in
theorem num_Cmp (a b : Int) (w : World) :
    Calls Try.prog 30 #[.int .i64 a, .int .i64 b] w fun e w' => e = .returned (.int .i64 (cmpV a b)) ∧ w = w' := by
  go_enter Try.func30, Try.ntmps30
  go_wp2
  all_goals
    go_ret
    refine ⟨ret_int ?_, rfl⟩
    unfold cmpV
    split <;> (try split) <;> (first | rfl | (exfalso; omega))

set_option maxHeartbeats 400000 in
theorem ref_Cmp (a b : Int) (w : World) :
    Calls Try.prog 54 #[.int .i64 a, .int .i64 b] w fun e w' => e = .returned (.int .i64 (cmpV a b)) ∧ w = w' := by
  go_enter Try.func54, Try.ntmps54
  go_wp2
  all_goals
    go_ret
    refine ⟨ret_int ?_, rfl⟩
    unfold cmpV
    split <;> (try split) <;> (first | rfl | (exfalso; omega))

set_option maxHeartbeats 400000 in
theorem num_Sign (a : Int) (w : World) :
    Calls Try.prog 58 #[.int .i64 a] w fun e w' => e = .returned (.int .i64 (cmpV a 0)) ∧ w = w' := by
  have h := cmpV_bd a 0
  obtain ⟨h1, h2⟩ := h
  go_enter Try.func58, Try.ntmps58
  go_wp2_with (go_at_call 30; refine (num_Cmp _ _ _).mono ?_; rintro e w' ⟨rfl, rfl⟩)
  go_ret
  exact ⟨rfl, rfl⟩

set_option maxHeartbeats 400000 in
theorem ref_Sign (a : Int) (w : World) :
    Calls Try.prog 45 #[.int .i64 a] w fun e w' => e = .returned (.int .i64 (cmpV a 0)) ∧ w = w' := by
  have h := cmpV_bd a 0
  obtain ⟨h1, h2⟩ := h
  go_enter Try.func45, Try.ntmps45
  go_wp2_with (go_at_call 54; refine (ref_Cmp _ _ _).mono ?_; rintro e w' ⟨rfl, rfl⟩)
  go_ret
  exact ⟨rfl, rfl⟩

end Go.Proofs.Ytpmohibhdnmjlaa

/-
  Joined texts: NumDigits, NumReads, NumBackM, NumRefs.
-/

/-
  Plain mathematics for package num: a text of digits as a number, and a number's digits; no program in it. Proved: how the number grows by a digit, which texts are numbers, and that a number's own text is read as that number, with noughts ahead too.
-/
namespace Go.Proofs.Ytpmohibhdnmjlaa
open Go.RowKit

def isDig (c : UInt8) : Bool := decide (48 ≤ c.toNat ∧ c.toNat ≤ 57)
def val (l : List UInt8) : Int := l.foldl (fun n c => 10 * n + ((c.toNat : Int) - 48)) 0
def body : List UInt8 → List UInt8
  | [] => []
  | c :: t => if c.toNat = 45 then t else c :: t
def neg : List UInt8 → Bool
  | [] => false
  | c :: _ => decide (c.toNat = 45)
/-- The number that a text of digits is. -/
def readN (l : List UInt8) : Int := if neg l then -(val (body l)) else val (body l)
def readV (l : List UInt8) : Int := if body l = [] ∨ (body l).all isDig = false then 0 else chkV (readN l)
def readE (l : List UInt8) : Int := if body l = [] ∨ (body l).all isDig = false then 20 else chkE (readN l)

theorem val_snoc (l : List UInt8) (c : UInt8) : val (l ++ [c]) = 10 * val l + ((c.toNat : Int) - 48) := by
  unfold val
  rw [List.foldl_append]
  rfl
theorem isDig_iff (c : UInt8) : isDig c = true ↔ 48 ≤ c.toNat ∧ c.toNat ≤ 57 := by unfold isDig; simp
theorem isDig_not (c : UInt8) : isDig c = false ↔ c.toNat < 48 ∨ 57 < c.toNat := by unfold isDig; simp; omega
theorem val_foldl_nonneg : ∀ (l : List UInt8) (n : Int), 0 ≤ n → l.all isDig = true → 0 ≤ l.foldl (fun n c => 10 * n + ((c.toNat : Int) - 48)) n
  | [], n, h, _ => h
  | c :: t, n, h, ha => by
    rw [List.all_cons, Bool.and_eq_true] at ha
    have hc := (isDig_iff c).1 ha.1
    exact val_foldl_nonneg t (10 * n + ((c.toNat : Int) - 48)) (by omega) ha.2
theorem val_nonneg {l : List UInt8} (h : l.all isDig = true) : 0 ≤ val l := val_foldl_nonneg l 0 (Int.le_refl 0) h

theorem body_snoc (p : List UInt8) (c : UInt8) (h : p = [] → c.toNat ≠ 45) : body (p ++ [c]) = body p ++ [c] ∧ neg (p ++ [c]) = neg p := by
  cases p with
  | nil =>
    have := h rfl
    constructor
    · show (if c.toNat = 45 then [] else [c]) = [c]
      rw [if_neg this]
    · show decide (c.toNat = 45) = false
      simpa using this
  | cons x t =>
    constructor
    · show (if x.toNat = 45 then t ++ [c] else x :: (t ++ [c])) = (if x.toNat = 45 then t else x :: t) ++ [c]
      split <;> rfl
    · rfl
theorem body_bad (p t : List UInt8) (c : UInt8) (hc : isDig c = false) (h : p = [] → c.toNat ≠ 45) : (body (p ++ c :: t)).all isDig = false := by
  cases p with
  | nil =>
    have := h rfl
    show (if c.toNat = 45 then t else c :: t).all isDig = false
    rw [if_neg this, List.all_cons, hc, Bool.false_and]
  | cons x q =>
    show (if x.toNat = 45 then q ++ c :: t else x :: (q ++ c :: t)).all isDig = false
    split <;> simp [List.all_append, hc]

/-- What Read holds behind the part p of a text: its number, not above 0, and an error's number. -/
def St (p : List UInt8) (n e : Int) : Prop :=
  (body p).all isDig = true ∧ ((e = 0 ∧ n = -(val (body p)) ∧ In64 n) ∨ (e = 10 ∧ n = 0 ∧ ¬ In64 (-(val (body p)))))
theorem St_start : St [] 0 0 := ⟨rfl, .inl ⟨rfl, rfl, by unfold In64; omega⟩⟩
theorem St_nil {m k : Int} (h : St [] m k) : m = 0 ∧ k = 0 := by
  obtain ⟨_, ⟨he, hn, _⟩ | ⟨_, _, hi⟩⟩ := h
  · exact ⟨hn, he⟩
  · exact absurd (show In64 (-(val (body []))) by show In64 0; unfold In64; omega) hi
theorem St_neg (c : UInt8) (h : c.toNat = 45) : St [c] 0 0 := by
  have e : body [c] = [] := by show (if c.toNat = 45 then [] else [c]) = []; rw [if_pos h]
  refine ⟨by rw [e]; rfl, .inl ⟨rfl, ?_, by unfold In64; omega⟩⟩
  rw [e]
  rfl
theorem body_minus (c : UInt8) (h : c.toNat = 45) : body [c] = [] ∧ neg [c] = true :=
  ⟨by show (if c.toNat = 45 then [] else [c]) = []; rw [if_pos h], by show decide (c.toNat = 45) = true; simpa using h⟩
/-- One digit more, while it is not over. -/
theorem St_step {p : List UInt8} {n : Int} {c : UInt8} (h : St p n 0) (hc : isDig c = true) : St (p ++ [c]) (chkV (n * 10 - ((c.toNat : Int) - 48))) (chkE (n * 10 - ((c.toNat : Int) - 48))) := by
  obtain ⟨ha, ⟨_, hn, hi⟩ | ⟨he, _⟩⟩ := h
  · have hd := (isDig_iff c).1 hc
    obtain ⟨e1, _⟩ := body_snoc p c (fun _ => by omega)
    have hx : n * 10 - ((c.toNat : Int) - 48) = -(val (body (p ++ [c]))) := by rw [e1, val_snoc, hn]; omega
    refine ⟨by rw [e1, List.all_append, ha]; simp [hc], ?_⟩
    rw [hx]
    by_cases h : In64 (-(val (body (p ++ [c]))))
    · exact .inl ⟨chkE_in h, chkV_in h, by rw [chkV_in h]; exact h⟩
    · exact .inr ⟨chkE_out h, chkV_out h, h⟩
  · exact absurd he (by decide)
theorem St_over {p : List UInt8} {n : Int} {c : UInt8} (h : St p n 10) (hc : isDig c = true) : St (p ++ [c]) n 10 := by
  obtain ⟨ha, ⟨he, _⟩ | ⟨_, hn, hi⟩⟩ := h
  · exact absurd he (by decide)
  · have hd := (isDig_iff c).1 hc
    obtain ⟨e1, _⟩ := body_snoc p c (fun _ => by omega)
    have h0 := val_nonneg ha
    refine ⟨by rw [e1, List.all_append, ha]; simp [hc], .inr ⟨rfl, hn, ?_⟩⟩
    rw [e1, val_snoc]
    unfold In64 at *
    omega
theorem St_e {p : List UInt8} {n e : Int} (h : St p n e) : e = 0 ∨ e = 10 := by
  obtain ⟨_, ⟨he, _⟩ | ⟨he, _⟩⟩ := h
  · exact .inl he
  · exact .inr he
theorem St_n {p : List UInt8} {n : Int} (h : St p n 0) : In64 n ∧ n ≤ 0 := by
  obtain ⟨ha, ⟨_, hn, hi⟩ | ⟨he, _⟩⟩ := h
  · exact ⟨hi, by have := val_nonneg ha; omega⟩
  · exact absurd he (by decide)

/-! ### What Read answers -/
theorem read_bad {l : List UInt8} (h : body l = [] ∨ (body l).all isDig = false) : readV l = 0 ∧ readE l = 20 := ⟨if_pos h, if_pos h⟩
theorem read_good {l : List UInt8} (h0 : body l ≠ []) (h : (body l).all isDig = true) : readV l = chkV (readN l) ∧ readE l = chkE (readN l) := by
  have : ¬ (body l = [] ∨ (body l).all isDig = false) := by simp [h0, h]
  exact ⟨if_neg this, if_neg this⟩
theorem read_over {l : List UInt8} {n : Int} (h0 : body l ≠ []) (h : St l n 10) : readV l = 0 ∧ readE l = 10 := by
  obtain ⟨ha, ⟨he, _⟩ | ⟨_, hn, hi⟩⟩ := h
  · exact absurd he (by decide)
  · have hx := val_nonneg ha
    have ho : ¬ In64 (readN l) := by
      unfold readN In64 at *
      split <;> omega
    rw [(read_good h0 ha).1, (read_good h0 ha).2, chkV_out ho, chkE_out ho]
    exact ⟨rfl, rfl⟩
theorem read_neg {l : List UInt8} {n : Int} (h0 : body l ≠ []) (h : St l n 0) (hn : neg l = true) : readV l = n ∧ readE l = 0 := by
  obtain ⟨ha, ⟨_, e, hi⟩ | ⟨he, _⟩⟩ := h
  · have : readN l = n := by unfold readN; rw [if_pos hn, e]
    rw [(read_good h0 ha).1, (read_good h0 ha).2, this, chkV_in hi, chkE_in hi]
    exact ⟨rfl, rfl⟩
  · exact absurd he (by decide)
theorem read_pos {l : List UInt8} {n : Int} (h0 : body l ≠ []) (h : St l n 0) (hn : neg l = false) : readV l = chkV (-n) ∧ readE l = chkE (-n) := by
  obtain ⟨ha, ⟨_, e, hi⟩ | ⟨he, _⟩⟩ := h
  · have : readN l = -n := by unfold readN; rw [hn, e]; simp
    rw [(read_good h0 ha).1, (read_good h0 ha).2, this]
    exact ⟨rfl, rfl⟩
  · exact absurd he (by decide)
end Go.Proofs.Ytpmohibhdnmjlaa

/-
  The contracts of num.Read and num.lay: what a text of any bytes is read as.
-/
namespace Go.Proofs.Ytpmohibhdnmjlaa
open Go.RowKit

theorem take_snoc (s : ByteArray) (k : Nat) (h : k < s.size) : s.data.toList.take (k + 1) = s.data.toList.take k ++ [s[k]] := by
  rw [List.take_succ_eq_append_getElem (by simpa using h)]; rfl
theorem take_drop (s : ByteArray) (k : Nat) (h : k < s.size) : s.data.toList = s.data.toList.take k ++ s[k] :: s.data.toList.drop (k + 1) := by
  have h1 : s.data.toList.drop k = s[k] :: s.data.toList.drop (k + 1) := List.drop_eq_getElem_cons (by simpa using h)
  rw [← h1, List.take_append_drop]
theorem take_nil (s : ByteArray) (k : Nat) (h : k < s.size) : s.data.toList.take k = [] ↔ k = 0 := by
  have : s.data.toList.length = s.size := by simp
  rw [List.take_eq_nil_iff]
  constructor
  · rintro (h1 | h1)
    · exact h1
    · rw [h1] at this
      have h2 : ([] : List UInt8).length = 0 := rfl
      omega
  · exact .inl

theorem bool_of (b : Bool) (p : List UInt8) (h : neg p = b) : Value.bool b = Value.bool (neg p) := by rw [h]

end Go.Proofs.Ytpmohibhdnmjlaa

/-
  Plain mathematics: a number's own text is read as that number, with noughts ahead too; no program in it.
-/
namespace Go.Proofs.Ytpmohibhdnmjlaa
open Go.RowKit

theorem ofNat_toNat (k : Nat) (h : k ≤ 9) : (UInt8.ofNat (48 + k)).toNat = 48 + k := by
  rw [UInt8.toNat_ofNat']
  omega
theorem dig_isDig (k : Nat) (h : k ≤ 9) : isDig (UInt8.ofNat (48 + k)) = true := by
  rw [isDig_iff, ofNat_toNat k h]
  omega
theorem decDigits_all (u : Nat) : (Lib.decDigits u).all isDig = true := by
  induction u using Nat.strongRecOn with
  | _ u ih =>
    rw [Lib.decDigits]
    split
    · rw [List.all_cons, dig_isDig u (by omega), List.all_nil]
      rfl
    · rw [List.all_append, ih (u / 10) (by omega), List.all_cons, dig_isDig (u % 10) (by omega), List.all_nil]
      rfl
theorem decDigits_val (u : Nat) : val (Lib.decDigits u) = u := by
  induction u using Nat.strongRecOn with
  | _ u ih =>
    rw [Lib.decDigits]
    split
    · show 10 * 0 + (((UInt8.ofNat (48 + u)).toNat : Int) - 48) = u
      rw [ofNat_toNat u (by omega)]
      omega
    · rw [val_snoc, ih (u / 10) (by omega), ofNat_toNat (u % 10) (by omega)]
      omega
theorem decDigits_ne (u : Nat) : Lib.decDigits u ≠ [] := by
  rw [Lib.decDigits]
  split <;> simp
theorem val_zeros (l : List UInt8) : val (48 :: l) = val l := rfl

theorem body_dig {l : List UInt8} (h : l.all isDig = true) : body l = l ∧ neg l = false := by
  cases l with
  | nil => exact ⟨rfl, rfl⟩
  | cons c t =>
    rw [List.all_cons, Bool.and_eq_true] at h
    have := (isDig_iff c).1 h.1
    constructor
    · show (if c.toNat = 45 then t else c :: t) = c :: t
      rw [if_neg (by omega)]
    · show decide (c.toNat = 45) = false
      simp
      omega
theorem body_neg (l : List UInt8) : body (45 :: l) = l ∧ neg (45 :: l) = true := ⟨rfl, rfl⟩

/-- A text of digits, not negative. -/
theorem read_digits {l : List UInt8} {a : Int} (h : l.all isDig = true) (hn : l ≠ []) (hv : val l = a) (ha : In64 a) : readV l = a ∧ readE l = 0 := by
  obtain ⟨h1, h2⟩ := body_dig h
  have hr : readN l = a := by unfold readN; rw [h2, h1, hv]; rfl
  have hg := read_good (l := l) (by rw [h1]; exact hn) (by rw [h1]; exact h)
  rw [hg.1, hg.2, hr, chkV_in ha, chkE_in ha]
  exact ⟨rfl, rfl⟩
theorem read_minus {l : List UInt8} {a : Int} (h : l.all isDig = true) (hn : l ≠ []) (hv : -(val l) = a) (ha : In64 a) : readV (45 :: l) = a ∧ readE (45 :: l) = 0 := by
  have hr : readN (45 :: l) = a := by unfold readN; rw [(body_neg l).1, (body_neg l).2, if_pos rfl, hv]
  have hg := read_good (l := 45 :: l) (by rw [(body_neg l).1]; exact hn) (by rw [(body_neg l).1]; exact h)
  rw [hg.1, hg.2, hr, chkV_in ha, chkE_in ha]
  exact ⟨rfl, rfl⟩

theorem itoa_pos (a : Int) (h : 0 ≤ a) : Lib.itoa a = Lib.decDigits a.toNat := by
  obtain ⟨u, rfl⟩ := Int.eq_ofNat_of_zero_le h
  exact Lib.itoa_nonneg u
theorem itoa_neg' (a : Int) (h : a < 0) : Lib.itoa a = 45 :: Lib.decDigits (-a).toNat := by
  obtain ⟨u, hu⟩ := Int.eq_ofNat_of_zero_le (show 0 ≤ -a by omega)
  have : a = -(u : Int) := by omega
  rw [this, Lib.itoa_neg u (by omega)]
  simp
theorem read_itoa (a : Int) (ha : In64 a) : readV (Lib.itoa a) = a ∧ readE (Lib.itoa a) = 0 := by
  by_cases h : 0 ≤ a
  · rw [itoa_pos a h]
    exact read_digits (decDigits_all _) (decDigits_ne _) (by rw [decDigits_val]; omega) ha
  · rw [itoa_neg' a (by omega)]
    exact read_minus (decDigits_all _) (decDigits_ne _) (by rw [decDigits_val]; omega) ha
theorem read_noughts (a : Int) (ha : In64 a) (h : 0 ≤ a) : readV (48 :: 48 :: Lib.itoa a) = a ∧ readE (48 :: 48 :: Lib.itoa a) = 0 := by
  rw [itoa_pos a h]
  exact read_digits (by simp [decDigits_all]; decide) (by simp) (by rw [val_zeros, val_zeros, decDigits_val]; omega) ha
theorem read_noughts_neg (a : Int) (ha : In64 a) (h : a < 0) : readV (45 :: 48 :: 48 :: (Lib.itoa a).tail) = a ∧ readE (45 :: 48 :: 48 :: (Lib.itoa a).tail) = 0 := by
  rw [itoa_neg' a h]
  exact read_minus (by simp [decDigits_all]; decide) (by simp) (by rw [val_zeros, val_zeros, List.tail_cons, decDigits_val]; omega) ha
end Go.Proofs.Ytpmohibhdnmjlaa

/-
  The contracts of the document's own answers for texts: digits, Text and Read of spinneyref01.
-/
namespace Go.Proofs.Ytpmohibhdnmjlaa
open Go.RowKit

theorem app1 (l : List UInt8) (c : UInt8) : (⟨l.toArray⟩ ++ ⟨#[c]⟩ : ByteArray) = ⟨(l ++ [c]).toArray⟩ := by
  apply ByteArray.ext
  simp [ByteArray.data_append]

theorem app45 (l : List UInt8) : (⟨#[45]⟩ ++ ⟨l.toArray⟩ : ByteArray) = ⟨(45 :: l).toArray⟩ := by
  apply ByteArray.ext
  simp [ByteArray.data_append]

end Go.Proofs.Ytpmohibhdnmjlaa
