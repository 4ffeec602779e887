/-
  The contracts of package num and of the document's own answers: what each call returns, for all numbers of 64 bits.
-/
import Derived.Test.YtglaoacdenecfaaDoorChecked
import Derived.Test.YtglaoacdenecfaaDoorNumPlain
import Derived.WalkKit
import Derived.WalkSpells
import Derived.Lib.Hide
namespace Go.Proofs.YtglaoacdenecfaaDoor
open Go.RowKit

theorem ans_in {x v : Int} (hx : In64 x) (hv : v = x) : Ending.returned (.tuple #[.int .i64 v, .int .i64 0]) = .returned (.tuple #[.int .i64 (chkV x), .int .i64 (chkE x)]) := by
  rw [chkV_in hx, chkE_in hx, hv]
theorem ans_out {x : Int} (hx : ¬ In64 x) : Ending.returned (.tuple #[.int .i64 0, .int .i64 10]) = .returned (.tuple #[.int .i64 (chkV x), .int .i64 (chkE x)]) := by
  rw [chkV_out hx, chkE_out hx]
theorem ans_eq {v e v' e' : Int} (hv : v = v') (he : e = e') : Ending.returned (.tuple #[.int .i64 v, .int .i64 e]) = .returned (.tuple #[.int .i64 v', .int .i64 e']) := by
  rw [hv, he]
theorem ret_int {a b : Int} (h : a = b) : Ending.returned (.int .i64 a) = .returned (.int .i64 b) := by rw [h]

set_option maxHeartbeats 400000 in
theorem num_Sub (a b : Int) (w : World) (ha : In64 a) (hb : In64 b) :
    Calls Tryd.prog 71 #[.int .i64 a, .int .i64 b] w fun e w' => e = .returned (.tuple #[.int .i64 (chkV (a - b)), .int .i64 (chkE (a - b))]) ∧ w = w' := by
  have ha' := ha
  have hb' := hb
  unfold In64 at ha hb
  obtain ⟨ha1, ha2⟩ := ha
  obtain ⟨hb1, hb2⟩ := hb
  go_enter Tryd.func71, Tryd.ntmps71
  go_wp2
  · go_ret2
    exact ⟨ans_out (sub_over ha' hb' ‹_›), rfl⟩
  · go_ret2
    have h := sub_good ha' hb' ‹_›
    exact ⟨ans_in h (IntWalk.wrap64_in _ h), rfl⟩

set_option maxHeartbeats 400000 in
theorem num_Neg (a : Int) (w : World) (ha : In64 a) :
    Calls Tryd.prog 61 #[.int .i64 a] w fun e w' => e = .returned (.tuple #[.int .i64 (chkV (-a)), .int .i64 (chkE (-a))]) ∧ w = w' := by
  unfold In64 at ha
  obtain ⟨ha1, ha2⟩ := ha
  go_enter Tryd.func61, Tryd.ntmps61
  go_wp2
  · go_ret2
    rename_i h
    have h' : a = -9223372036854775808 := by simpa using h
    exact ⟨ans_out (by unfold In64; omega), rfl⟩
  · go_ret2
    rename_i h
    have h' : a ≠ -9223372036854775808 := by simpa using h
    have hi : In64 (-a) := by unfold In64; omega
    exact ⟨ans_in hi (by first | exact IntWalk.wrap64_in _ hi | rfl), rfl⟩

set_option maxHeartbeats 400000 in
theorem num_Mul (a b : Int) (w : World) (ha : In64 a) (hb : In64 b) :
    Calls Tryd.prog 70 #[.int .i64 a, .int .i64 b] w fun e w' => e = .returned (.tuple #[.int .i64 (chkV (a * b)), .int .i64 (chkE (a * b))]) ∧ w = w' := by
  have ha' := ha
  have hb' := hb
  unfold In64 at ha hb
  obtain ⟨ha1, ha2⟩ := ha
  obtain ⟨hb1, hb2⟩ := hb
  by_cases h0 : b = 0
  · subst h0
    go_enter Tryd.func70, Tryd.ntmps70
    go_wp2
    go_ret2
    exact ⟨ans_in (by unfold In64; omega) (by omega), rfl⟩
  by_cases h1 : b = -1
  · subst h1
    go_enter Tryd.func70, Tryd.ntmps70
    go_wp2_with (go_at_call 61; refine (num_Neg _ _ ha').mono ?_; rintro e w' ⟨rfl, rfl⟩)
    go_ret2
    exact ⟨ans_eq (congrArg chkV (show -a = a * -1 by omega)) (congrArg chkE (show -a = a * -1 by omega)), rfl⟩
  · have e0 : (b == 0) = false := by simpa using h0
    have e1 : (b == -1) = false := by simpa using h1
    go_enter Tryd.func70, Tryd.ntmps70
    go_wp2_with fail
    · go_ret2
      exact ⟨ans_out (mul_over ha' h0 ‹_›), rfl⟩
    · go_ret2
      have h := mul_good ha' hb' h0 (fun h => absurd h h1) ‹_›
      exact ⟨ans_in h (IntWalk.wrap64_in _ h), rfl⟩

set_option maxHeartbeats 400000 in
theorem ref_Sub (a b : Int) (w : World) (ha : In64 a) (hb : In64 b) :
    Calls Tryd.prog 66 #[.int .i64 a, .int .i64 b] w fun e w' => e = .returned (.tuple #[.int .i64 (chkV (a - b)), .int .i64 (chkE (a - b))]) ∧ w = w' := by
  unfold In64 at ha hb
  obtain ⟨ha1, ha2⟩ := ha
  obtain ⟨hb1, hb2⟩ := hb
  go_enter Tryd.func66, Tryd.ntmps66
  go_wp2
  all_goals
    go_ret2
    first
      | exact ⟨ans_in (by unfold In64; omega) rfl, rfl⟩
      | exact ⟨ans_out (by unfold In64; omega), rfl⟩

set_option maxHeartbeats 400000 in
theorem ref_Mul (a b : Int) (w : World) (ha : In64 a) (hb : In64 b) :
    Calls Tryd.prog 65 #[.int .i64 a, .int .i64 b] w fun e w' => e = .returned (.tuple #[.int .i64 (chkV (a * b)), .int .i64 (chkE (a * b))]) ∧ w = w' := by
  have ha' := ha
  have hb' := hb
  unfold In64 at ha hb
  obtain ⟨ha1, ha2⟩ := ha
  obtain ⟨hb1, hb2⟩ := hb
  by_cases h0 : b = 0
  · subst h0
    go_enter Tryd.func65, Tryd.ntmps65
    go_wp2
    all_goals
      go_ret2
      exact ⟨ans_in (by unfold In64; omega) (by omega), rfl⟩
  by_cases g0 : a = 0
  · subst g0
    go_enter Tryd.func65, Tryd.ntmps65
    go_wp2
    go_ret2
    exact ⟨ans_in (by unfold In64; omega) (by omega), rfl⟩
  by_cases g1 : a = -1
  · subst g1
    by_cases hl : b = -9223372036854775808
    · subst hl
      go_enter Tryd.func65, Tryd.ntmps65
      go_wp2
      go_ret2
      exact ⟨ans_out (by unfold In64; omega), rfl⟩
    · have e0 : (b == 0) = false := by simpa using h0
      have el : (b == -9223372036854775808) = false := by simpa using hl
      go_enter Tryd.func65, Tryd.ntmps65
      go_wp2
      all_goals
        go_ret2
        exact ⟨ans_in (by unfold In64; omega) (by omega), rfl⟩
  by_cases h1 : b = -1
  · subst h1
    by_cases hl : a = -9223372036854775808
    · subst hl
      go_enter Tryd.func65, Tryd.ntmps65
      go_wp2
      go_ret2
      exact ⟨ans_out (by unfold In64; omega), rfl⟩
    · have e0 : (a == 0) = false := by simpa using g0
      have e1 : (a == -1) = false := by simpa using g1
      have el : (a == -9223372036854775808) = false := by simpa using hl
      have hlo : -9223372036854775807 ≤ a := by omega
      go_enter Tryd.func65, Tryd.ntmps65
      go_wp2
      all_goals
        go_ret2
        exact ⟨ans_in (by unfold In64; omega) (by omega), rfl⟩
  · have e0 : (b == 0) = false := by simpa using h0
    have e1 : (a == 0) = false := by simpa using g0
    have e2 : (a == -1) = false := by simpa using g1
    have e3 : (b == -1) = false := by simpa using h1
    go_enter Tryd.func65, Tryd.ntmps65
    go_wp2
    · go_ret2
      exact ⟨ans_out (mul_over ha' h0 ‹_›), rfl⟩
    · go_ret2
      have h := mul_good ha' hb' h0 (fun h => absurd h h1) ‹_›
      exact ⟨ans_in h (IntWalk.wrap64_in _ h), rfl⟩
end Go.Proofs.YtglaoacdenecfaaDoor
