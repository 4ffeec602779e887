/-
  The contract of package char's own Class.
-/
import Derived.Test.YtpiiliecdkemhaaDoorCharRefB
namespace Go.Proofs.YtpiiliecdkemhaaDoor
open Go.RowKit

set_option maxHeartbeats 1000000 in
theorem dev_class1 (c : Int) (w : World) (h1 : 97 ≤ c) (h2 : c ≤ 122) :
    Calls Tryd.prog 12 #[.int .i32 c] w fun e w' => e = .returned (.int .i64 1) ∧ w = w' := by
  go_enter Tryd.func12, Tryd.ntmps12
  go_wp2_with fail
  go_ret
  exact ⟨rfl, rfl⟩

set_option maxHeartbeats 1000000 in
theorem dev_class2 (c : Int) (w : World) (h : (65 ≤ c ∧ c ≤ 90) ∨ c = 95) :
    Calls Tryd.prog 12 #[.int .i32 c] w fun e w' => e = .returned (.int .i64 2) ∧ w = w' := by
  rcases h with ⟨h1, h2⟩ | rfl
  all_goals
    go_enter Tryd.func12, Tryd.ntmps12
    go_wp2_with fail
    go_ret
    exact ⟨rfl, rfl⟩

set_option maxHeartbeats 1000000 in
theorem dev_class3 (c : Int) (w : World) (h1 : 48 ≤ c) (h2 : c ≤ 57) :
    Calls Tryd.prog 12 #[.int .i32 c] w fun e w' => e = .returned (.int .i64 3) ∧ w = w' := by
  go_enter Tryd.func12, Tryd.ntmps12
  go_wp2_with fail
  go_ret
  exact ⟨rfl, rfl⟩

set_option maxHeartbeats 4000000 in
theorem dev_class4 (c : Int) (w : World) (h : c = 43 ∨ c = 45 ∨ c = 42 ∨ c = 47 ∨ c = 92 ∨ c = 94 ∨ c = 60 ∨ c = 62 ∨ c = 61 ∨ c = 126 ∨ c = 58 ∨ c = 46 ∨ c = 63 ∨ c = 64 ∨ c = 35 ∨ c = 38 ∨ c = 36) :
    Calls Tryd.prog 12 #[.int .i32 c] w fun e w' => e = .returned (.int .i64 4) ∧ w = w' := by
  rcases h with rfl | rfl | rfl | rfl | rfl | rfl | rfl | rfl | rfl | rfl | rfl | rfl | rfl | rfl | rfl | rfl | rfl
  all_goals
    go_enter Tryd.func12, Tryd.ntmps12
    go_wp2_with fail
    go_ret
    exact ⟨rfl, rfl⟩

set_option maxHeartbeats 4000000 in
theorem dev_class5 (c : Int) (w : World) (h : c = 9 ∨ c = 10 ∨ c = 13 ∨ c = 32) :
    Calls Tryd.prog 12 #[.int .i32 c] w fun e w' => e = .returned (.int .i64 5) ∧ w = w' := by
  rcases h with rfl | rfl | rfl | rfl
  all_goals
    go_enter Tryd.func12, Tryd.ntmps12
    go_wp2_with fail
    go_ret
    exact ⟨rfl, rfl⟩

set_option maxHeartbeats 4000000 in
theorem dev_class6 (c : Int) (w : World) (h : c = 33 ∨ c = 59 ∨ c = 44 ∨ c = 124) :
    Calls Tryd.prog 12 #[.int .i32 c] w fun e w' => e = .returned (.int .i64 6) ∧ w = w' := by
  rcases h with rfl | rfl | rfl | rfl
  all_goals
    go_enter Tryd.func12, Tryd.ntmps12
    go_wp2_with fail
    go_ret
    exact ⟨rfl, rfl⟩

set_option maxHeartbeats 4000000 in
theorem dev_class7 (c : Int) (w : World) (h : c = 40 ∨ c = 41 ∨ c = 91 ∨ c = 93 ∨ c = 123 ∨ c = 125) :
    Calls Tryd.prog 12 #[.int .i32 c] w fun e w' => e = .returned (.int .i64 7) ∧ w = w' := by
  rcases h with rfl | rfl | rfl | rfl | rfl | rfl
  all_goals
    go_enter Tryd.func12, Tryd.ntmps12
    go_wp2_with fail
    go_ret
    exact ⟨rfl, rfl⟩

set_option maxHeartbeats 4000000 in
theorem dev_class8 (w : World) :
    Calls Tryd.prog 12 #[.int .i32 39] w fun e w' => e = .returned (.int .i64 8) ∧ w = w' := by
  go_enter Tryd.func12, Tryd.ntmps12
  go_wp2_with fail
  go_ret
  exact ⟨rfl, rfl⟩

set_option maxHeartbeats 4000000 in
theorem dev_class0 (c : Int) (w : World) (hr : Gap c)
    (a1 : (c == 43) = false) (a2 : (c == 45) = false) (a3 : (c == 42) = false) (a4 : (c == 47) = false) (a5 : (c == 92) = false) (a6 : (c == 94) = false) (a7 : (c == 60) = false) (a8 : (c == 62) = false) (a9 : (c == 61) = false) (a10 : (c == 126) = false) (a11 : (c == 58) = false) (a12 : (c == 46) = false) (a13 : (c == 63) = false) (a14 : (c == 64) = false) (a15 : (c == 35) = false) (a16 : (c == 38) = false) (a17 : (c == 36) = false)
    (b1 : (c == 9) = false) (b2 : (c == 10) = false) (b3 : (c == 13) = false) (b4 : (c == 32) = false) (b5 : (c == 33) = false) (b6 : (c == 59) = false) (b7 : (c == 44) = false) (b8 : (c == 124) = false)
    (d1 : (c == 40) = false) (d2 : (c == 41) = false) (d3 : (c == 91) = false) (d4 : (c == 93) = false) (d5 : (c == 123) = false) (d6 : (c == 125) = false) (d7 : (c == 39) = false) :
    Calls Tryd.prog 12 #[.int .i32 c] w fun e w' => e = .returned (.int .i64 0) ∧ w = w' := by
  unfold Gap at hr
  rcases hr with hr | ⟨hr, hr2⟩ | ⟨hr, hr2⟩ | ⟨hr, hr2⟩ | hr
  all_goals
    have e95 : (c == 95) = false := by (simp; omega)
    go_enter Tryd.func12, Tryd.ntmps12
    go_wp2_with fail
    go_ret
    exact ⟨rfl, rfl⟩

theorem dev_Class (c : Int) (w : World) :
    Calls Tryd.prog 12 #[.int .i32 c] w fun e w' => e = .returned (.int .i64 (cls c)) ∧ w = w' := by
  unfold cls
  by_cases h1 : 97 ≤ c ∧ c ≤ 122
  · rw [if_pos h1]; exact dev_class1 c w h1.1 h1.2
  rw [if_neg h1]
  by_cases h2 : (65 ≤ c ∧ c ≤ 90) ∨ c = 95
  · rw [if_pos h2]; exact dev_class2 c w h2
  rw [if_neg h2]
  by_cases h3 : 48 ≤ c ∧ c ≤ 57
  · rw [if_pos h3]; exact dev_class3 c w h3.1 h3.2
  rw [if_neg h3]
  have hg : Gap c := by unfold Gap; omega
  by_cases h4 : c = 43 ∨ c = 45 ∨ c = 42 ∨ c = 47 ∨ c = 92 ∨ c = 94 ∨ c = 60 ∨ c = 62 ∨ c = 61 ∨ c = 126 ∨ c = 58 ∨ c = 46 ∨ c = 63 ∨ c = 64 ∨ c = 35 ∨ c = 38 ∨ c = 36
  · rw [if_pos h4]; exact dev_class4 c w h4
  rw [if_neg h4]
  by_cases h5 : c = 9 ∨ c = 10 ∨ c = 13 ∨ c = 32
  · rw [if_pos h5]; exact dev_class5 c w h5
  rw [if_neg h5]
  by_cases h6 : c = 33 ∨ c = 59 ∨ c = 44 ∨ c = 124
  · rw [if_pos h6]; exact dev_class6 c w h6
  rw [if_neg h6]
  by_cases h7 : c = 40 ∨ c = 41 ∨ c = 91 ∨ c = 93 ∨ c = 123 ∨ c = 125
  · rw [if_pos h7]; exact dev_class7 c w h7
  rw [if_neg h7]
  by_cases h8 : c = 39
  · rw [if_pos h8]; subst h8; exact dev_class8 w
  · rw [if_neg h8]
    have ne : ∀ k : Int, c ≠ k → (c == k) = false := fun k h => by simpa using h
    exact dev_class0 c w hg (ne _ (by omega)) (ne _ (by omega)) (ne _ (by omega)) (ne _ (by omega)) (ne _ (by omega)) (ne _ (by omega)) (ne _ (by omega)) (ne _ (by omega)) (ne _ (by omega)) (ne _ (by omega)) (ne _ (by omega)) (ne _ (by omega)) (ne _ (by omega)) (ne _ (by omega)) (ne _ (by omega)) (ne _ (by omega)) (ne _ (by omega))
      (ne _ (by omega)) (ne _ (by omega)) (ne _ (by omega)) (ne _ (by omega)) (ne _ (by omega)) (ne _ (by omega)) (ne _ (by omega)) (ne _ (by omega)) (ne _ (by omega)) (ne _ (by omega)) (ne _ (by omega)) (ne _ (by omega)) (ne _ (by omega)) (ne _ (by omega)) (ne _ (by omega))
end Go.Proofs.YtpiiliecdkemhaaDoor
