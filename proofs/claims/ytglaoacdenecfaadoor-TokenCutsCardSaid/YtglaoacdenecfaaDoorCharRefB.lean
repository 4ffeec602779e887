/-
  The contracts of the document's own answers for char: Class (any rune), value, hex.
-/
import Derived.Test.YtglaoacdenecfaaDoorCharRefA
namespace Go.Proofs.YtglaoacdenecfaaDoor
open Go.RowKit

set_option maxHeartbeats 1000000 in
theorem class1 (c : Int) (w : World) (h1 : 97 ≤ c) (h2 : c ≤ 122) :
    Calls Tryd.prog 40 #[.int .i32 c] w fun e w' => e = .returned (.int .i64 1) ∧ w = w' := by
  go_enter Tryd.func40, Tryd.ntmps40
  go_wp2_with fail
  go_ret
  exact ⟨rfl, rfl⟩

set_option maxHeartbeats 1000000 in
theorem class2 (c : Int) (w : World) (h : (65 ≤ c ∧ c ≤ 90) ∨ c = 95) :
    Calls Tryd.prog 40 #[.int .i32 c] w fun e w' => e = .returned (.int .i64 2) ∧ w = w' := by
  rcases h with ⟨h1, h2⟩ | rfl
  all_goals
    go_enter Tryd.func40, Tryd.ntmps40
    go_wp2_with fail
    go_ret
    exact ⟨rfl, rfl⟩

set_option maxHeartbeats 1000000 in
theorem class3 (c : Int) (w : World) (h1 : 48 ≤ c) (h2 : c ≤ 57) :
    Calls Tryd.prog 40 #[.int .i32 c] w fun e w' => e = .returned (.int .i64 3) ∧ w = w' := by
  go_enter Tryd.func40, Tryd.ntmps40
  go_wp2_with fail
  go_ret
  exact ⟨rfl, rfl⟩

theorem am4 (c : Int) (b : Bool) (h : decide (c = 43 ∨ c = 45 ∨ c = 42 ∨ c = 47 ∨ c = 92 ∨ c = 94 ∨ c = 60 ∨ c = 62 ∨ c = 61 ∨ c = 126 ∨ c = 58 ∨ c = 46 ∨ c = 63 ∨ c = 64 ∨ c = 35 ∨ c = 38 ∨ c = 36) = b) : Am c ⟨#[43, 45, 42, 47, 92, 94, 60, 62, 61, 126, 58, 46, 63, 64, 35, 38, 36]⟩ b := fun w => by
  have h4 := ref_among c ⟨#[43, 45, 42, 47, 92, 94, 60, 62, 61, 126, 58, 46, 63, 64, 35, 38, 36]⟩ w (by decide)
  rw [show (⟨#[43, 45, 42, 47, 92, 94, 60, 62, 61, 126, 58, 46, 63, 64, 35, 38, 36]⟩ : ByteArray).data.toList = [43, 45, 42, 47, 92, 94, 60, 62, 61, 126, 58, 46, 63, 64, 35, 38, 36] from rfl, mem4, h] at h4
  exact h4
theorem am6 (c : Int) (b : Bool) (h : decide (c = 33 ∨ c = 59 ∨ c = 44 ∨ c = 124) = b) : Am c ⟨#[33, 59, 44, 124]⟩ b := fun w => by
  have h4 := ref_among c ⟨#[33, 59, 44, 124]⟩ w (by decide)
  rw [show (⟨#[33, 59, 44, 124]⟩ : ByteArray).data.toList = [33, 59, 44, 124] from rfl, mem6, h] at h4
  exact h4
theorem am7 (c : Int) (b : Bool) (h : decide (c = 40 ∨ c = 41 ∨ c = 91 ∨ c = 93 ∨ c = 123 ∨ c = 125) = b) : Am c ⟨#[40, 41, 91, 93, 123, 125]⟩ b := fun w => by
  have h4 := ref_among c ⟨#[40, 41, 91, 93, 123, 125]⟩ w (by decide)
  rw [show (⟨#[40, 41, 91, 93, 123, 125]⟩ : ByteArray).data.toList = [40, 41, 91, 93, 123, 125] from rfl, mem7, h] at h4
  exact h4

set_option maxHeartbeats 1000000 in
theorem class5 (c : Int) (w : World) (h : c = 9 ∨ c = 10 ∨ c = 13 ∨ c = 32) :
    Calls Tryd.prog 40 #[.int .i32 c] w fun e w' => e = .returned (.int .i64 5) ∧ w = w' := by
  have c4 := am4 c false (by rw [decide_eq_false_iff_not]; omega)
  rcases h with rfl | rfl | rfl | rfl
  all_goals
    go_enter Tryd.func40, Tryd.ntmps40
    go_wp2_with fail
    refine (c4 _).mono ?_; rintro e w' ⟨rfl, rfl⟩
    go_wp2_with fail
    go_ret
    exact ⟨rfl, rfl⟩

theorem ref_Class (c : Int) (w : World) :
    Calls Tryd.prog 40 #[.int .i32 c] w fun e w' => e = .returned (.int .i64 (cls c)) ∧ w = w' := by
  unfold cls
  by_cases h1 : 97 ≤ c ∧ c ≤ 122
  · rw [if_pos h1]; exact class1 c w h1.1 h1.2
  rw [if_neg h1]
  by_cases h2 : (65 ≤ c ∧ c ≤ 90) ∨ c = 95
  · rw [if_pos h2]; exact class2 c w h2
  rw [if_neg h2]
  by_cases h3 : 48 ≤ c ∧ c ≤ 57
  · rw [if_pos h3]; exact class3 c w h3.1 h3.2
  rw [if_neg h3]
  have hg : Gap c := by unfold Gap; omega
  by_cases h4 : c = 43 ∨ c = 45 ∨ c = 42 ∨ c = 47 ∨ c = 92 ∨ c = 94 ∨ c = 60 ∨ c = 62 ∨ c = 61 ∨ c = 126 ∨ c = 58 ∨ c = 46 ∨ c = 63 ∨ c = 64 ∨ c = 35 ∨ c = 38 ∨ c = 36
  · rw [if_pos h4]; exact class4 c w hg (am4 c true (decide_eq_true h4))
  rw [if_neg h4]
  by_cases h5 : c = 9 ∨ c = 10 ∨ c = 13 ∨ c = 32
  · rw [if_pos h5]; exact class5 c w h5
  rw [if_neg h5]
  have c4 := am4 c false (decide_eq_false h4)
  have e9 : (c == 9) = false := by simp; omega
  have e10 : (c == 10) = false := by simp; omega
  have e13 : (c == 13) = false := by simp; omega
  have e32 : (c == 32) = false := by simp; omega
  by_cases h6 : c = 33 ∨ c = 59 ∨ c = 44 ∨ c = 124
  · rw [if_pos h6]; exact class6 c w hg c4 e9 e10 e13 e32 (am6 c true (decide_eq_true h6))
  rw [if_neg h6]
  by_cases h7 : c = 40 ∨ c = 41 ∨ c = 91 ∨ c = 93 ∨ c = 123 ∨ c = 125
  · rw [if_pos h7]; exact class7 c w hg c4 e9 e10 e13 e32 (am6 c false (decide_eq_false h6)) (am7 c true (decide_eq_true h7))
  rw [if_neg h7]
  by_cases h8 : c = 39
  · rw [if_pos h8]; exact class8 c w hg c4 e9 e10 e13 e32 (am6 c false (decide_eq_false h6)) (am7 c false (decide_eq_false h7)) (by simpa using h8)
  · rw [if_neg h8]; exact class0 c w hg c4 e9 e10 e13 e32 (am6 c false (decide_eq_false h6)) (am7 c false (decide_eq_false h7)) (by simpa using h8)

set_option maxHeartbeats 1000000 in
theorem ref_value (b : Nat) (hb : b < 256) (w : World) :
    Calls Tryd.prog 68 #[.int .u8 b] w fun e w' => e = .returned (.int .i32 (hexV b)) ∧ w = w' := by
  unfold hexV
  by_cases h1 : 48 ≤ b ∧ b ≤ 57
  · rw [if_pos h1]
    obtain ⟨h1a, h1b⟩ := h1
    go_enter Tryd.func68, Tryd.ntmps68
    go_wp2_with fail
    go_ret
    exact ⟨rfl, rfl⟩
  rw [if_neg h1]
  by_cases h2 : 97 ≤ b ∧ b ≤ 102
  · rw [if_pos h2]
    obtain ⟨h2a, h2b⟩ := h2
    clear h1
    go_enter Tryd.func68, Tryd.ntmps68
    go_wp2_with fail
    go_ret
    exact ⟨ret_i (by omega), rfl⟩
  rw [if_neg h2]
  by_cases h3 : 65 ≤ b ∧ b ≤ 70
  · rw [if_pos h3]
    obtain ⟨h3a, h3b⟩ := h3
    clear h1 h2
    go_enter Tryd.func68, Tryd.ntmps68
    go_wp2_with fail
    go_ret
    exact ⟨ret_i (by omega), rfl⟩
  rw [if_neg h3]
  have hr : b < 48 ∨ (58 ≤ b ∧ b < 65) ∨ (71 ≤ b ∧ b < 97) ∨ 103 ≤ b := by omega
  clear h1 h2 h3
  rcases hr with hr | ⟨hr, hr2⟩ | ⟨hr, hr2⟩ | hr
  all_goals
    go_enter Tryd.func68, Tryd.ntmps68
    go_wp2_with fail
    go_ret
    exact ⟨rfl, rfl⟩
end Go.Proofs.YtglaoacdenecfaaDoor
