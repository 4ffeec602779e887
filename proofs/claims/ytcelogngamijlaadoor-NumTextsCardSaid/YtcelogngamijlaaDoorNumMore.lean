/-
  The contracts of package num and of the document's own answers: quotients, what is left, signs, sizes, how two compare.
-/
import Derived.Test.YtcelogngamijlaaDoorNumCalls
namespace Go.Proofs.YtcelogngamijlaaDoor
open Go.RowKit

set_option maxHeartbeats 400000 in
theorem num_Quo (a b : Int) (w : World) (ha : In64 a) (hb : In64 b) :
    Calls Tryd.prog 17 #[.int .i64 a, .int .i64 b] w fun e w' => e = .returned (.tuple #[.int .i64 (quoV a b), .int .i64 (quoE a b)]) ∧ w = w' := by
  have ha' := ha
  have hb' := hb
  unfold In64 at ha hb
  obtain ⟨ha1, ha2⟩ := ha
  obtain ⟨hb1, hb2⟩ := hb
  unfold quoV quoE
  by_cases h0 : b = 0
  · subst h0
    go_enter Tryd.func17, Tryd.ntmps17
    go_wp2
    go_ret2
    exact ⟨rfl, rfl⟩
  by_cases h1 : b = -1
  · subst h1
    rw [tdiv_neg1]
    go_enter Tryd.func17, Tryd.ntmps17
    go_wp2_with (go_at_call 23; refine (num_Neg _ _ ha').mono ?_; rintro e w' ⟨rfl, rfl⟩)
    go_ret2
    exact ⟨rfl, rfl⟩
  · have e0 : (b == 0) = false := by simpa using h0
    have e1 : (b == -1) = false := by simpa using h1
    have hq := tdiv_in ha' h0 h1
    rw [if_neg h0, if_neg h0]
    go_enter Tryd.func17, Tryd.ntmps17
    go_wp2_with fail
    go_ret2
    exact ⟨ans_in hq (by first | exact IntWalk.wrap64_in _ hq | rfl), rfl⟩

set_option maxHeartbeats 400000 in
theorem ref_Quo (a b : Int) (w : World) (ha : In64 a) (hb : In64 b) :
    Calls Tryd.prog 18 #[.int .i64 a, .int .i64 b] w fun e w' => e = .returned (.tuple #[.int .i64 (quoV a b), .int .i64 (quoE a b)]) ∧ w = w' := by
  have ha' := ha
  have hb' := hb
  unfold In64 at ha hb
  obtain ⟨ha1, ha2⟩ := ha
  obtain ⟨hb1, hb2⟩ := hb
  unfold quoV quoE
  by_cases h0 : b = 0
  · subst h0
    go_enter Tryd.func18, Tryd.ntmps18
    go_wp2
    go_ret2
    exact ⟨rfl, rfl⟩
  by_cases h1 : b = -1
  · subst h1
    rw [tdiv_neg1, if_neg (by decide), if_neg (by decide)]
    by_cases hl : a = -9223372036854775808
    · subst hl
      go_enter Tryd.func18, Tryd.ntmps18
      go_wp2
      go_ret2
      exact ⟨ans_out (by unfold In64; omega), rfl⟩
    · have el : (a == -9223372036854775808) = false := by simpa using hl
      have hlo : -9223372036854775807 ≤ a := by omega
      go_enter Tryd.func18, Tryd.ntmps18
      go_wp2
      go_ret2
      exact ⟨ans_in (by unfold In64; omega) (by omega), rfl⟩
  · have e0 : (b == 0) = false := by simpa using h0
    have e1 : (b == -1) = false := by simpa using h1
    have hq := tdiv_in ha' h0 h1
    rw [if_neg h0, if_neg h0]
    go_enter Tryd.func18, Tryd.ntmps18
    go_wp2_with fail
    · go_ret2
      rename_i h
      exact ⟨ans_in hq (by subst h; rw [← Int.neg_tdiv]; exact IntWalk.wrap64_in _ hq), rfl⟩
    · go_ret2
      exact ⟨ans_in hq (by exact IntWalk.wrap64_in _ hq), rfl⟩

set_option maxHeartbeats 400000 in
theorem num_Rem (a b : Int) (w : World) (ha : In64 a) (hb : In64 b) :
    Calls Tryd.prog 19 #[.int .i64 a, .int .i64 b] w fun e w' => e = .returned (.tuple #[.int .i64 (remV a b), .int .i64 (zeroE b)]) ∧ w = w' := by
  have ha' := ha
  have hb' := hb
  unfold In64 at ha hb
  obtain ⟨ha1, ha2⟩ := ha
  obtain ⟨hb1, hb2⟩ := hb
  unfold remV zeroE
  by_cases h0 : b = 0
  · subst h0
    go_enter Tryd.func19, Tryd.ntmps19
    go_wp2
    go_ret2
    exact ⟨rfl, rfl⟩
  rw [if_neg h0, if_neg h0]
  by_cases h1 : b = -1
  · subst h1
    rw [tmod_neg1]
    go_enter Tryd.func19, Tryd.ntmps19
    go_wp2
    go_ret2
    exact ⟨rfl, rfl⟩
  · have e0 : (b == 0) = false := by simpa using h0
    have e1 : (b == -1) = false := by simpa using h1
    have hq := tmod_in (a := a) hb' h0
    go_enter Tryd.func19, Tryd.ntmps19
    go_wp2_with fail
    go_ret2
    exact ⟨ans_eq (by first | exact IntWalk.wrap64_in _ hq | rfl) rfl, rfl⟩

set_option maxHeartbeats 400000 in
theorem ref_Rem (a b : Int) (w : World) (ha : In64 a) (hb : In64 b) :
    Calls Tryd.prog 20 #[.int .i64 a, .int .i64 b] w fun e w' => e = .returned (.tuple #[.int .i64 (remV a b), .int .i64 (zeroE b)]) ∧ w = w' := by
  have ha' := ha
  have hb' := hb
  unfold In64 at ha hb
  obtain ⟨ha1, ha2⟩ := ha
  obtain ⟨hb1, hb2⟩ := hb
  unfold remV zeroE
  by_cases h0 : b = 0
  · subst h0
    go_enter Tryd.func20, Tryd.ntmps20
    go_wp2
    go_ret2
    exact ⟨rfl, rfl⟩
  rw [if_neg h0, if_neg h0]
  by_cases h1 : b = -1
  · subst h1
    rw [tmod_neg1]
    go_enter Tryd.func20, Tryd.ntmps20
    go_wp2
    go_ret2
    exact ⟨rfl, rfl⟩
  · have e0 : (b == 0) = false := by simpa using h0
    have e1 : (b == -1) = false := by simpa using h1
    have hq := tmod_in (a := a) hb' h0
    go_enter Tryd.func20, Tryd.ntmps20
    go_wp2_with fail
    go_ret2
    exact ⟨ans_eq (by first | exact IntWalk.wrap64_in _ hq | rfl) rfl, rfl⟩

set_option maxHeartbeats 400000 in
theorem num_Mod (a b : Int) (w : World) (ha : In64 a) (hb : In64 b) :
    Calls Tryd.prog 21 #[.int .i64 a, .int .i64 b] w fun e w' => e = .returned (.tuple #[.int .i64 (modV a b), .int .i64 (zeroE b)]) ∧ w = w' := by
  have ha' := ha
  have hb' := hb
  unfold In64 at ha hb
  obtain ⟨ha1, ha2⟩ := ha
  obtain ⟨hb1, hb2⟩ := hb
  by_cases h0 : b = 0
  · subst h0
    go_enter Tryd.func21, Tryd.ntmps21
    go_wp2_with (go_at_call 19; refine (num_Rem _ _ _ ha' hb').mono ?_; rintro e w' ⟨rfl, rfl⟩; rw [show zeroE 0 = 11 from rfl])
    go_ret2
    exact ⟨rfl, rfl⟩
  · have hr := tmod_in (a := a) hb' h0
    have e1 : remV a b = a.tmod b := if_neg h0
    have e2 : zeroE b = 0 := if_neg h0
    have e3 : modV a b = adj (a.tmod b) b := if_neg h0
    have hR := num_Rem a b w ha' hb'
    rw [e3, e2]
    rw [e1, e2] at hR
    clear e1 e2 e3
    have HR := Lib.hid hR
    clear hR
    have hrl := hr
    unfold In64 at hrl
    obtain ⟨hr1, hr2⟩ := hrl
    generalize a.tmod b = r at *
    go_enter Tryd.func21, Tryd.ntmps21
    go_wp2_with (go_at_call 19; refine HR.out.mono ?_; rintro e w' ⟨rfl, rfl⟩)
    · go_ret2
      rename_i h
      exact ⟨ans_eq (by rw [h, adj_zero]) rfl, rfl⟩
    · go_ret2
      have h := adj_yes ‹_›
      exact ⟨ans_eq (by rw [h]; exact IntWalk.wrap64_in _ (by rw [← h]; exact adj_in hr hb')) rfl, rfl⟩
    · go_ret2
      have h := adj_no ‹_›
      exact ⟨ans_eq (by rw [h]) rfl, rfl⟩

set_option maxHeartbeats 400000 in
theorem ref_Mod (a b : Int) (w : World) (ha : In64 a) (hb : In64 b) :
    Calls Tryd.prog 22 #[.int .i64 a, .int .i64 b] w fun e w' => e = .returned (.tuple #[.int .i64 (modV a b), .int .i64 (zeroE b)]) ∧ w = w' := by
  have ha' := ha
  have hb' := hb
  unfold In64 at ha hb
  obtain ⟨ha1, ha2⟩ := ha
  obtain ⟨hb1, hb2⟩ := hb
  by_cases h0 : b = 0
  · subst h0
    go_enter Tryd.func22, Tryd.ntmps22
    go_wp2_with (go_at_call 20; refine (ref_Rem _ _ _ ha' hb').mono ?_; rintro e w' ⟨rfl, rfl⟩; rw [show zeroE 0 = 11 from rfl])
    go_ret2
    exact ⟨rfl, rfl⟩
  · have hr := tmod_in (a := a) hb' h0
    have e1 : remV a b = a.tmod b := if_neg h0
    have e2 : zeroE b = 0 := if_neg h0
    have e3 : modV a b = adj (a.tmod b) b := if_neg h0
    have hR := ref_Rem a b w ha' hb'
    rw [e3, e2]
    rw [e1, e2] at hR
    clear e1 e2 e3
    have HR := Lib.hid hR
    clear hR
    have hrl := hr
    unfold In64 at hrl
    obtain ⟨hr1, hr2⟩ := hrl
    generalize a.tmod b = r at *
    go_enter Tryd.func22, Tryd.ntmps22
    go_wp2_with (go_at_call 20; refine HR.out.mono ?_; rintro e w' ⟨rfl, rfl⟩)
    · go_ret2
      rename_i h
      exact ⟨ans_eq (by rw [h, adj_zero]) rfl, rfl⟩
    · go_ret2
      have h := adj_yes ‹_›
      exact ⟨ans_eq (by rw [h]; exact IntWalk.wrap64_in _ (by rw [← h]; exact adj_in hr hb')) rfl, rfl⟩
    · go_ret2
      have h := adj_no ‹_›
      exact ⟨ans_eq (by rw [h]) rfl, rfl⟩

set_option maxHeartbeats 400000 in
theorem ref_Neg (a : Int) (w : World) (ha : In64 a) :
    Calls Tryd.prog 24 #[.int .i64 a] w fun e w' => e = .returned (.tuple #[.int .i64 (chkV (-a)), .int .i64 (chkE (-a))]) ∧ w = w' := by
  go_enter Tryd.func24, Tryd.ntmps24
  go_wp2_with (go_at_call 13; refine (ref_Sub _ _ _ (by unfold In64; omega) ha).mono ?_; rintro e w' ⟨rfl, rfl⟩; rw [show 0 - a = -a by omega])
  go_ret2
  exact ⟨rfl, rfl⟩

/-- A number's size. -/
def absI (a : Int) : Int := if 0 ≤ a then a else -a

set_option maxHeartbeats 400000 in
theorem num_Abs (a : Int) (w : World) (ha : In64 a) :
    Calls Tryd.prog 25 #[.int .i64 a] w fun e w' => e = .returned (.tuple #[.int .i64 (chkV (absI a)), .int .i64 (chkE (absI a))]) ∧ w = w' := by
  unfold absI
  by_cases h : 0 ≤ a
  · rw [if_pos h]
    go_enter Tryd.func25, Tryd.ntmps25
    go_wp2
    go_ret2
    exact ⟨ans_in ha rfl, rfl⟩
  · rw [if_neg h]
    go_enter Tryd.func25, Tryd.ntmps25
    go_wp2_with (go_at_call 23; refine (num_Neg _ _ ha).mono ?_; rintro e w' ⟨rfl, rfl⟩)
    go_ret2
    exact ⟨rfl, rfl⟩

set_option maxHeartbeats 400000 in
theorem ref_Abs (a : Int) (w : World) (ha : In64 a) :
    Calls Tryd.prog 26 #[.int .i64 a] w fun e w' => e = .returned (.tuple #[.int .i64 (chkV (absI a)), .int .i64 (chkE (absI a))]) ∧ w = w' := by
  unfold absI
  by_cases h : 0 ≤ a
  · rw [if_pos h]
    go_enter Tryd.func26, Tryd.ntmps26
    go_wp2
    go_ret2
    exact ⟨ans_in ha rfl, rfl⟩
  · rw [if_neg h]
    go_enter Tryd.func26, Tryd.ntmps26
    go_wp2_with (go_at_call 24; refine (ref_Neg _ _ ha).mono ?_; rintro e w' ⟨rfl, rfl⟩)
    go_ret2
    exact ⟨rfl, rfl⟩

set_option maxHeartbeats 400000 in
theorem num_Cmp (a b : Int) (w : World) :
    Calls Tryd.prog 29 #[.int .i64 a, .int .i64 b] w fun e w' => e = .returned (.int .i64 (cmpV a b)) ∧ w = w' := by
  go_enter Tryd.func29, Tryd.ntmps29
  go_wp2
  all_goals
    go_ret
    refine ⟨ret_int ?_, rfl⟩
    unfold cmpV
    split <;> (try split) <;> (first | rfl | (exfalso; omega))

set_option maxHeartbeats 400000 in
theorem ref_Cmp (a b : Int) (w : World) :
    Calls Tryd.prog 30 #[.int .i64 a, .int .i64 b] w fun e w' => e = .returned (.int .i64 (cmpV a b)) ∧ w = w' := by
  go_enter Tryd.func30, Tryd.ntmps30
  go_wp2
  all_goals
    go_ret
    refine ⟨ret_int ?_, rfl⟩
    unfold cmpV
    split <;> (try split) <;> (first | rfl | (exfalso; omega))

set_option maxHeartbeats 400000 in
theorem num_Sign (a : Int) (w : World) :
    Calls Tryd.prog 27 #[.int .i64 a] w fun e w' => e = .returned (.int .i64 (cmpV a 0)) ∧ w = w' := by
  have h := cmpV_bd a 0
  obtain ⟨h1, h2⟩ := h
  go_enter Tryd.func27, Tryd.ntmps27
  go_wp2_with (go_at_call 29; refine (num_Cmp _ _ _).mono ?_; rintro e w' ⟨rfl, rfl⟩)
  go_ret
  exact ⟨rfl, rfl⟩

set_option maxHeartbeats 400000 in
theorem ref_Sign (a : Int) (w : World) :
    Calls Tryd.prog 28 #[.int .i64 a] w fun e w' => e = .returned (.int .i64 (cmpV a 0)) ∧ w = w' := by
  have h := cmpV_bd a 0
  obtain ⟨h1, h2⟩ := h
  go_enter Tryd.func28, Tryd.ntmps28
  go_wp2_with (go_at_call 30; refine (ref_Cmp _ _ _).mono ?_; rintro e w' ⟨rfl, rfl⟩)
  go_ret
  exact ⟨rfl, rfl⟩

set_option maxHeartbeats 400000 in
theorem law_same (x e : Int) (w : World) :
    Calls Tryd.prog 11 #[.int .i64 x, .int .i64 e, .int .i64 x, .int .i64 e] w fun r w' => r = .returned (.bool true) ∧ w = w' := by
  have h1 : (x == x) = true := beq_self_eq_true x
  have h2 : (e == e) = true := beq_self_eq_true e
  go_enter Tryd.func11, Tryd.ntmps11
  go_wp2
  go_ret
  exact ⟨rfl, rfl⟩
end Go.Proofs.YtcelogngamijlaaDoor
