/-
  The laws NumTurns and NumSpreads of package num, walked: each answers true, for all numbers of 64 bits; nothing that was there has changed.
-/
import Derived.Test.YtcelogngamijlabDoorNumLive
namespace Go.Proofs.YtcelogngamijlabDoor
open Go.RowKit

/-- A function of two numbers that answers v and the error e; of one number; that answers one number. -/
def Two (f : Nat) (x y v e : Int) : Prop := ∀ w, Calls Tryd.prog f #[.int .i64 x, .int .i64 y] w fun r w' => r = .returned (.tuple #[.int .i64 v, .int .i64 e]) ∧ w = w'
def One (f : Nat) (x v e : Int) : Prop := ∀ w, Calls Tryd.prog f #[.int .i64 x] w fun r w' => r = .returned (.tuple #[.int .i64 v, .int .i64 e]) ∧ w = w'
def TwoN (f : Nat) (x y v : Int) : Prop := ∀ w, Calls Tryd.prog f #[.int .i64 x, .int .i64 y] w fun r w' => r = .returned (.int .i64 v) ∧ w = w'
def OneN (f : Nat) (x v : Int) : Prop := ∀ w, Calls Tryd.prog f #[.int .i64 x] w fun r w' => r = .returned (.int .i64 v) ∧ w = w'

set_option maxHeartbeats 4000000 in
theorem spread_yes (a b c s x y p h : Int) (w : World) (ht : Tab w)
    (c1 : Two 10 b c s 0) (c2 : Two 11 a b x 0) (c3 : Two 11 a c y 0) (c4 : Two 11 a s p h) (c5 : Two 10 x y p h) :
    Calls Tryd.prog 4 #[.int .i64 a, .int .i64 b, .int .i64 c] w fun e w' => e = .returned (.bool true) ∧ Below w.heap.size w w' := by
  have HT := Lib.hid ht
  clear ht
  have e1 : (h == h) = true := beq_self_eq_true h
  have e2 : (p == p) = true := beq_self_eq_true p
  go_enter Tryd.func4, Tryd.ntmps4
  go_wp2_with fail
  refine (law_live _ HT.out).mono ?_; rintro e w1 ⟨rfl, hb1⟩
  go_wp2_with fail
  refine (c1 _).mono ?_; rintro e w' ⟨rfl, rfl⟩
  go_wp2_with fail
  refine (c2 _).mono ?_; rintro e w' ⟨rfl, rfl⟩
  go_wp2_with fail
  refine (c3 _).mono ?_; rintro e w' ⟨rfl, rfl⟩
  go_wp2_with fail
  refine (c4 _).mono ?_; rintro e w' ⟨rfl, rfl⟩
  go_wp2_with fail
  refine (c5 _).mono ?_; rintro e w' ⟨rfl, rfl⟩
  go_wp2_with fail
  go_ret
  exact ⟨rfl, hb1⟩
set_option maxHeartbeats 4000000 in
theorem spread_no (a b c s x y e1 e2 e3 : Int) (w : World) (ht : Tab w) (h : (e1 = 10) ∨ (e1 = 0 ∧ e2 = 10) ∨ (e1 = 0 ∧ e2 = 0 ∧ e3 = 10))
    (c1 : Two 10 b c s e1) (c2 : Two 11 a b x e2) (c3 : Two 11 a c y e3) :
    Calls Tryd.prog 4 #[.int .i64 a, .int .i64 b, .int .i64 c] w fun e w' => e = .returned (.bool true) ∧ Below w.heap.size w w' := by
  have HT := Lib.hid ht
  clear ht
  rcases h with rfl | ⟨rfl, rfl⟩ | ⟨rfl, rfl, rfl⟩
  all_goals
    go_enter Tryd.func4, Tryd.ntmps4
    go_wp2_with fail
    refine (law_live _ HT.out).mono ?_; rintro e w1 ⟨rfl, hb1⟩
    go_wp2_with fail
    refine (c1 _).mono ?_; rintro e w' ⟨rfl, rfl⟩
    go_wp2_with fail
    refine (c2 _).mono ?_; rintro e w' ⟨rfl, rfl⟩
    go_wp2_with fail
    refine (c3 _).mono ?_; rintro e w' ⟨rfl, rfl⟩
    go_wp2_with fail
    go_ret
    exact ⟨rfl, hb1⟩

theorem walk_NumSpreads (a b c : Int) (w : World) (ha : In64 a) (hb : In64 b) (hc : In64 c) (ht : Tab w) :
    Calls Tryd.prog 4 #[.int .i64 a, .int .i64 b, .int .i64 c] w fun e w' => e = .returned (.bool true) ∧ Below w.heap.size w w' := by
  have c1 : Two 10 b c (chkV (b + c)) (chkE (b + c)) := fun w => num_Add b c w hb hc
  have c2 : Two 11 a b (chkV (a * b)) (chkE (a * b)) := fun w => num_Mul a b w ha hb
  have c3 : Two 11 a c (chkV (a * c)) (chkE (a * c)) := fun w => num_Mul a c w ha hc
  by_cases h1 : In64 (b + c)
  · by_cases h2 : In64 (a * b)
    · by_cases h3 : In64 (a * c)
      · rw [chkV_in h1, chkE_in h1] at c1
        rw [chkV_in h2, chkE_in h2] at c2
        rw [chkV_in h3, chkE_in h3] at c3
        refine spread_yes a b c (b + c) (a * b) (a * c) (chkV (a * (b + c))) (chkE (a * (b + c))) w ht c1 c2 c3 (fun w => num_Mul a (b + c) w ha h1) (fun w => ?_)
        rw [Int.mul_add]
        exact num_Add (a * b) (a * c) w h2 h3
      · exact spread_no a b c _ _ _ _ _ _ w ht (.inr (.inr ⟨chkE_in h1, chkE_in h2, chkE_out h3⟩)) c1 c2 c3
    · exact spread_no a b c _ _ _ _ _ _ w ht (.inr (.inl ⟨chkE_in h1, chkE_out h2⟩)) c1 c2 c3
  · exact spread_no a b c _ _ _ _ _ _ w ht (.inl (chkE_out h1)) c1 c2 c3

/-- How two compare, both ways. -/
def Cmps (a b c d : Int) : Prop := (a < b ∧ c = -1 ∧ d = 1) ∨ (a = b ∧ c = 0 ∧ d = 0) ∨ (b < a ∧ c = 1 ∧ d = -1)
theorem cmps_of (a b : Int) : Cmps a b (cmpV a b) (cmpV b a) := by
  unfold Cmps cmpV
  rcases Int.lt_trichotomy a b with h | h | h
  · rw [if_pos h, if_neg (by omega), if_pos h]; exact .inl ⟨h, rfl, rfl⟩
  · subst h; rw [if_neg (by omega), if_neg (by omega)]; exact .inr (.inl ⟨rfl, rfl, rfl⟩)
  · rw [if_neg (by omega), if_pos h, if_pos h]; exact .inr (.inr ⟨h, rfl, rfl⟩)

set_option maxHeartbeats 16000000 in
theorem turn_yes (a b n s c d k j : Int) (w : World) (ht : Tab w) (hcd : Cmps a b c d) (hs : (a < 0 ∧ s = n ∧ 0 < s ∧ k = -1 ∧ j = 1) ∨ (a = 0 ∧ n = 0 ∧ s = 0 ∧ k = 0 ∧ j = 0) ∨ (0 < a ∧ s = a ∧ k = 1 ∧ j = -1))
    (c1 : One 6 a n 0) (c2 : One 6 n a 0) (c3 : OneN 7 n j) (c4 : OneN 7 a k) (c5 : One 8 a s 0)
    (c6 : TwoN 9 a b c) (c7 : TwoN 9 b a d) (c8 : TwoN 9 a 0 k) :
    Calls Tryd.prog 3 #[.int .i64 a, .int .i64 b] w fun e w' => e = .returned (.bool true) ∧ Below w.heap.size w w' := by
  have HT := Lib.hid ht
  clear ht
  have ea : (a != a) = false := by simp
  rcases hcd with ⟨hab, rfl, rfl⟩ | ⟨hab, rfl, rfl⟩ | ⟨hab, rfl, rfl⟩
  all_goals
    rcases hs with ⟨h1, h2, h3, rfl, rfl⟩ | ⟨h1, h2, h3, rfl, rfl⟩ | ⟨h1, h2, rfl, rfl⟩
  all_goals
    first
      | (have f1 : (a == b) = false := by (simp; omega))
      | (have f1 : (a == b) = true := by (simp; omega))
    have f2 : decide (s < 0) = false := by (simp; omega)
    first
      | (have f3 : (s != a) = false := by (simp; omega))
      | (have f3 : (s != a) = true := by (simp; omega)
         have f4 : (s != n) = false := by (simp; omega))
    clear hab h1 h2
    try clear h3
    go_enter Tryd.func3, Tryd.ntmps3
    go_wp2_with fail
    refine (law_live _ HT.out).mono ?_; rintro e w1 ⟨rfl, hb1⟩
    go_wp2_with fail
    refine (c1 _).mono ?_; rintro e w' ⟨rfl, rfl⟩
    go_wp2_with fail
    refine (c2 _).mono ?_; rintro e w' ⟨rfl, rfl⟩
    go_wp2_with fail
    refine (c3 _).mono ?_; rintro e w' ⟨rfl, rfl⟩
    go_wp2_with fail
    refine (c4 _).mono ?_; rintro e w' ⟨rfl, rfl⟩
    go_wp2_with fail
    refine (c5 _).mono ?_; rintro e w' ⟨rfl, rfl⟩
    go_wp2_with fail
    refine (c6 _).mono ?_; rintro e w' ⟨rfl, rfl⟩
    go_wp2_with fail
    refine (c7 _).mono ?_; rintro e w' ⟨rfl, rfl⟩
    go_wp2_with fail
    refine (c6 _).mono ?_; rintro e w' ⟨rfl, rfl⟩
    go_wp2_with fail
    refine (c8 _).mono ?_; rintro e w' ⟨rfl, rfl⟩
    go_wp2_with fail
    refine (c4 _).mono ?_; rintro e w' ⟨rfl, rfl⟩
    go_wp2_with fail
    go_ret
    exact ⟨rfl, hb1⟩

set_option maxHeartbeats 16000000 in
theorem turn_no (a b c d : Int) (w : World) (ht : Tab w) (hcd : Cmps a b c d) (ha : a < 0)
    (c1 : One 6 a 0 10) (c4 : OneN 7 a (-1)) (c5 : One 8 a 0 10)
    (c6 : TwoN 9 a b c) (c7 : TwoN 9 b a d) (c8 : TwoN 9 a 0 (-1)) :
    Calls Tryd.prog 3 #[.int .i64 a, .int .i64 b] w fun e w' => e = .returned (.bool true) ∧ Below w.heap.size w w' := by
  have HT := Lib.hid ht
  clear ht
  have f0 : decide (0 < a) = false := by simp; omega
  rcases hcd with ⟨hab, rfl, rfl⟩ | ⟨hab, rfl, rfl⟩ | ⟨hab, rfl, rfl⟩
  all_goals
    first
      | (have f1 : (a == b) = false := by (simp; omega))
      | (have f1 : (a == b) = true := by (simp; omega))
    clear hab
    go_enter Tryd.func3, Tryd.ntmps3
    go_wp2_with fail
    refine (law_live _ HT.out).mono ?_; rintro e w1 ⟨rfl, hb1⟩
    go_wp2_with fail
    refine (c1 _).mono ?_; rintro e w' ⟨rfl, rfl⟩
    go_wp2_with fail
    refine (c5 _).mono ?_; rintro e w' ⟨rfl, rfl⟩
    go_wp2_with fail
    refine (c6 _).mono ?_; rintro e w' ⟨rfl, rfl⟩
    go_wp2_with fail
    refine (c7 _).mono ?_; rintro e w' ⟨rfl, rfl⟩
    go_wp2_with fail
    refine (c6 _).mono ?_; rintro e w' ⟨rfl, rfl⟩
    go_wp2_with fail
    refine (c8 _).mono ?_; rintro e w' ⟨rfl, rfl⟩
    go_wp2_with fail
    refine (c4 _).mono ?_; rintro e w' ⟨rfl, rfl⟩
    go_wp2_with fail
    go_ret
    exact ⟨rfl, hb1⟩

theorem walk_NumTurns (a b : Int) (w : World) (ha : In64 a) (ht : Tab w) :
    Calls Tryd.prog 3 #[.int .i64 a, .int .i64 b] w fun e w' => e = .returned (.bool true) ∧ Below w.heap.size w w' := by
  have c1 : One 6 a (chkV (-a)) (chkE (-a)) := fun w => num_Neg a w ha
  have c5 : One 8 a (chkV (absI a)) (chkE (absI a)) := fun w => num_Abs a w ha
  have c4 : OneN 7 a (cmpV a 0) := fun w => num_Sign a w
  have c6 : TwoN 9 a b (cmpV a b) := fun w => num_Cmp a b w
  have c7 : TwoN 9 b a (cmpV b a) := fun w => num_Cmp b a w
  have c8 : TwoN 9 a 0 (cmpV a 0) := fun w => num_Cmp a 0 w
  by_cases hn : In64 (-a)
  · have c2 : One 6 (-a) a 0 := fun w => by
      have h := num_Neg (-a) w hn
      rw [show - -a = a by omega, chkV_in ha, chkE_in ha] at h
      exact h
    have c3 : OneN 7 (-a) (cmpV (-a) 0) := fun w => num_Sign (-a) w
    have hA : In64 (absI a) := by
      unfold absI
      split
      · exact ha
      · exact hn
    rw [chkV_in hn, chkE_in hn] at c1
    rw [chkV_in hA, chkE_in hA] at c5
    refine turn_yes a b (-a) (absI a) (cmpV a b) (cmpV b a) (cmpV a 0) (cmpV (-a) 0) w ht (cmps_of a b) ?_ c1 c2 c3 c4 c5 c6 c7 c8
    unfold absI cmpV
    rcases Int.lt_trichotomy a 0 with h | h | h
    · rw [if_neg (by omega), if_pos h, if_neg (by omega), if_pos (by omega)]
      exact .inl ⟨h, rfl, by omega, rfl, rfl⟩
    · subst h
      exact .inr (.inl ⟨rfl, rfl, rfl, rfl, rfl⟩)
    · rw [if_pos (by omega), if_neg (by omega), if_pos h, if_pos (by omega)]
      exact .inr (.inr ⟨h, rfl, rfl, rfl⟩)
  · have h : a < 0 := by unfold In64 at *; omega
    have hA : ¬ In64 (absI a) := by
      unfold absI
      rw [if_neg (by omega)]
      exact hn
    have hc : cmpV a 0 = -1 := if_pos h
    rw [chkV_out hn, chkE_out hn] at c1
    rw [chkV_out hA, chkE_out hA] at c5
    rw [hc] at c4 c8
    exact turn_no a b _ _ w ht (cmps_of a b) h c1 c4 c5 c6 c7 c8
end Go.Proofs.YtcelogngamijlabDoor
