/-
  The law NumUndoes of package num, walked: it answers true, for all numbers of 64 bits; nothing that was there has changed.
-/
import Derived.Test.YtcelogngamijlaaDoorNumLive
namespace Go.Proofs.YtcelogngamijlaaDoor
open Go.RowKit

/-- The signs and sizes of a quotient's rest. -/
structure Rest (a b q r m : Int) : Prop where
  eq : q * b + r = a
  lo : -9223372036854775808 ≤ q * b
  hi : q * b ≤ 9223372036854775807
  sgn : (r = 0 ∧ m = 0) ∨ (r < 0 ∧ a < 0 ∧ b < 0 ∧ m = r) ∨ (0 < r ∧ 0 < a ∧ 0 < b ∧ m = r) ∨ (r < 0 ∧ a < 0 ∧ 0 < b ∧ m = r + b ∧ 0 < m) ∨ (0 < r ∧ 0 < a ∧ b < 0 ∧ m = r + b ∧ m < 0)
theorem rest_of (a b : Int) (ha : In64 a) (h0 : b ≠ 0) : Rest a b (a.tdiv b) (a.tmod b) (adj (a.tmod b) b) := by
  have h1 := tdiv_off a b
  have h2 := tmod_lt a b h0
  have h3 : (0 ≤ a → 0 ≤ a.tmod b) ∧ (a ≤ 0 → a.tmod b ≤ 0) := by
    refine ⟨fun h => Int.tmod_nonneg b h, fun h => ?_⟩
    have h5 := Int.tmod_nonneg b (show 0 ≤ -a by omega)
    rw [Int.neg_tmod] at h5
    omega
  have h4 : (a.tmod b).natAbs ≤ a.natAbs := by
    have h5 : (a.tmod b).natAbs = a.natAbs % b.natAbs := Int.natAbs_tmod a b
    rw [h5]
    exact Nat.mod_le _ _
  rw [Int.mul_comm] at h1
  unfold adj In64 at *
  obtain ⟨h31, h32⟩ := h3
  generalize hp : a.tdiv b * b = p at *
  generalize a.tmod b = r at *
  refine ⟨by omega, by omega, by omega, ?_⟩
  by_cases hr : r = 0
  · exact .inl ⟨hr, by rw [if_neg (fun h => h.1 hr)]; exact hr⟩
  by_cases hb : b < 0
  · by_cases hr2 : r < 0
    · rw [if_neg (fun h => h.2 (by simp [hr2, hb]))]
      right; left; omega
    · rw [if_pos ⟨hr, by simp [hr2, hb]⟩]
      right; right; right; right; omega
  · by_cases hr2 : r < 0
    · rw [if_pos ⟨hr, by simp [hr2, hb]⟩]
      right; right; right; left; omega
    · rw [if_neg (fun h => h.2 (by simp [hr2, hb]))]
      right; right; left; omega

/-- A function of two numbers that answers v and the error e. -/
def Two (f : Nat) (x y v e : Int) : Prop := ∀ w, Calls Tryd.prog f #[.int .i64 x, .int .i64 y] w fun r w' => r = .returned (.tuple #[.int .i64 v, .int .i64 e]) ∧ w = w'

set_option maxHeartbeats 4000000 in
theorem undo_zero (a : Int) (w : World) (ha : In64 a) (ht : Tab w) :
    Calls Tryd.prog 8 #[.int .i64 a, .int .i64 0] w fun e w' => e = .returned (.bool true) ∧ Below w.heap.size w w' := by
  have h0 : In64 0 := by unfold In64; omega
  have c1 : Two 9 a 0 a 0 := fun w => by
    have h := num_Add a 0 w ha h0
    rw [show a + 0 = a by omega, chkV_in ha, chkE_in ha] at h
    exact h
  have c2 : Two 12 a 0 a 0 := fun w => by
    have h := num_Sub a 0 w ha h0
    rw [show a - 0 = a by omega, chkV_in ha, chkE_in ha] at h
    exact h
  have HT := Lib.hid ht
  clear ht
  go_enter Tryd.func8, Tryd.ntmps8
  go_wp2_with fail
  refine (law_live _ HT.out).mono ?_; rintro e w1 ⟨rfl, hb1⟩
  go_wp2_with fail
  refine (c1 _).mono ?_; rintro e w' ⟨rfl, rfl⟩
  go_wp2_with fail
  refine (c2 _).mono ?_; rintro e w' ⟨rfl, rfl⟩
  go_wp2_with fail
  refine (num_Quo _ _ _ ha h0).mono ?_; rintro e w' ⟨rfl, rfl⟩; rw [show quoE a 0 = 11 from rfl]
  go_wp2_with fail
  refine (num_Rem _ _ _ ha h0).mono ?_; rintro e w' ⟨rfl, rfl⟩; rw [show zeroE 0 = 11 from rfl]
  go_wp2_with fail
  refine (num_Mod _ _ _ ha h0).mono ?_; rintro e w' ⟨rfl, rfl⟩; rw [show zeroE 0 = 11 from rfl]
  go_wp2_with fail
  go_ret
  exact ⟨rfl, hb1⟩

set_option maxHeartbeats 8000000 in
theorem undo_core (a b q r m : Int) (w : World) (ha : In64 a) (hb : In64 b) (h0 : b ≠ 0) (hr : In64 r) (hm : In64 m) (hR : Rest a b q r m) (ht : Tab w)
    (cq : Two 17 a b q 0) (cr : Two 19 a b r 0) (cm : Two 21 a b m 0) (cp : Two 14 q b (q * b) 0) (ct : Two 9 (q * b) r a 0) :
    Calls Tryd.prog 8 #[.int .i64 a, .int .i64 b] w fun e w' => e = .returned (.bool true) ∧ Below w.heap.size w w' := by
  have HT := Lib.hid ht
  clear ht
  obtain ⟨_, _, _, hs⟩ := hR
  generalize q * b = p at cp ct
  have ha' := ha
  have hb' := hb
  unfold In64 at ha hb hr hm
  obtain ⟨ha1, ha2⟩ := ha
  obtain ⟨hb1, hb2⟩ := hb
  obtain ⟨hr1, hr2⟩ := hr
  obtain ⟨hm1, hm2⟩ := hm
  have eb : (b == 0) = false := by simpa using h0
  by_cases hi : In64 (a + b)
  · have c1 : Two 9 a b (a + b) 0 := fun w => by
      have h := num_Add a b w ha' hb'
      rw [chkV_in hi, chkE_in hi] at h
      exact h
    have c2 : Two 12 (a + b) b a 0 := fun w => by
      have h := num_Sub (a + b) b w hi hb'
      rw [show a + b - b = a by omega, chkV_in ha', chkE_in ha'] at h
      exact h
    generalize a + b = s at c1 c2
    clear hi
    rcases hs with ⟨h1, h2⟩ | ⟨h1, h2, h3, h4⟩ | ⟨h1, h2, h3, h4⟩ | ⟨h1, h2, h3, h4, h5⟩ | ⟨h1, h2, h3, h4, h5⟩
    all_goals
      first
        | (have f1 : (m != r) = false := by (simp; omega))
        | (have f1 : (m != r) = true := by (simp; omega)
           have f2 : (m != r + b) = false := by (simp; omega)
           have g1 : -9223372036854775808 ≤ r + b := by omega
           have g2 : r + b ≤ 9223372036854775807 := by omega)
      first
        | (have f3 : (m != 0) = false := by (simp; omega))
        | (have f3 : (m != 0) = true := by (simp; omega))
      first
        | (have f4 : decide (m < 0) = false := by (simp; omega))
        | (have f4 : decide (m < 0) = true := by (simp; omega))
      first
        | (have f5 : decide (b < 0) = false := by (simp; omega))
        | (have f5 : decide (b < 0) = true := by (simp; omega))
        | skip
      first
        | (have f6 : (r == 0) = false := by (simp; omega))
        | (have f6 : (r == 0) = true := by (simp; omega))
      first
        | (have f7 : decide (r < 0) = false := by (simp; omega))
        | (have f7 : decide (r < 0) = true := by (simp; omega))
      first
        | (have f8 : decide (a < 0) = false := by (simp; omega))
        | (have f8 : decide (a < 0) = true := by (simp; omega))
        | skip
      clear h1 h2
      try clear h3 h4
      try clear h5
      go_enter Tryd.func8, Tryd.ntmps8
      go_wp2_with fail
      refine (law_live _ HT.out).mono ?_; rintro e w1 ⟨rfl, hb1⟩
      go_wp2_with fail
      refine (c1 _).mono ?_; rintro e w' ⟨rfl, rfl⟩
      go_wp2_with fail
      refine (c2 _).mono ?_; rintro e w' ⟨rfl, rfl⟩
      go_wp2_with fail
      refine (cq _).mono ?_; rintro e w' ⟨rfl, rfl⟩
      go_wp2_with fail
      refine (cr _).mono ?_; rintro e w' ⟨rfl, rfl⟩
      go_wp2_with fail
      refine (cm _).mono ?_; rintro e w' ⟨rfl, rfl⟩
      go_wp2_with fail
      refine (cp _).mono ?_; rintro e w' ⟨rfl, rfl⟩
      go_wp2_with fail
      refine (ct _).mono ?_; rintro e w' ⟨rfl, rfl⟩
      go_wp2_with fail
      go_ret
      exact ⟨rfl, hb1⟩
  · have c1 : Two 9 a b 0 10 := fun w => by
      have h := num_Add a b w ha' hb'
      rw [chkV_out hi, chkE_out hi] at h
      exact h
    clear hi
    rcases hs with ⟨h1, h2⟩ | ⟨h1, h2, h3, h4⟩ | ⟨h1, h2, h3, h4⟩ | ⟨h1, h2, h3, h4, h5⟩ | ⟨h1, h2, h3, h4, h5⟩
    all_goals
      first
        | (have f1 : (m != r) = false := by (simp; omega))
        | (have f1 : (m != r) = true := by (simp; omega)
           have f2 : (m != r + b) = false := by (simp; omega)
           have g1 : -9223372036854775808 ≤ r + b := by omega
           have g2 : r + b ≤ 9223372036854775807 := by omega)
      first
        | (have f3 : (m != 0) = false := by (simp; omega))
        | (have f3 : (m != 0) = true := by (simp; omega))
      first
        | (have f4 : decide (m < 0) = false := by (simp; omega))
        | (have f4 : decide (m < 0) = true := by (simp; omega))
      first
        | (have f5 : decide (b < 0) = false := by (simp; omega))
        | (have f5 : decide (b < 0) = true := by (simp; omega))
        | skip
      first
        | (have f6 : (r == 0) = false := by (simp; omega))
        | (have f6 : (r == 0) = true := by (simp; omega))
      first
        | (have f7 : decide (r < 0) = false := by (simp; omega))
        | (have f7 : decide (r < 0) = true := by (simp; omega))
      first
        | (have f8 : decide (a < 0) = false := by (simp; omega))
        | (have f8 : decide (a < 0) = true := by (simp; omega))
        | skip
      clear h1 h2
      try clear h3 h4
      try clear h5
      go_enter Tryd.func8, Tryd.ntmps8
      go_wp2_with fail
      refine (law_live _ HT.out).mono ?_; rintro e w1 ⟨rfl, hb1⟩
      go_wp2_with fail
      refine (c1 _).mono ?_; rintro e w' ⟨rfl, rfl⟩
      go_wp2_with fail
      refine (cq _).mono ?_; rintro e w' ⟨rfl, rfl⟩
      go_wp2_with fail
      refine (cr _).mono ?_; rintro e w' ⟨rfl, rfl⟩
      go_wp2_with fail
      refine (cm _).mono ?_; rintro e w' ⟨rfl, rfl⟩
      go_wp2_with fail
      refine (cp _).mono ?_; rintro e w' ⟨rfl, rfl⟩
      go_wp2_with fail
      refine (ct _).mono ?_; rintro e w' ⟨rfl, rfl⟩
      go_wp2_with fail
      go_ret
      exact ⟨rfl, hb1⟩

set_option maxHeartbeats 4000000 in
theorem undo_over_core (a b : Int) (w : World) (ht : Tab w) (e1 : (b == 0) = false) (e2 : (b == -1) = true)
    (c1 : Two 9 a b 0 10) (cq : Two 17 a b 0 10) (cr : Two 19 a b 0 0) (cm : Two 21 a b 0 0) :
    Calls Tryd.prog 8 #[.int .i64 a, .int .i64 b] w fun e w' => e = .returned (.bool true) ∧ Below w.heap.size w w' := by
  have HT := Lib.hid ht
  clear ht
  go_enter Tryd.func8, Tryd.ntmps8
  go_wp2_with fail
  refine (law_live _ HT.out).mono ?_; rintro e w1 ⟨rfl, hb1⟩
  go_wp2_with fail
  refine (c1 _).mono ?_; rintro e w' ⟨rfl, rfl⟩
  go_wp2_with fail
  refine (cq _).mono ?_; rintro e w' ⟨rfl, rfl⟩
  go_wp2_with fail
  refine (cr _).mono ?_; rintro e w' ⟨rfl, rfl⟩
  go_wp2_with fail
  refine (cm _).mono ?_; rintro e w' ⟨rfl, rfl⟩
  go_wp2_with fail
  go_ret
  exact ⟨rfl, hb1⟩

theorem undo_over (w : World) (ht : Tab w) :
    Calls Tryd.prog 8 #[.int .i64 (-9223372036854775808), .int .i64 (-1)] w fun e w' => e = .returned (.bool true) ∧ Below w.heap.size w w' := by
  have ha : In64 (-9223372036854775808) := by unfold In64; omega
  have hb : In64 (-1) := by unfold In64; omega
  have ho : ¬ In64 (-9223372036854775808 + -1) := by unfold In64; omega
  have hq : ¬ In64 ((-9223372036854775808 : Int).tdiv (-1)) := by rw [tdiv_neg1]; unfold In64; omega
  have c1 : Two 9 (-9223372036854775808) (-1) 0 10 := fun w => by
    have h := num_Add _ _ w ha hb
    rw [chkV_out ho, chkE_out ho] at h
    exact h
  have cq : Two 17 (-9223372036854775808) (-1) 0 10 := fun w => by
    have h := num_Quo _ _ w ha hb
    unfold quoV quoE at h
    rw [if_neg (by decide), if_neg (by decide), chkV_out hq, chkE_out hq] at h
    exact h
  have cr : Two 19 (-9223372036854775808) (-1) 0 0 := fun w => by
    have h := num_Rem _ _ w ha hb
    unfold remV zeroE at h
    rw [if_neg (by decide), if_neg (by decide), tmod_neg1] at h
    exact h
  have cm : Two 21 (-9223372036854775808) (-1) 0 0 := fun w => by
    have h := num_Mod _ _ w ha hb
    unfold modV zeroE at h
    rw [if_neg (by decide), if_neg (by decide), tmod_neg1, adj_zero] at h
    exact h
  exact undo_over_core _ _ w ht (by decide) (by decide) c1 cq cr cm

theorem walk_NumUndoes (a b : Int) (w : World) (ha : In64 a) (hb : In64 b) (ht : Tab w) :
    Calls Tryd.prog 8 #[.int .i64 a, .int .i64 b] w fun e w' => e = .returned (.bool true) ∧ Below w.heap.size w w' := by
  by_cases h0 : b = 0
  · subst h0; exact undo_zero a w ha ht
  by_cases ho : a = -9223372036854775808 ∧ b = -1
  · obtain ⟨rfl, rfl⟩ := ho; exact undo_over w ht
  have hR := rest_of a b ha h0
  have hr := tmod_in (a := a) hb h0
  have hq : In64 (a.tdiv b) := by
    by_cases h1 : b = -1
    · subst h1; rw [tdiv_neg1]; unfold In64 at *; omega
    · exact tdiv_in ha h0 h1
  have hp : In64 (a.tdiv b * b) := ⟨hR.lo, hR.hi⟩
  refine undo_core a b (a.tdiv b) (a.tmod b) (adj (a.tmod b) b) w ha hb h0 hr (adj_in hr hb) hR ht ?_ ?_ ?_ ?_ ?_
  · intro w
    have h := num_Quo a b w ha hb
    unfold quoV quoE at h
    rw [if_neg h0, if_neg h0, chkV_in hq, chkE_in hq] at h
    exact h
  · intro w
    have h := num_Rem a b w ha hb
    unfold remV zeroE at h
    rw [if_neg h0, if_neg h0] at h
    exact h
  · intro w
    have h := num_Mod a b w ha hb
    unfold modV zeroE at h
    rw [if_neg h0, if_neg h0] at h
    exact h
  · intro w
    have h := num_Mul (a.tdiv b) b w hq hb
    rw [chkV_in hp, chkE_in hp] at h
    exact h
  · intro w
    have h := num_Add (a.tdiv b * b) (a.tmod b) w hp hr
    rw [hR.eq, chkV_in ha, chkE_in ha] at h
    exact h
end Go.Proofs.YtcelogngamijlaaDoor
