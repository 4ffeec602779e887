/-
  The contracts of the document's own answers for char: among, Class, value.
-/
import Derived.Test.YtglaoacdenecfaaDoorChecked
import Derived.Test.YtglaoacdenecfaaDoorCharPlain
import Derived.WalkKit
import Derived.WalkSpells
import Derived.Lib.Hide
namespace Go.Proofs.YtglaoacdenecfaaDoor
open Go.RowKit

def memL (c : Int) (l : List UInt8) : Bool := l.any fun b => decide ((b.toNat : Int) = c)
theorem memL_snoc (c : Int) (s : ByteArray) (k : Nat) (h : k < s.size) (h1 : memL c (s.data.toList.take k) = false) (h2 : (s[k].toNat : Int) ≠ c) : memL c (s.data.toList.take (k + 1)) = false := by
  have e : s.data.toList.take (k + 1) = s.data.toList.take k ++ [s[k]] := by
    rw [List.take_succ_eq_append_getElem (by simpa using h)]; rfl
  unfold memL at *
  rw [e, List.any_append, h1]
  simp [h2]
theorem memL_hit (c : Int) (s : ByteArray) (k : Nat) (h : k < s.size) (h2 : (s[k].toNat : Int) = c) : memL c s.data.toList = true := by
  unfold memL
  rw [List.any_eq_true]
  exact ⟨s[k], by rw [show s[k] = s.data.toList[k]'(by simpa using h) from rfl]; exact List.getElem_mem _, by simpa using h2⟩
theorem ret_bool {a b : Bool} (h : a = b) : Ending.returned (.bool a) = .returned (.bool b) := by rw [h]
theorem ret_i {k : IntKind} {a b : Int} (h : a = b) : Ending.returned (.int k a) = .returned (.int k b) := by rw [h]

set_option maxHeartbeats 400000 in
theorem ref_among (c : Int) (s : ByteArray) (w : World) (hs : s.size ≤ 1000) :
    Calls Tryd.prog 57 #[.int .i32 c, .string s] w fun e w' => e = .returned (.bool (memL c s.data.toList)) ∧ w = w' := by
  go_enter Tryd.func57, Tryd.ntmps57
  go_wp2
  go_loop [5] (fun i => ∃ k : Nat, k ≤ s.size ∧ i = .int .i64 k ∧ Hid (memL c (s.data.toList.take k) = false)) (fun i => s.size - (intOf i).toNat)
  case atStart => exact ⟨0, Nat.zero_le _, rfl, Lib.hid rfl⟩
  case round =>
    obtain ⟨k, hk, rfl, HA⟩ := hrel
    by_cases hlt : k < s.size
    · have hn := Lib.hid (memL_snoc c s k hlt HA.out)
      have hh := Lib.hid (memL_hit c s k hlt)
      have hb : (s[k].toNat : Int) < 256 := by have := s[k].toNat_lt; omega
      by_cases he : (s[k].toNat : Int) = c
      · have e1 : (c == (s[k].toNat : Int)) = true := by simp [he]
        have hR := Lib.hid (hh.out he)
        clear he
        go_wp2
        go_ret
        exact ⟨ret_bool hR.out.symm, rfl⟩
      · have e1 : (c == (s[k].toNat : Int)) = false := by simp; omega
        have hR := Lib.hid (hn.out he)
        clear he
        go_wp2
        go_round
        case rel => exact ⟨k + 1, by omega, by go_num, hR⟩
        case measure => simp [intOf]; omega
    · have hR := HA.out
      rw [List.take_of_length_le (by simp; omega)] at hR
      have HR := Lib.hid hR
      clear hR HA
      go_wp2
      go_ret
      exact ⟨ret_bool HR.out.symm, rfl⟩

theorem mem4 (c : Int) : memL c [43, 45, 42, 47, 92, 94, 60, 62, 61, 126, 58, 46, 63, 64, 35, 38, 36] = decide (c = 43 ∨ c = 45 ∨ c = 42 ∨ c = 47 ∨ c = 92 ∨ c = 94 ∨ c = 60 ∨ c = 62 ∨ c = 61 ∨ c = 126 ∨ c = 58 ∨ c = 46 ∨ c = 63 ∨ c = 64 ∨ c = 35 ∨ c = 38 ∨ c = 36) := by
  rw [Bool.eq_iff_iff]
  simp [memL]
  omega
theorem mem6 (c : Int) : memL c [33, 59, 44, 124] = decide (c = 33 ∨ c = 59 ∨ c = 44 ∨ c = 124) := by
  rw [Bool.eq_iff_iff]
  simp [memL]
  omega
theorem mem7 (c : Int) : memL c [40, 41, 91, 93, 123, 125] = decide (c = 40 ∨ c = 41 ∨ c = 91 ∨ c = 93 ∨ c = 123 ∨ c = 125) := by
  rw [Bool.eq_iff_iff]
  simp [memL]
  omega

/-- A test whose outcome is known. -/
def Am (c : Int) (s : ByteArray) (b : Bool) : Prop := ∀ w, Calls Tryd.prog 57 #[.int .i32 c, .string s] w fun e w' => e = .returned (.bool b) ∧ w = w'

/-- Where no letter and no digit stands. -/
def Gap (c : Int) : Prop := c < 48 ∨ (58 ≤ c ∧ c ≤ 64) ∨ (91 ≤ c ∧ c ≤ 94) ∨ (96 ≤ c ∧ c ≤ 96) ∨ 123 ≤ c

set_option maxHeartbeats 1000000 in
theorem class4 (c : Int) (w : World) (hr : Gap c) (c4 : Am c ⟨#[43, 45, 42, 47, 92, 94, 60, 62, 61, 126, 58, 46, 63, 64, 35, 38, 36]⟩ true) :
    Calls Tryd.prog 40 #[.int .i32 c] w fun e w' => e = .returned (.int .i64 4) ∧ w = w' := by
  unfold Gap at hr
  rcases hr with hr | ⟨hr, hr2⟩ | ⟨hr, hr2⟩ | ⟨hr, hr2⟩ | hr
  all_goals
    have e95 : (c == 95) = false := by (simp; omega)
    go_enter Tryd.func40, Tryd.ntmps40
    go_wp2_with fail
    refine (c4 _).mono ?_; rintro e w' ⟨rfl, rfl⟩
    go_wp2_with fail
    go_ret
    exact ⟨rfl, rfl⟩

set_option maxHeartbeats 1000000 in
theorem class6 (c : Int) (w : World) (hr : Gap c) (c4 : Am c ⟨#[43, 45, 42, 47, 92, 94, 60, 62, 61, 126, 58, 46, 63, 64, 35, 38, 36]⟩ false) (e9 : (c == 9) = false) (e10 : (c == 10) = false) (e13 : (c == 13) = false) (e32 : (c == 32) = false) (c6 : Am c ⟨#[33, 59, 44, 124]⟩ true) :
    Calls Tryd.prog 40 #[.int .i32 c] w fun e w' => e = .returned (.int .i64 6) ∧ w = w' := by
  unfold Gap at hr
  rcases hr with hr | ⟨hr, hr2⟩ | ⟨hr, hr2⟩ | ⟨hr, hr2⟩ | hr
  all_goals
    have e95 : (c == 95) = false := by (simp; omega)
    go_enter Tryd.func40, Tryd.ntmps40
    go_wp2_with fail
    refine (c4 _).mono ?_; rintro e w' ⟨rfl, rfl⟩
    go_wp2_with fail
    refine (c6 _).mono ?_; rintro e w' ⟨rfl, rfl⟩
    go_wp2_with fail
    go_ret
    exact ⟨rfl, rfl⟩

set_option maxHeartbeats 1000000 in
theorem class7 (c : Int) (w : World) (hr : Gap c) (c4 : Am c ⟨#[43, 45, 42, 47, 92, 94, 60, 62, 61, 126, 58, 46, 63, 64, 35, 38, 36]⟩ false) (e9 : (c == 9) = false) (e10 : (c == 10) = false) (e13 : (c == 13) = false) (e32 : (c == 32) = false) (c6 : Am c ⟨#[33, 59, 44, 124]⟩ false) (c7 : Am c ⟨#[40, 41, 91, 93, 123, 125]⟩ true) :
    Calls Tryd.prog 40 #[.int .i32 c] w fun e w' => e = .returned (.int .i64 7) ∧ w = w' := by
  unfold Gap at hr
  rcases hr with hr | ⟨hr, hr2⟩ | ⟨hr, hr2⟩ | ⟨hr, hr2⟩ | hr
  all_goals
    have e95 : (c == 95) = false := by (simp; omega)
    go_enter Tryd.func40, Tryd.ntmps40
    go_wp2_with fail
    refine (c4 _).mono ?_; rintro e w' ⟨rfl, rfl⟩
    go_wp2_with fail
    refine (c6 _).mono ?_; rintro e w' ⟨rfl, rfl⟩
    go_wp2_with fail
    refine (c7 _).mono ?_; rintro e w' ⟨rfl, rfl⟩
    go_wp2_with fail
    go_ret
    exact ⟨rfl, rfl⟩

set_option maxHeartbeats 1000000 in
theorem class8 (c : Int) (w : World) (hr : Gap c) (c4 : Am c ⟨#[43, 45, 42, 47, 92, 94, 60, 62, 61, 126, 58, 46, 63, 64, 35, 38, 36]⟩ false) (e9 : (c == 9) = false) (e10 : (c == 10) = false) (e13 : (c == 13) = false) (e32 : (c == 32) = false) (c6 : Am c ⟨#[33, 59, 44, 124]⟩ false) (c7 : Am c ⟨#[40, 41, 91, 93, 123, 125]⟩ false) (e39 : (c == 39) = true) :
    Calls Tryd.prog 40 #[.int .i32 c] w fun e w' => e = .returned (.int .i64 8) ∧ w = w' := by
  unfold Gap at hr
  rcases hr with hr | ⟨hr, hr2⟩ | ⟨hr, hr2⟩ | ⟨hr, hr2⟩ | hr
  all_goals
    have e95 : (c == 95) = false := by (simp; omega)
    go_enter Tryd.func40, Tryd.ntmps40
    go_wp2_with fail
    refine (c4 _).mono ?_; rintro e w' ⟨rfl, rfl⟩
    go_wp2_with fail
    refine (c6 _).mono ?_; rintro e w' ⟨rfl, rfl⟩
    go_wp2_with fail
    refine (c7 _).mono ?_; rintro e w' ⟨rfl, rfl⟩
    go_wp2_with fail
    go_ret
    exact ⟨rfl, rfl⟩

set_option maxHeartbeats 1000000 in
theorem class0 (c : Int) (w : World) (hr : Gap c) (c4 : Am c ⟨#[43, 45, 42, 47, 92, 94, 60, 62, 61, 126, 58, 46, 63, 64, 35, 38, 36]⟩ false) (e9 : (c == 9) = false) (e10 : (c == 10) = false) (e13 : (c == 13) = false) (e32 : (c == 32) = false) (c6 : Am c ⟨#[33, 59, 44, 124]⟩ false) (c7 : Am c ⟨#[40, 41, 91, 93, 123, 125]⟩ false) (e39 : (c == 39) = false) :
    Calls Tryd.prog 40 #[.int .i32 c] w fun e w' => e = .returned (.int .i64 0) ∧ w = w' := by
  unfold Gap at hr
  rcases hr with hr | ⟨hr, hr2⟩ | ⟨hr, hr2⟩ | ⟨hr, hr2⟩ | hr
  all_goals
    have e95 : (c == 95) = false := by (simp; omega)
    go_enter Tryd.func40, Tryd.ntmps40
    go_wp2_with fail
    refine (c4 _).mono ?_; rintro e w' ⟨rfl, rfl⟩
    go_wp2_with fail
    refine (c6 _).mono ?_; rintro e w' ⟨rfl, rfl⟩
    go_wp2_with fail
    refine (c7 _).mono ?_; rintro e w' ⟨rfl, rfl⟩
    go_wp2_with fail
    go_ret
    exact ⟨rfl, rfl⟩

end Go.Proofs.YtglaoacdenecfaaDoor
