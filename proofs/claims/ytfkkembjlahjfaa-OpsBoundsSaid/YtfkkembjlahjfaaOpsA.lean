/-
  The contracts of package ops' Left and Right and of the document's own: what may stand at the sides of any operator.
-/
import Derived.Test.YtfkkembjlahjfaaChecked
import Derived.WalkKit
import Derived.WalkSpells
import Derived.Below
import Derived.Lib.Hide
import Derived.Deep.QuietTactic
import Derived.BigQuiet
import Derived.IntWalk
namespace Go.Proofs.Ytfkkembjlahjfaa
open Go.RowKit

def In64 (x : Int) : Prop := -9223372036854775808 ≤ x ∧ x ≤ 9223372036854775807
theorem ret_int {a b : Int} (h : a = b) : Ending.returned (.int .i64 a) = .returned (.int .i64 b) := by rw [h]
theorem ret_bool {a b : Bool} (h : a = b) : Ending.returned (.bool a) = .returned (.bool b) := by rw [h]
theorem below_drewN {B : Nat} {a w : World} (h : Below B a w) (n : Nat) : Below B a (w.drewN n) := ⟨h.os, h.tape, h.output, h.size, h.block⟩
/-- What may stand at the left, at the right. -/
def leftOf (t : ByteArray) (p : Int) : Int := if t.toList == [120, 102, 120] || t.toList == [120, 102, 121] then wrap64 (p - 1) else if t.toList == [121, 102, 120] then p else 0
def rightOf (t : ByteArray) (p : Int) : Int := if t.toList == [120, 102, 120] || t.toList == [121, 102, 120] || t.toList == [102, 120] then wrap64 (p - 1) else if t.toList == [120, 102, 121] || t.toList == [102, 121] then p else 0
/-- Its type is one of the five, or none of them: facts as the walks spell them. -/
def KindIs (t : ByteArray) (a b c d e : Bool) : Prop := (t.toList == [120, 102, 120]) = a ∧ (t.toList == [120, 102, 121]) = b ∧ (t.toList == [121, 102, 120]) = c ∧ (t.toList == [102, 120]) = d ∧ (t.toList == [102, 121]) = e
theorem toList_inj {s : ByteArray} {l : List UInt8} (h : s.toList = l) : s = ⟨l.toArray⟩ := by
  rw [ByteArray.toList_eq] at h
  subst h; rfl
theorem kinds (t : ByteArray) : t = ⟨#[120, 102, 120]⟩ ∨ t = ⟨#[120, 102, 121]⟩ ∨ t = ⟨#[121, 102, 120]⟩ ∨ t = ⟨#[102, 120]⟩ ∨ t = ⟨#[102, 121]⟩ ∨ KindIs t false false false false false := by
  by_cases h1 : t = ⟨#[120, 102, 120]⟩
  · exact .inl h1
  by_cases h2 : t = ⟨#[120, 102, 121]⟩
  · exact .inr (.inl h2)
  by_cases h3 : t = ⟨#[121, 102, 120]⟩
  · exact .inr (.inr (.inl h3))
  by_cases h4 : t = ⟨#[102, 120]⟩
  · exact .inr (.inr (.inr (.inl h4)))
  by_cases h5 : t = ⟨#[102, 121]⟩
  · exact .inr (.inr (.inr (.inr (.inl h5))))
  · refine .inr (.inr (.inr (.inr (.inr ⟨?_, ?_, ?_, ?_, ?_⟩))))
    · exact beq_eq_false_iff_ne.2 (fun h => h1 (toList_inj h))
    · exact beq_eq_false_iff_ne.2 (fun h => h2 (toList_inj h))
    · exact beq_eq_false_iff_ne.2 (fun h => h3 (toList_inj h))
    · exact beq_eq_false_iff_ne.2 (fun h => h4 (toList_inj h))
    · exact beq_eq_false_iff_ne.2 (fun h => h5 (toList_inj h))
theorem is_xfx : KindIs ⟨#[120, 102, 120]⟩ true false false false false := ⟨by decide +kernel, by decide +kernel, by decide +kernel, by decide +kernel, by decide +kernel⟩
theorem is_xfy : KindIs ⟨#[120, 102, 121]⟩ false true false false false := ⟨by decide +kernel, by decide +kernel, by decide +kernel, by decide +kernel, by decide +kernel⟩
theorem is_yfx : KindIs ⟨#[121, 102, 120]⟩ false false true false false := ⟨by decide +kernel, by decide +kernel, by decide +kernel, by decide +kernel, by decide +kernel⟩
theorem is_fx : KindIs ⟨#[102, 120]⟩ false false false true false := ⟨by decide +kernel, by decide +kernel, by decide +kernel, by decide +kernel, by decide +kernel⟩
theorem is_fy : KindIs ⟨#[102, 121]⟩ false false false false true := ⟨by decide +kernel, by decide +kernel, by decide +kernel, by decide +kernel, by decide +kernel⟩

set_option maxHeartbeats 1000000 in
theorem ops_side (c p : Int) (w : World) :
    Calls Try.prog 24 #[.int .i64 p, .int .u8 c] w fun e w' => e = .returned (.int .i64 (if c == 120 then wrap64 (p - 1) else p)) ∧ w' = w := by
  cases e1 : (c == 120) with
  | true =>
    go_enter Try.func24, Try.ntmps24
    go_wp2
    go_ret
    exact ⟨rfl, rfl⟩
  | false =>
    go_enter Try.func24, Try.ntmps24
    go_wp2
    go_ret
    exact ⟨rfl, rfl⟩

set_option maxHeartbeats 2000000 in
theorem ops_Left (t : ByteArray) (p : Int) (w : World) :
    Calls Try.prog 15 #[.agg #[.int .i64 p, .string t]] w fun e w' => e = .returned (.int .i64 (leftOf t p)) ∧ Below w.heap.size w w' := by
  have HB := Lib.hid (fun o : Obj => (Below.refl w.heap.size w).alloc (Nat.le_refl _) o)
  obtain ⟨E, hE⟩ : ∃ E, leftOf t p = E := ⟨_, rfl⟩
  rw [hE]
  have HE := Lib.hid hE
  clear hE
  rcases kinds t with rfl | rfl | rfl | rfl | rfl | hk
  · obtain ⟨h1, h2, h3, h4, h5⟩ := is_xfx
    have HV : Hid (E = wrap64 (p - 1)) := Lib.hid (HE.out.symm.trans (by unfold leftOf; rw [h1, h2, h3]; rfl))
    go_enter Try.func15, Try.ntmps15
    go_wp2_with fail
    go_ret
    exact ⟨ret_int HV.out.symm, HB.out _⟩
  · obtain ⟨h1, h2, h3, h4, h5⟩ := is_xfy
    have HV : Hid (E = wrap64 (p - 1)) := Lib.hid (HE.out.symm.trans (by unfold leftOf; rw [h1, h2, h3]; rfl))
    go_enter Try.func15, Try.ntmps15
    go_wp2_with fail
    go_ret
    exact ⟨ret_int HV.out.symm, HB.out _⟩
  · obtain ⟨h1, h2, h3, h4, h5⟩ := is_yfx
    have HV : Hid (E = p) := Lib.hid (HE.out.symm.trans (by unfold leftOf; rw [h1, h2, h3]; rfl))
    go_enter Try.func15, Try.ntmps15
    go_wp2_with fail
    go_ret
    exact ⟨ret_int HV.out.symm, HB.out _⟩
  · obtain ⟨h1, h2, h3, h4, h5⟩ := is_fx
    have HV : Hid (E = 0) := Lib.hid (HE.out.symm.trans (by unfold leftOf; rw [h1, h2, h3]; rfl))
    go_enter Try.func15, Try.ntmps15
    go_wp2_with fail
    go_ret
    exact ⟨ret_int HV.out.symm, HB.out _⟩
  · obtain ⟨h1, h2, h3, h4, h5⟩ := is_fy
    have HV : Hid (E = 0) := Lib.hid (HE.out.symm.trans (by unfold leftOf; rw [h1, h2, h3]; rfl))
    go_enter Try.func15, Try.ntmps15
    go_wp2_with fail
    go_ret
    exact ⟨ret_int HV.out.symm, HB.out _⟩
  · obtain ⟨h1, h2, h3, h4, h5⟩ := hk
    have HV : Hid (E = 0) := Lib.hid (HE.out.symm.trans (by unfold leftOf; rw [h1, h2, h3]; rfl))
    go_enter Try.func15, Try.ntmps15
    go_wp2_with fail
    go_ret
    exact ⟨ret_int HV.out.symm, HB.out _⟩

set_option maxHeartbeats 2000000 in
theorem ops_Right (t : ByteArray) (p : Int) (w : World) :
    Calls Try.prog 17 #[.agg #[.int .i64 p, .string t]] w fun e w' => e = .returned (.int .i64 (rightOf t p)) ∧ Below w.heap.size w w' := by
  have HB := Lib.hid (fun o : Obj => (Below.refl w.heap.size w).alloc (Nat.le_refl _) o)
  obtain ⟨E, hE⟩ : ∃ E, rightOf t p = E := ⟨_, rfl⟩
  rw [hE]
  have HE := Lib.hid hE
  clear hE
  rcases kinds t with rfl | rfl | rfl | rfl | rfl | hk
  · obtain ⟨h1, h2, h3, h4, h5⟩ := is_xfx
    have HV : Hid (E = wrap64 (p - 1)) := Lib.hid (HE.out.symm.trans (by unfold rightOf; rw [h1, h2, h3, h4, h5]; rfl))
    go_enter Try.func17, Try.ntmps17
    go_wp2_with fail
    go_ret
    exact ⟨ret_int HV.out.symm, HB.out _⟩
  · obtain ⟨h1, h2, h3, h4, h5⟩ := is_xfy
    have HV : Hid (E = p) := Lib.hid (HE.out.symm.trans (by unfold rightOf; rw [h1, h2, h3, h4, h5]; rfl))
    go_enter Try.func17, Try.ntmps17
    go_wp2_with fail
    go_ret
    exact ⟨ret_int HV.out.symm, HB.out _⟩
  · obtain ⟨h1, h2, h3, h4, h5⟩ := is_yfx
    have HV : Hid (E = wrap64 (p - 1)) := Lib.hid (HE.out.symm.trans (by unfold rightOf; rw [h1, h2, h3, h4, h5]; rfl))
    go_enter Try.func17, Try.ntmps17
    go_wp2_with fail
    go_ret
    exact ⟨ret_int HV.out.symm, HB.out _⟩
  · obtain ⟨h1, h2, h3, h4, h5⟩ := is_fx
    have HV : Hid (E = wrap64 (p - 1)) := Lib.hid (HE.out.symm.trans (by unfold rightOf; rw [h1, h2, h3, h4, h5]; rfl))
    go_enter Try.func17, Try.ntmps17
    go_wp2_with fail
    go_ret
    exact ⟨ret_int HV.out.symm, HB.out _⟩
  · obtain ⟨h1, h2, h3, h4, h5⟩ := is_fy
    have HV : Hid (E = p) := Lib.hid (HE.out.symm.trans (by unfold rightOf; rw [h1, h2, h3, h4, h5]; rfl))
    go_enter Try.func17, Try.ntmps17
    go_wp2_with fail
    go_ret
    exact ⟨ret_int HV.out.symm, HB.out _⟩
  · obtain ⟨h1, h2, h3, h4, h5⟩ := hk
    have HV : Hid (E = 0) := Lib.hid (HE.out.symm.trans (by unfold rightOf; rw [h1, h2, h3, h4, h5]; rfl))
    go_enter Try.func17, Try.ntmps17
    go_wp2_with fail
    go_ret
    exact ⟨ret_int HV.out.symm, HB.out _⟩

set_option maxHeartbeats 2000000 in
theorem ref_Left (t : ByteArray) (p : Int) (w : World) :
    Calls Try.prog 16 #[.agg #[.int .i64 p, .string t]] w fun e w' => e = .returned (.int .i64 (leftOf t p)) ∧ Below w.heap.size w w' := by
  have HB := Lib.hid (fun o : Obj => (Below.refl w.heap.size w).alloc (Nat.le_refl _) o)
  obtain ⟨E, hE⟩ : ∃ E, leftOf t p = E := ⟨_, rfl⟩
  rw [hE]
  have HE := Lib.hid hE
  clear hE
  rcases kinds t with rfl | rfl | rfl | rfl | rfl | hk
  · obtain ⟨h1, h2, h3, h4, h5⟩ := is_xfx
    have HV : Hid (E = wrap64 (p - 1)) := Lib.hid (HE.out.symm.trans (by unfold leftOf; rw [h1, h2, h3]; rfl))
    go_enter Try.func16, Try.ntmps16
    go_wp2_with fail
    go_quiet ((go_at_call 24; exact Calls.quiet_of_same (ops_side _ _ _)))
    go_wp2_with fail
    go_ret
    exact ⟨ret_int (by rw [HV.out]), by first | exact HB.out _ | exact below_drewN (HB.out _) _⟩
  · obtain ⟨h1, h2, h3, h4, h5⟩ := is_xfy
    have HV : Hid (E = wrap64 (p - 1)) := Lib.hid (HE.out.symm.trans (by unfold leftOf; rw [h1, h2, h3]; rfl))
    go_enter Try.func16, Try.ntmps16
    go_wp2_with fail
    go_quiet ((go_at_call 24; exact Calls.quiet_of_same (ops_side _ _ _)))
    go_wp2_with fail
    go_ret
    exact ⟨ret_int (by rw [HV.out]), by first | exact HB.out _ | exact below_drewN (HB.out _) _⟩
  · obtain ⟨h1, h2, h3, h4, h5⟩ := is_yfx
    have HV : Hid (E = p) := Lib.hid (HE.out.symm.trans (by unfold leftOf; rw [h1, h2, h3]; rfl))
    go_enter Try.func16, Try.ntmps16
    go_wp2_with fail
    go_quiet ((go_at_call 24; exact Calls.quiet_of_same (ops_side _ _ _)))
    go_wp2_with fail
    go_ret
    exact ⟨ret_int (by rw [HV.out]), by first | exact HB.out _ | exact below_drewN (HB.out _) _⟩
  · obtain ⟨h1, h2, h3, h4, h5⟩ := is_fx
    have HV : Hid (E = 0) := Lib.hid (HE.out.symm.trans (by unfold leftOf; rw [h1, h2, h3]; rfl))
    go_enter Try.func16, Try.ntmps16
    go_wp2_with fail
    go_ret
    exact ⟨ret_int (by rw [HV.out]), by first | exact HB.out _ | exact below_drewN (HB.out _) _⟩
  · obtain ⟨h1, h2, h3, h4, h5⟩ := is_fy
    have HV : Hid (E = 0) := Lib.hid (HE.out.symm.trans (by unfold leftOf; rw [h1, h2, h3]; rfl))
    go_enter Try.func16, Try.ntmps16
    go_wp2_with fail
    go_ret
    exact ⟨ret_int (by rw [HV.out]), by first | exact HB.out _ | exact below_drewN (HB.out _) _⟩
  · obtain ⟨h1, h2, h3, h4, h5⟩ := hk
    have HV : Hid (E = 0) := Lib.hid (HE.out.symm.trans (by unfold leftOf; rw [h1, h2, h3]; rfl))
    go_enter Try.func16, Try.ntmps16
    go_wp2_with fail
    go_ret
    exact ⟨ret_int (by rw [HV.out]), by first | exact HB.out _ | exact below_drewN (HB.out _) _⟩

set_option maxHeartbeats 2000000 in
theorem ref_Right (t : ByteArray) (p : Int) (w : World) :
    Calls Try.prog 18 #[.agg #[.int .i64 p, .string t]] w fun e w' => e = .returned (.int .i64 (rightOf t p)) ∧ Below w.heap.size w w' := by
  have HB := Lib.hid (fun o : Obj => (Below.refl w.heap.size w).alloc (Nat.le_refl _) o)
  obtain ⟨E, hE⟩ : ∃ E, rightOf t p = E := ⟨_, rfl⟩
  rw [hE]
  have HE := Lib.hid hE
  clear hE
  rcases kinds t with rfl | rfl | rfl | rfl | rfl | hk
  · obtain ⟨h1, h2, h3, h4, h5⟩ := is_xfx
    have HV : Hid (E = wrap64 (p - 1)) := Lib.hid (HE.out.symm.trans (by unfold rightOf; rw [h1, h2, h3, h4, h5]; rfl))
    go_enter Try.func18, Try.ntmps18
    go_wp2_with fail
    go_quiet ((go_at_call 24; exact Calls.quiet_of_same (ops_side _ _ _)))
    go_wp2_with fail
    go_ret
    exact ⟨ret_int (by rw [HV.out]), by first | exact HB.out _ | exact below_drewN (HB.out _) _⟩
  · obtain ⟨h1, h2, h3, h4, h5⟩ := is_xfy
    have HV : Hid (E = p) := Lib.hid (HE.out.symm.trans (by unfold rightOf; rw [h1, h2, h3, h4, h5]; rfl))
    go_enter Try.func18, Try.ntmps18
    go_wp2_with fail
    go_quiet ((go_at_call 24; exact Calls.quiet_of_same (ops_side _ _ _)))
    go_wp2_with fail
    go_ret
    exact ⟨ret_int (by rw [HV.out]), by first | exact HB.out _ | exact below_drewN (HB.out _) _⟩
  · obtain ⟨h1, h2, h3, h4, h5⟩ := is_yfx
    have HV : Hid (E = wrap64 (p - 1)) := Lib.hid (HE.out.symm.trans (by unfold rightOf; rw [h1, h2, h3, h4, h5]; rfl))
    go_enter Try.func18, Try.ntmps18
    go_wp2_with fail
    go_quiet ((go_at_call 24; exact Calls.quiet_of_same (ops_side _ _ _)))
    go_wp2_with fail
    go_ret
    exact ⟨ret_int (by rw [HV.out]), by first | exact HB.out _ | exact below_drewN (HB.out _) _⟩
  · obtain ⟨h1, h2, h3, h4, h5⟩ := is_fx
    have HV : Hid (E = wrap64 (p - 1)) := Lib.hid (HE.out.symm.trans (by unfold rightOf; rw [h1, h2, h3, h4, h5]; rfl))
    go_enter Try.func18, Try.ntmps18
    go_wp2_with fail
    go_quiet ((go_at_call 24; exact Calls.quiet_of_same (ops_side _ _ _)))
    go_wp2_with fail
    go_ret
    exact ⟨ret_int (by rw [HV.out]), by first | exact HB.out _ | exact below_drewN (HB.out _) _⟩
  · obtain ⟨h1, h2, h3, h4, h5⟩ := is_fy
    have HV : Hid (E = p) := Lib.hid (HE.out.symm.trans (by unfold rightOf; rw [h1, h2, h3, h4, h5]; rfl))
    go_enter Try.func18, Try.ntmps18
    go_wp2_with fail
    go_quiet ((go_at_call 24; exact Calls.quiet_of_same (ops_side _ _ _)))
    go_wp2_with fail
    go_ret
    exact ⟨ret_int (by rw [HV.out]), by first | exact HB.out _ | exact below_drewN (HB.out _) _⟩
  · obtain ⟨h1, h2, h3, h4, h5⟩ := hk
    have HV : Hid (E = 0) := Lib.hid (HE.out.symm.trans (by unfold rightOf; rw [h1, h2, h3, h4, h5]; rfl))
    go_enter Try.func18, Try.ntmps18
    go_wp2_with fail
    go_ret
    exact ⟨ret_int (by rw [HV.out]), by first | exact HB.out _ | exact below_drewN (HB.out _) _⟩
end Go.Proofs.Ytfkkembjlahjfaa
