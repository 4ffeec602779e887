/-
  The contracts of the document's own answers for char: among, Class, value.
-/
import Derived.Test.YtjgjeafjnaodkaaChecked
import Derived.Test.YtjgjeafjnaodkaaCharPlain
import Derived.WalkKit
import Derived.WalkSpells
import Derived.Lib.Hide
namespace Go.Proofs.Ytjgjeafjnaodkaa
open Go.RowKit

def memL (c : Int) (l : List UInt8) : Bool := l.any fun b => decide ((b.toNat : Int) = c)
theorem memL_snoc (c : Int) (s : ByteArray) (k : Nat) (h : k < s.size) (h1 : memL c (s.data.toList.take k) = false) (h2 : (s[k].toNat : Int) ≠ c) : memL c (s.data.toList.take (k + 1)) = false := by
  have e : s.data.toList.take (k + 1) = s.data.toList.take k ++ [s[k]] := by
    rw [List.take_succ_eq_append_getElem (by simpa using h)]; rfl
  unfold memL at *
  rw [e, List.any_append, h1]
  simp [h2]
theorem memL_hit (c : Int) (s : ByteArray) (k : Nat) (h : k < s.size) (h2 : (s[k].toNat : Int) = c) : memL c s.data.toList = true := by
  unfold memL
  rw [List.any_eq_true]
  exact ⟨s[k], by rw [show s[k] = s.data.toList[k]'(by simpa using h) from rfl]; exact List.getElem_mem _, by simpa using h2⟩
theorem ret_bool {a b : Bool} (h : a = b) : Ending.returned (.bool a) = .returned (.bool b) := by rw [h]
theorem ret_i {k : IntKind} {a b : Int} (h : a = b) : Ending.returned (.int k a) = .returned (.int k b) := by rw [h]

theorem mem4 (c : Int) : memL c [43, 45, 42, 47, 92, 94, 60, 62, 61, 126, 58, 46, 63, 64, 35, 38, 36] = decide (c = 43 ∨ c = 45 ∨ c = 42 ∨ c = 47 ∨ c = 92 ∨ c = 94 ∨ c = 60 ∨ c = 62 ∨ c = 61 ∨ c = 126 ∨ c = 58 ∨ c = 46 ∨ c = 63 ∨ c = 64 ∨ c = 35 ∨ c = 38 ∨ c = 36) := by
  rw [Bool.eq_iff_iff]
  simp [memL]
  omega
theorem mem6 (c : Int) : memL c [33, 59, 44, 124] = decide (c = 33 ∨ c = 59 ∨ c = 44 ∨ c = 124) := by
  rw [Bool.eq_iff_iff]
  simp [memL]
  omega
theorem mem7 (c : Int) : memL c [40, 41, 91, 93, 123, 125] = decide (c = 40 ∨ c = 41 ∨ c = 91 ∨ c = 93 ∨ c = 123 ∨ c = 125) := by
  rw [Bool.eq_iff_iff]
  simp [memL]
  omega

/-- Where no letter and no digit stands. -/
def Gap (c : Int) : Prop := c < 48 ∨ (58 ≤ c ∧ c ≤ 64) ∨ (91 ≤ c ∧ c ≤ 94) ∨ (96 ≤ c ∧ c ≤ 96) ∨ 123 ≤ c

end Go.Proofs.Ytjgjeafjnaodkaa
