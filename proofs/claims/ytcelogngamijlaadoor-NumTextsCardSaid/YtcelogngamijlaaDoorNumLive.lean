/-
  The contracts of num.Text (over the library's own table of powers of ten) and of the laws' helper live: the chapter's examples.
-/
import Derived.Test.YtcelogngamijlaaDoorNumMore
import Derived.Test.YtcelogngamijlaaDoorNumReads
import Derived.Test.YtcelogngamijlaaDoorShelf
import Derived.Lib.AppendIntMem
namespace Go.Proofs.YtcelogngamijlaaDoor
open Go.RowKit

/-- The library's table of powers of ten reads so. -/
def Tab (w : World) : Prop := Lib.TabIs Tryd.prog w "internal/strconv.uint64pow10" .u64 Lib.pow10Tab
theorem Tab.on {w w' : World} (h : Tab w) (hb : Below w.heap.size w w') : Tab w' := Lib.tabBelow_of_tabIs h w' hb

theorem num_Text (a : Int) (w : World) (ha : In64 a) (ht : Tab w) :
    Calls Tryd.prog 33 #[.int .i64 a] w fun e w' => e = .returned (.string ⟨(Lib.itoa a).toArray⟩) ∧ Below w.heap.size w w' := by
  go_enter Tryd.func33, Tryd.ntmps33
  go_wp2_with (go_at_call 36; refine (Tryd.strconv_FormatInt_10 _ ha.1 ha.2 _ ht).mono ?_; rintro e w' ⟨rfl, k, os, rfl⟩)
  go_ret
  exact ⟨rfl, Lib.below_grow _ w (Nat.le_refl _) k os⟩

theorem itoa_12 : (⟨(Lib.itoa (-12)).toArray⟩ : ByteArray) = ⟨#[45, 49, 50]⟩ := by
  have h : Lib.itoa (-12) = [45, 49, 50] := by
    rw [show (-12 : Int) = -((12 : Nat) : Int) from rfl, Lib.itoa_neg 12 (by decide), Lib.decDigits_two (by decide) (by decide)]
    rfl
  rw [h]

set_option maxHeartbeats 1000000 in
theorem law_live (w : World) (ht : Tab w) :
    Calls Tryd.prog 16 #[] w fun e w' => e = .returned (.bool true) ∧ Below w.heap.size w w' := by
  have h1 := num_Quo (-7) 2 w (by unfold In64; omega) (by unfold In64; omega)
  rw [show quoV (-7) 2 = -3 by decide, show quoE (-7) 2 = 0 by decide] at h1
  have H1 := Lib.hid h1
  have h2 := num_Mod (-7) 2 w (by unfold In64; omega) (by unfold In64; omega)
  rw [show modV (-7) 2 = 1 by decide, show zeroE 2 = 0 by decide] at h2
  have H2 := Lib.hid h2
  have h3 := num_Read ⟨#[45, 48, 48, 55]⟩ w (by unfold maxLen; decide)
  rw [show readV (⟨#[45, 48, 48, 55]⟩ : ByteArray).data.toList = -7 by decide, show readE (⟨#[45, 48, 48, 55]⟩ : ByteArray).data.toList = 0 by decide] at h3
  have H3 := Lib.hid h3
  have h4 := fun w => num_Mul 4294967296 2147483648 w (by unfold In64; omega) (by unfold In64; omega)
  rw [chkV_out (show ¬ In64 (4294967296 * 2147483648) by unfold In64; omega), chkE_out (show ¬ In64 (4294967296 * 2147483648) by unfold In64; omega)] at h4
  have H4 := Lib.hid h4
  have h5 := fun w (ht : Tab w) => num_Text (-12) w (by unfold In64; omega) ht
  rw [itoa_12] at h5
  have H5 := Lib.hid h5
  have h6 := fun w => num_Cmp 1 2 w
  rw [show cmpV 1 2 = -1 by decide] at h6
  have H6 := Lib.hid h6
  have HT := Lib.hid ht
  clear h1 h2 h3 h4 h5 h6 ht
  go_enter Tryd.func16, Tryd.ntmps16
  go_wp2_with fail
  refine H1.out.mono ?_
  rintro e w' ⟨rfl, rfl⟩
  go_wp2_with fail
  refine H2.out.mono ?_
  rintro e w' ⟨rfl, rfl⟩
  go_wp2_with fail
  refine H3.out.mono ?_
  rintro e w3 ⟨rfl, hb3⟩
  go_wp2_with fail
  refine (H4.out _).mono ?_
  rintro e w' ⟨rfl, rfl⟩
  go_wp2_with fail
  refine (H5.out _ (HT.out.on hb3)).mono ?_
  rintro e w5 ⟨rfl, hb5⟩
  go_wp2_with fail
  refine (H6.out _).mono ?_
  rintro e w' ⟨rfl, rfl⟩
  go_wp2_with fail
  go_ret
  exact ⟨rfl, hb3.trans (hb5.mono hb3.size)⟩
end Go.Proofs.YtcelogngamijlaaDoor
