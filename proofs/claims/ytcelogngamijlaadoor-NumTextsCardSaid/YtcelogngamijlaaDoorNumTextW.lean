/-
  The law NumTexts of package num, walked: it answers true, for all numbers of 64 bits and all strings; nothing that was there has changed.
-/
import Derived.Test.YtcelogngamijlaaDoorNumLive
import Derived.Test.YtcelogngamijlaaDoorNumRefRead
namespace Go.Proofs.YtcelogngamijlaaDoor
open Go.RowKit

set_option maxHeartbeats 1000000 in
theorem walk_NumTexts (a : Int) (s : ByteArray) (w : World) (ha : In64 a) (hs : s.size ≤ maxLen) (ht : Tab w) :
    Calls Tryd.prog 6 #[.int .i64 a, .string s] w fun e w' => e = .returned (.bool true) ∧ Below w.heap.size w w' := by
  have HT := Lib.hid ht
  have cR := fun w => num_Read s w hs
  have cRR := fun w => ref_Read s w hs
  have cT := fun w ht => num_Text a w ha ht
  have cTT := fun w => ref_Text a w ha
  have HR := Lib.hid cR
  have HRR := Lib.hid cRR
  have HcT := Lib.hid cT
  have HTT := Lib.hid cTT
  clear ht cR cRR cT cTT ha hs
  generalize Lib.itoa a = l at *
  go_enter Tryd.func6, Tryd.ntmps6
  go_wp2_with fail
  refine (HR.out _).mono ?_; rintro e w1 ⟨rfl, hb1⟩
  go_wp2_with fail
  refine (HRR.out _).mono ?_; rintro e w' ⟨rfl, rfl⟩
  go_wp2_with fail
  refine (law_live _ (HT.out.on hb1)).mono ?_; rintro e w2 ⟨rfl, hb2⟩
  have hb := hb1.trans (hb2.mono hb1.size)
  go_wp2_with fail
  refine (HcT.out _ (HT.out.on hb)).mono ?_; rintro e w3 ⟨rfl, hb3⟩
  have hbb := hb.trans (hb3.mono hb.size)
  go_wp2_with fail
  refine (HTT.out _).mono ?_; rintro e w4 ⟨rfl, hb4⟩
  have hbbb := hbb.trans (hb4.mono hbb.size)
  go_wp2_with fail
  refine (law_same _ _ _).mono ?_; rintro e w' ⟨rfl, rfl⟩
  go_wp2_with fail
  go_ret
  exact ⟨rfl, hbbb⟩
end Go.Proofs.YtcelogngamijlaaDoor
