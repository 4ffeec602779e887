/-
  The laws CharClasses, CharChecks, CharWrites, CharReads, CharBack of package char, walked: each answers true; nothing that was there has changed.
-/
import Derived.Test.YtpiiliecdkemhaaDoorCharLive
import Derived.Test.YtpiiliecdkemhaaDoorCharBackN
namespace Go.Proofs.YtpiiliecdkemhaaDoor
open Go.RowKit

set_option maxHeartbeats 1000000 in
theorem walk_CharClasses (c : Int) (w : World) (hT : Tabs w) :
    Calls Tryd.prog 3 #[.int .i32 c] w fun e w' => e = .returned (.bool true) ∧ Below w.heap.size w w' := by
  have HT := Lib.hid hT
  clear hT
  have e1 : (cls c == cls c) = true := beq_self_eq_true _
  go_enter Tryd.func3, Tryd.ntmps3
  go_wp2_with fail
  refine (law_live _ HT.out).mono ?_; rintro e w1 ⟨rfl, hb1⟩
  go_wp2_with fail
  refine (char_Class _ _).mono ?_; rintro e w2 ⟨rfl, h⟩; have hb2 := bstep hb1 h; clear h hb1
  go_wp2_with fail
  refine (ref_Class _ _).mono ?_; rintro e w' ⟨rfl, rfl⟩
  go_wp2_with fail
  go_ret
  exact ⟨rfl, hb2⟩

set_option maxHeartbeats 1000000 in
theorem walk_CharChecks (s : ByteArray) (w : World) (hs : s.size ≤ maxLen) (hT : Tabs w) :
    Calls Tryd.prog 4 #[.string s] w fun e w' => e = .returned (.bool true) ∧ Below w.heap.size w w' := by
  have HT := Lib.hid hT
  have h1 := Lib.hid (fun w h => char_Check s w hs h)
  have h2 := Lib.hid (fun w h => ref_Check s w hs h)
  have h3 := Lib.hid (fun w h => char_Bare s w hs h)
  have h4 := Lib.hid (fun w h => ref_Bare s w hs h)
  clear hT hs
  generalize checkL s.data.toList = ck at *
  generalize bareL s.data.toList = br at *
  have e1 : (ck == ck) = true := beq_self_eq_true _
  have e2 : (br == br) = true := beq_self_eq_true _
  go_enter Tryd.func4, Tryd.ntmps4
  go_wp2_with fail
  refine (law_live _ HT.out).mono ?_; rintro e w1 ⟨rfl, hb1⟩
  go_wp2_with fail
  refine (h1.out _ (HT.out.on hb1)).mono ?_; rintro e w2 ⟨rfl, h⟩; have hb2 := bstep hb1 h; clear h hb1
  go_wp2_with fail
  refine (h2.out _ (HT.out.on hb2)).mono ?_; rintro e w3 ⟨rfl, h⟩; have hb3 := bstep hb2 h; clear h hb2
  go_wp2_with fail
  refine (h3.out _ (HT.out.on hb3)).mono ?_; rintro e w4 ⟨rfl, h⟩; have hb4 := bstep hb3 h; clear h hb3
  go_wp2_with fail
  refine (h4.out _ (HT.out.on hb4)).mono ?_; rintro e w5 ⟨rfl, h⟩; have hb5 := bstep hb4 h; clear h hb4
  go_wp2_with fail
  go_ret
  exact ⟨rfl, hb5⟩

theorem write_long {l : List UInt8} (h : 255 < l.length) : writeL l = [] := by
  unfold writeL checkL
  rw [decide_eq_false (by omega)]
  rfl
set_option maxHeartbeats 1000000 in
theorem walk_CharWrites (s : ByteArray) (w : World) (hs : s.size ≤ maxLen) (hT : Tabs w) :
    Calls Tryd.prog 5 #[.string s] w fun e w' => e = .returned (.bool true) ∧ Below w.heap.size w w' := by
  have HT := Lib.hid hT
  have c1 := fun w h => char_Write s w hs h
  have h2 := Lib.hid (fun w h => ref_Write s w hs h)
  clear hT hs
  by_cases hl : 100000 < s.size
  · have e := write_long (l := s.data.toList) (by rw [size_list]; omega)
    rw [e] at c1
    have h1 := Lib.hid c1
    clear c1 h2 e
    go_enter Tryd.func5, Tryd.ntmps5
    go_wp2_with fail
    refine (law_live _ HT.out).mono ?_; rintro e w1 ⟨rfl, hb1⟩
    go_wp2_with fail
    refine (h1.out _ (HT.out.on hb1)).mono ?_; rintro e w2 ⟨rfl, h⟩; have hb2 := bstep hb1 h; clear h hb1
    go_wp2_with fail
    go_ret
    exact ⟨rfl, hb2⟩
  · have h1 := Lib.hid c1
    have hl2 : s.size ≤ 100000 := by omega
    clear c1 hl
    generalize writeL s.data.toList = l at *
    go_enter Tryd.func5, Tryd.ntmps5
    go_wp2_with fail
    refine (law_live _ HT.out).mono ?_; rintro e w1 ⟨rfl, hb1⟩
    go_wp2_with fail
    refine (h1.out _ (HT.out.on hb1)).mono ?_; rintro e w2 ⟨rfl, h⟩; have hb2 := bstep hb1 h; clear h hb1
    go_wp2_with fail
    refine (h2.out _ (HT.out.on hb2)).mono ?_; rintro e w3 ⟨rfl, h⟩; have hb3 := bstep hb2 h; clear h hb2
    go_wp2_with fail
    go_ret
    exact ⟨rfl, hb3⟩

set_option maxHeartbeats 1000000 in
theorem walk_CharReads (s : ByteArray) (w : World) (hT : Tabs w) :
    Calls Tryd.prog 6 #[.string s] w fun e w' => e = .returned (.bool true) ∧ Below w.heap.size w w' := by
  have HT := Lib.hid hT
  clear hT
  by_cases hl : 100000 < s.size
  · go_enter Tryd.func6, Tryd.ntmps6
    go_wp2_with fail
    refine (law_live _ HT.out).mono ?_; rintro e w1 ⟨rfl, hb1⟩
    go_wp2_with fail
    go_ret
    exact ⟨rfl, hb1⟩
  · have h1 := Lib.hid (fun w h => char_Read s w (by omega) h)
    have h2 := Lib.hid (fun w h => ref_Read s w (by omega) h)
    have hl2 : s.size ≤ 100000 := by omega
    clear hl
    generalize readS s.data.toList = l at *
    generalize readK s.data.toList = k at *
    generalize readX s.data.toList = x at *
    have e1 : ((k : Int) == (k : Int)) = true := beq_self_eq_true _
    have e2 : (x == x) = true := beq_self_eq_true _
    go_enter Tryd.func6, Tryd.ntmps6
    go_wp2_with fail
    refine (law_live _ HT.out).mono ?_; rintro e w1 ⟨rfl, hb1⟩
    go_wp2_with fail
    refine (h1.out _ (HT.out.on hb1)).mono ?_; rintro e w2 ⟨rfl, h⟩; have hb2 := bstep hb1 h; clear h hb1
    go_wp2_with fail
    refine (h2.out _ (HT.out.on hb2)).mono ?_; rintro e w3 ⟨rfl, h⟩; have hb3 := bstep hb2 h; clear h hb2
    go_wp2_with fail
    go_ret
    exact ⟨rfl, hb3⟩
end Go.Proofs.YtpiiliecdkemhaaDoor
