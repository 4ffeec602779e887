/-
  The contract of the laws' helper live for char: the chapter's examples.
-/
import Derived.Test.YtpiiliecdkemhaaDoorCharDev
namespace Go.Proofs.YtpiiliecdkemhaaDoor
open Go.RowKit

/-- Contracts with what is known of one text. -/
def CWrite (s t : List UInt8) : Prop := ∀ w, Tabs w → Calls Tryd.prog 18 #[.string ⟨s.toArray⟩] w fun e w' => e = .returned (.string ⟨t.toArray⟩) ∧ Below w.heap.size w w'
theorem cwrite_of (s t : List UInt8) (hl : s.length ≤ 1000) (h : writeL s = t) : CWrite s t := fun w hT => by
  have hc := char_Write ⟨s.toArray⟩ w (by show s.toArray.size ≤ maxLen; rw [List.size_toArray]; unfold maxLen; omega) hT
  rw [show (⟨s.toArray⟩ : ByteArray).data.toList = s from rfl, h] at hc
  exact hc
def CRead (s t : List UInt8) (k : Nat) (x : Int) : Prop := ∀ w, Tabs w → Calls Tryd.prog 20 #[.string ⟨s.toArray⟩] w fun e w' => e = .returned (.tuple #[.string ⟨t.toArray⟩, .int .i64 (k : Nat), .int .i64 x]) ∧ Below w.heap.size w w'
theorem cread_of (s t : List UInt8) (k : Nat) (hl : s.length ≤ 200000) (h : readL s = some (t, k)) : CRead s t k 0 := fun w hT => by
  have hc := char_Read ⟨s.toArray⟩ w (by show s.toArray.size ≤ 200000; rw [List.size_toArray]; exact hl) hT
  obtain ⟨h1, h2, h3⟩ := read_some h
  rw [show (⟨s.toArray⟩ : ByteArray).data.toList = s from rfl, h1, h2, h3] at hc
  exact hc
def CBare (s : List UInt8) (b : Bool) : Prop := ∀ w, Tabs w → Calls Tryd.prog 16 #[.string ⟨s.toArray⟩] w fun e w' => e = .returned (.bool b) ∧ Below w.heap.size w w'
theorem cbare_of (s : List UInt8) (b : Bool) (hl : s.length ≤ 1000) (h : bareL s = b) : CBare s b := fun w hT => by
  have hc := char_Bare ⟨s.toArray⟩ w (by show s.toArray.size ≤ maxLen; rw [List.size_toArray]; unfold maxLen; omega) hT
  rw [show (⟨s.toArray⟩ : ByteArray).data.toList = s from rfl, h] at hc
  exact hc
def CCheck (s : List UInt8) (b : Bool) : Prop := ∀ w, Tabs w → Calls Tryd.prog 14 #[.string ⟨s.toArray⟩] w fun e w' => e = .returned (.bool b) ∧ Below w.heap.size w w'
theorem ccheck_of (s : List UInt8) (b : Bool) (hl : s.length ≤ 1000) (h : checkL s = b) : CCheck s b := fun w hT => by
  have hc := char_Check ⟨s.toArray⟩ w (by show s.toArray.size ≤ maxLen; rw [List.size_toArray]; unfold maxLen; omega) hT
  rw [show (⟨s.toArray⟩ : ByteArray).data.toList = s from rfl, h] at hc
  exact hc
theorem bstep {w w1 w2 : World} (h1 : Below w.heap.size w w1) (h2 : Below w1.heap.size w1 w2) : Below w.heap.size w w2 := h1.trans (h2.mono h1.size)

set_option maxHeartbeats 2000000 in
theorem law_live (w : World) (hT : Tabs w) :
    Calls Tryd.prog 11 #[] w fun e w' => e = .returned (.bool true) ∧ Below w.heap.size w w' := by
  have HT := Lib.hid hT
  have c1 := cread_of [39, 97, 39, 39, 98, 39, 32, 120] [97, 39, 98] 6 (by decide) (by decide +kernel)
  have c2 := cwrite_of [102, 111, 111] [102, 111, 111] (by decide) (by decide +kernel)
  have c3 := cwrite_of [70, 111, 111] [39, 70, 111, 111, 39] (by decide) (by decide +kernel)
  have c4 := cwrite_of [105, 116, 39, 115] [39, 105, 116, 92, 39, 115, 39] (by decide) (by decide +kernel)
  have c5 := cwrite_of [] [39, 39] (by decide) (by decide +kernel)
  have c6 := fun w => char_Class 97 w
  rw [show cls 97 = 1 from rfl] at c6
  have c7 := cbare_of [61] true (by decide) (by decide +kernel)
  have c8 := ccheck_of [] true (by decide) (by decide +kernel)
  have H6 := Lib.hid c6
  clear hT c6
  go_enter Tryd.func11, Tryd.ntmps11
  go_wp2_with fail
  refine (c1 _ HT.out).mono ?_; rintro e w1 ⟨rfl, hb1⟩
  go_wp2_with fail
  refine (c2 _ (HT.out.on hb1)).mono ?_; rintro e w2 ⟨rfl, h⟩; have hb2 := bstep hb1 h; clear h hb1
  go_wp2_with fail
  refine (c3 _ (HT.out.on hb2)).mono ?_; rintro e w3 ⟨rfl, h⟩; have hb3 := bstep hb2 h; clear h hb2
  go_wp2_with fail
  refine (c4 _ (HT.out.on hb3)).mono ?_; rintro e w4 ⟨rfl, h⟩; have hb4 := bstep hb3 h; clear h hb3
  go_wp2_with fail
  refine (c5 _ (HT.out.on hb4)).mono ?_; rintro e w5 ⟨rfl, h⟩; have hb5 := bstep hb4 h; clear h hb4
  go_wp2_with fail
  refine (H6.out _).mono ?_; rintro e w6 ⟨rfl, h⟩; have hb6 := bstep hb5 h; clear h hb5
  go_wp2_with fail
  refine (c7 _ (HT.out.on hb6)).mono ?_; rintro e w7 ⟨rfl, h⟩; have hb7 := bstep hb6 h; clear h hb6
  go_wp2_with fail
  refine (c8 _ (HT.out.on hb7)).mono ?_; rintro e w8 ⟨rfl, h⟩; have hb8 := bstep hb7 h; clear h hb7
  go_wp2_with fail
  go_ret
  exact ⟨rfl, hb8⟩
end Go.Proofs.YtpiiliecdkemhaaDoor
