/-
  The contract of the laws' helper live for ops: the chapter's examples.
-/
import Derived.Test.YtfkkembjlahjfaaOpsC
namespace Go.Proofs.Ytfkkembjlahjfaa
open Go.RowKit

/-- An operator's two cells. -/
def OpAt (w : World) (b : Nat) (p : Int) (k : ByteArray) : Prop := w.cell? ⟨b, 0, none⟩ = some (.int .i64 p) ∧ w.cell? ⟨b, 1, none⟩ = some (.string k)
theorem OpAt.on {w w1 : World} {b : Nat} {p : Int} {k : ByteArray} (h : OpAt w b p k) (hb : Below w.heap.size w w1) : OpAt w1 b p k :=
  ⟨(hb.cell (p := ⟨b, 0, none⟩) (World.block_lt_of_cell? w _ h.1)).trans h.1, (hb.cell (p := ⟨b, 1, none⟩) (World.block_lt_of_cell? w _ h.2)).trans h.2⟩
theorem OpAt.past {w : World} {b : Nat} {p : Int} {k : ByteArray} (h : OpAt w b p k) (o : Obj) : OpAt (w.alloc o) b p k := h.on ((Below.refl _ w).alloc (Nat.le_refl _) o)
theorem OpAt.new (w : World) (p : Int) (k : ByteArray) (t : TypeId) : OpAt (w.alloc (.cells #[.int .i64 p, .string k] t)) w.heap.size p k :=
  ⟨World.cell?_alloc_at _ _ _ _ rfl, World.cell?_alloc_at _ _ _ _ rfl⟩
theorem ex_is : findR tabR ⟨#[105, 115]⟩ 3 = some ⟨700, ⟨#[120, 102, 120]⟩, ⟨#[105, 115]⟩⟩ := by kernel_rfl
theorem ex_minus : findR tabR ⟨#[45]⟩ 2 = some ⟨200, ⟨#[102, 121]⟩, ⟨#[45]⟩⟩ := by kernel_rfl
theorem ex_rem : findR tabR ⟨#[114, 101, 109]⟩ 2 = none := by kernel_rfl
theorem ex_left : leftOf ⟨#[120, 102, 120]⟩ 700 = 699 := by decide +kernel
theorem ex_right2 : rightOf ⟨#[102, 121]⟩ 200 = 200 := by decide +kernel
theorem ex_left2 : leftOf ⟨#[102, 121]⟩ 200 = 0 := by decide +kernel

set_option maxRecDepth 100000 in
set_option maxHeartbeats 4000000 in
theorem ops_live (w : World) :
    Calls Try.prog 11 #[] w fun e w' => e = .returned (.bool true) ∧ Below w.heap.size w w' := by
  have H1 := Lib.hid (fun W => by have h := ops_Infix ⟨#[105, 115]⟩ W; rw [ex_is] at h; exact h)
  have H2 := Lib.hid (fun W => by have h := ops_Prefix ⟨#[45]⟩ W; rw [ex_minus] at h; exact h)
  have H3 := Lib.hid (fun W => by have h := ops_Prefix ⟨#[114, 101, 109]⟩ W; rw [ex_rem] at h; exact h)
  have H4 := Lib.hid (fun W => by have h := ops_Left ⟨#[120, 102, 120]⟩ 700 W; rw [ex_left] at h; exact h)
  have H5 := Lib.hid (fun W => by have h := ops_Right ⟨#[102, 121]⟩ 200 W; rw [ex_right2] at h; exact h)
  have H6 := Lib.hid (fun W => by have h := ops_Left ⟨#[102, 121]⟩ 200 W; rw [ex_left2] at h; exact h)
  unfold opAns at H1 H2 H3
  go_enter Try.func11, Try.ntmps11
  go_wp2_with fail
  refine (H1.out _).mono ?_; rintro e w1 ⟨rfl, hb1⟩
  go_wp2_with fail
  refine (H2.out _).mono ?_; rintro e w2 ⟨rfl, hb2⟩
  have hbw2 := (hb1.alloc hb1.size _).trans (hb2.mono (by rw [World.size_alloc]; have := hb1.size; omega))
  have A2 := (OpAt.new w1 _ _ _).on hb2
  clear hb1 hb2
  go_wp2_with fail
  refine (H3.out _).mono ?_; rintro e w3 ⟨rfl, hb3⟩
  have hbw3 := (hbw2.alloc hbw2.size _).trans (hb3.mono (by rw [World.size_alloc]; have := hbw2.size; omega))
  have A3 := (A2.past _).on hb3
  have B3 := (OpAt.new w2 _ _ _).on hb3
  clear hb3 A2
  have hl1 := World.block_lt_of_cell? w3 _ A3.1
  have hl2 := World.block_lt_of_cell? w3 _ B3.1
  have hb4 := hbw3.alloc hbw3.size (.cells #[.int .i64 0, .string ⟨#[]⟩] 23)
  have A4 := A3.past (.cells #[.int .i64 0, .string ⟨#[]⟩] 23)
  have B4 := B3.past (.cells #[.int .i64 0, .string ⟨#[]⟩] 23)
  clear A3 B3 hbw2
  obtain ⟨a0, a1⟩ := A4
  go_wp2_with fail
  refine (H4.out _).mono ?_; rintro e w5 ⟨rfl, hb5⟩
  have hbw5 := hb4.trans (hb5.mono hb4.size)
  obtain ⟨b0, b1⟩ := B4.on hb5
  clear hb5 hb4 B4 a0 a1
  go_wp2_with fail
  refine (H5.out _).mono ?_; rintro e w6 ⟨rfl, hb6⟩
  have hbw6 := hbw5.trans (hb6.mono hbw5.size)
  obtain ⟨d0, d1⟩ := (show OpAt w5 w2.heap.size 200 ⟨#[102, 121]⟩ from ⟨b0, b1⟩).on hb6
  clear hb6 hbw5 b0 b1
  go_wp2_with fail
  refine (H6.out _).mono ?_; rintro e w7 ⟨rfl, hb7⟩
  have hbw7 := hbw6.trans (hb7.mono hbw6.size)
  clear hb7 hbw6
  go_wp2_with fail
  go_ret
  exact ⟨rfl, hbw7⟩
end Go.Proofs.Ytfkkembjlahjfaa
