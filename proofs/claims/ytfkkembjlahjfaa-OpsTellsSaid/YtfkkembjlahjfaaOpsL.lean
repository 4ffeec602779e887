/-
  The walk of the law OpsTells.
-/
import Derived.Test.YtfkkembjlahjfaaOpsK
import Derived.Deep.RegionHeld3
namespace Go.Proofs.Ytfkkembjlahjfaa
open Go.RowKit

theorem opAns_is (E : Option R) : ∃ (p : Int) (k : ByteArray) (b : Bool), opAns E = .tuple #[.agg #[.int .i64 p, .string k], .bool b] := by
  cases E with
  | none => exact ⟨_, _, _, rfl⟩
  | some r => exact ⟨_, _, _, rfl⟩
theorem names_short : namesL.length ≤ 1000000000 := by decide +kernel

set_option maxRecDepth 100000 in
set_option maxHeartbeats 8000000 in
theorem walk_OpsTells (name : ByteArray) (w : World) :
    Calls Try.prog 3 #[.string name] w fun e w' => e = .returned (.bool true) ∧ Below w.heap.size w w' := by
  obtain ⟨p, k, b, e2⟩ := opAns_is (findR tabR name 2)
  obtain ⟨q, l, c, e3⟩ := opAns_is (findR tabR name 3)
  have H2 := Lib.hid (fun W => by have h := ops_Prefix name W; rw [e2] at h; exact h)
  have R2 := Lib.hid (fun W => by have h := ref_Prefix name W; rw [e2] at h; exact h)
  have H3 := Lib.hid (fun W => by have h := ops_Infix name W; rw [e3] at h; exact h)
  have R3 := Lib.hid (fun W => by have h := ref_Infix name W; rw [e3] at h; exact h)
  clear e2 e3
  go_enter Try.func3, Try.ntmps3
  go_wp2_with fail
  refine (H2.out _).mono ?_; rintro e w1 ⟨rfl, hb1⟩
  go_wp2_with fail
  refine (R2.out _).mono ?_; rintro e w2 ⟨rfl, hb2⟩
  have hbw2 := (hb1.alloc hb1.size _).trans (hb2.mono (by rw [World.size_alloc]; have := hb1.size; omega))
  have A2 := (OpAt.new w1 p k _).on hb2
  clear hb1 hb2
  go_wp2_with fail
  refine (H3.out _).mono ?_; rintro e w3 ⟨rfl, hb3⟩
  have hbw3 := (hbw2.alloc hbw2.size _).trans (hb3.mono (by rw [World.size_alloc]; have := hbw2.size; omega))
  have A3 := (A2.past _).on hb3
  have B3 := (OpAt.new w2 p k _).on hb3
  clear hb3 A2 hbw2
  go_wp2_with fail
  refine (R3.out _).mono ?_; rintro e w4 ⟨rfl, hb4⟩
  have hbw4 := (hbw3.alloc hbw3.size _).trans (hb4.mono (by rw [World.size_alloc]; have := hbw3.size; omega))
  have A4 := (A3.past _).on hb4
  have B4 := (B3.past _).on hb4
  have C4 := (OpAt.new w3 q l _).on hb4
  have hl1 := World.block_lt_of_cell? w4 _ A4.1
  have hl2 := World.block_lt_of_cell? w4 _ B4.1
  have hl3 := World.block_lt_of_cell? w4 _ C4.1
  have hb0 := hbw4.alloc hbw4.size (.cells #[.int .i64 q, .string l] 23)
  have A0 := A4.past (.cells #[.int .i64 q, .string l] 23)
  have B0 := B4.past (.cells #[.int .i64 q, .string l] 23)
  have C0 := C4.past (.cells #[.int .i64 q, .string l] 23)
  have D0 := OpAt.new w4 q l 23
  clear hb4 A3 B3 A4 B4 C4 hbw3 hbw4
  go_wp2_with fail
  generalize w4.alloc _ = w0 at *
  refine (ops_live _).mono ?_; rintro e w5 ⟨rfl, hb5⟩
  have hbw5 := hb0.trans (hb5.mono hb0.size)
  obtain ⟨a0, a1⟩ := A0.on hb5
  obtain ⟨b0, b1⟩ := B0.on hb5
  obtain ⟨c0, c1⟩ := C0.on hb5
  obtain ⟨d0, d1⟩ := D0.on hb5
  clear A0 B0 C0 D0 hb5 hb0
  go_wp2_with fail
  refine (ops_Names _).mono ?_; rintro e w6 ⟨v, rfl, o6, hb6⟩
  have hbw6 := hbw5.trans (hb6.mono hbw5.size)
  have O6 := Lib.hid o6
  clear a0 a1 b0 b1 c0 c1 d0 d1 hb6 hbw5 o6
  go_wp2_with fail
  refine (ref_Names _).mono ?_; rintro e w7 ⟨u, rfl, o7, hb7⟩
  have hbw7 := hbw6.trans (hb7.mono hbw6.size)
  have O7 := Lib.hid (OwnStrs.below O6.out hb7)
  have P7 := Lib.hid o7
  clear hb7 hbw6 o7
  go_wp2_with fail
  refine (ref_SameNames _ _ _ _ _ _ _ O7.out P7.out names_short rfl).mono ?_; rintro e w8 ⟨rfl, hb8⟩
  have hbw8 := hbw7.trans (hb8.mono hbw7.size)
  clear hb8 hbw7
  go_wp2_with fail
  go_ret
  exact ⟨rfl, hbw8⟩
end Go.Proofs.Ytfkkembjlahjfaa
