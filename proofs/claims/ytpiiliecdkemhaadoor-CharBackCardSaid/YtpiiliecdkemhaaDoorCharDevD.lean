/-
  The contracts of strconv.FormatInt to the base 16 below 32, and of package char's own inQuotes.
-/
import Derived.Test.YtpiiliecdkemhaaDoorCharDevC
import Derived.Handy
import Derived.Laws.Bits64b
namespace Go.Proofs.YtpiiliecdkemhaaDoor
open Go.RowKit

theorem tz_key : IntKind.u64.wrap (bits BinOp.and IntKind.u64 16 (IntKind.u64.wrap (-16)) * 285870213051353865) / 288230376151711744 = 15 := by decide +kernel

set_option maxHeartbeats 1000000 in
theorem bits_tz64 (w : World) (hc : w.cell? ⟨4, 15, none⟩ = some (.int .u8 4)) :
    Calls Tryd.prog 56 #[.int .u64 16] w fun e w' => e = .returned (.int .i64 4) ∧ w = w' := by
  go_enter Tryd.func56, Tryd.ntmps56
  go_wp2_with (simp only [tz_key])
  go_ret
  exact ⟨rfl, rfl⟩

set_option maxHeartbeats 1000000 in
theorem bits_tz (w : World) (hc : w.cell? ⟨4, 15, none⟩ = some (.int .u8 4)) :
    Calls Tryd.prog 54 #[.int .u64 16] w fun e w' => e = .returned (.int .i64 4) ∧ w = w' := by
  have H := Lib.hid (bits_tz64 w hc)
  clear hc
  go_enter Tryd.func54, Tryd.ntmps54
  go_wp2_with fail
  refine H.out.mono ?_; rintro e w' ⟨rfl, rfl⟩
  go_wp2_with fail
  go_ret
  exact ⟨rfl, rfl⟩

theorem pow2_key : bits BinOp.and IntKind.i64 16 15 = 0 := by decide +kernel

set_option maxHeartbeats 1000000 in
theorem conv_pow2 (w : World) :
    Calls Tryd.prog 53 #[.int .i64 16] w fun e w' => e = .returned (.bool true) ∧ w = w' := by
  go_enter Tryd.func53, Tryd.ntmps53
  go_wp2_with (simp only [pow2_key])
  go_ret
  exact ⟨rfl, rfl⟩

theorem dig36 : ∀ k : Fin 16, (⟨#[48, 49, 50, 51, 52, 53, 54, 55, 56, 57, 97, 98, 99, 100, 101, 102, 103, 104, 105, 106, 107, 108, 109, 110, 111, 112, 113, 114, 115, 116, 117, 118, 119, 120, 121, 122]⟩ : ByteArray)[k.val]'(Nat.lt_trans k.isLt (by decide)) = hexD k.val := by decide
theorem and15 : ∀ k : Fin 16, bits BinOp.and IntKind.u64 ((k.val + 16 : Nat) : Int) 15 = (k.val : Int) := by decide +kernel
/-- The last cells of a block of bytes, as a string. -/
theorem conv_tail1 (w : World) (C : Array Value) (b : UInt8) (h : C[64]? = some (.int .u8 (b.toNat : Int))) :
    (convert 35 9 (.slice (some ⟨w.heap.size, 64, none⟩) 1 1)).run Tryd.prog (w.alloc (.cells C 64)) = .ok (.string ⟨#[b]⟩) (w.alloc (.cells C 64)) :=
  run_convert_bytes_back (P := Tryd.prog) (w.alloc (.cells C 64)) 35 9 5 ⟨w.heap.size, 64, none⟩ 1 [b] Tryd.underlying35 Tryd.underlying5 Tryd.underlying9 (fun j hj => by
    match j, hj with
    | 0, _ => rw [show (⟨w.heap.size, 64, none⟩ : Addr).add 0 = ⟨w.heap.size, 64, none⟩ from rfl, World.cell?_alloc_new]; exact h)
theorem conv_tail2 (w : World) (C : Array Value) (a b : UInt8) (h1 : C[63]? = some (.int .u8 (a.toNat : Int))) (h : C[64]? = some (.int .u8 (b.toNat : Int))) :
    (convert 35 9 (.slice (some ⟨w.heap.size, 63, none⟩) 2 2)).run Tryd.prog (w.alloc (.cells C 64)) = .ok (.string ⟨#[a, b]⟩) (w.alloc (.cells C 64)) :=
  run_convert_bytes_back (P := Tryd.prog) (w.alloc (.cells C 64)) 35 9 5 ⟨w.heap.size, 63, none⟩ 2 [a, b] Tryd.underlying35 Tryd.underlying5 Tryd.underlying9 (fun j hj => by
    match j, hj with
    | 0, _ => rw [show (⟨w.heap.size, 63, none⟩ : Addr).add 0 = ⟨w.heap.size, 63, none⟩ from rfl, World.cell?_alloc_new]; exact h1
    | 1, _ => rw [show (⟨w.heap.size, 63, none⟩ : Addr).add 1 = ⟨w.heap.size, 64, none⟩ from rfl, World.cell?_alloc_new]; exact h)

set_option maxRecDepth 100000 in
set_option maxHeartbeats 4000000 in
theorem conv_bits_small (n : Nat) (hn : n < 16) (w : World) (hc : w.cell? ⟨4, 15, none⟩ = some (.int .u8 4)) :
    Calls Tryd.prog 48 #[.slice none 0 0, .int .u64 n, .int .i64 16, .bool false, .bool false] w fun e w' => e = .returned (.tuple #[.slice none 0 0, .string ⟨(hexL n).toArray⟩]) ∧ Below w.heap.size w w' := by
  have HP := Lib.hid (fun w => conv_pow2 w)
  have HZ := Lib.hid (bits_tz (w.alloc (.cells Tryd.zeroCells64 64)) ((World.cell?_alloc_past _ _ _ (cell_in hc)).trans hc))
  rw [show hexL n = [hexD n] from if_pos hn]
  have hd := dig36 ⟨n, hn⟩
  generalize hexD n = d at *
  clear hc
  go_enter Tryd.func48, Tryd.ntmps48
  go_wp2_with fail
  refine (HP.out _).mono ?_; rintro e w' ⟨rfl, rfl⟩
  go_wp2_with fail
  refine HZ.out.mono ?_
  rintro e w' ⟨rfl, rfl⟩
  go_wp2_with fail
  go_rounds 1
  rw [conv_tail1 w _ d (by simp)]
  go_wp2_with fail
  go_ret2
  exact ⟨rfl, (Below.refl _ _).alloc (Nat.le_refl _) _⟩

set_option maxRecDepth 100000 in
set_option maxHeartbeats 4000000 in
theorem conv_bits_more (k : Nat) (hk : k < 16) (n : Nat) (hn : n = k + 16) (w : World) (hc : w.cell? ⟨4, 15, none⟩ = some (.int .u8 4)) :
    Calls Tryd.prog 48 #[.slice none 0 0, .int .u64 n, .int .i64 16, .bool false, .bool false] w fun e w' => e = .returned (.tuple #[.slice none 0 0, .string ⟨(hexL n).toArray⟩]) ∧ Below w.heap.size w w' := by
  have HP := Lib.hid (fun w => conv_pow2 w)
  have HZ := Lib.hid (bits_tz (w.alloc (.cells Tryd.zeroCells64 64)) ((World.cell?_alloc_past _ _ _ (cell_in hc)).trans hc))
  have hl : hexL n = [49, hexD k] := by
    unfold hexL
    rw [if_neg (by omega), show n / 16 = 1 by omega, show n % 16 = k by omega]; rfl
  rw [hl]
  have hd := dig36 ⟨k, hk⟩
  have hand := and15 ⟨k, hk⟩
  simp only at hand
  rw [← hn] at hand
  have h1 : 16 ≤ n := by omega
  have h2 : n < 32 := by omega
  have h3 : n / 16 = 1 := by omega
  generalize hexD k = d at *
  clear hc hl hn
  go_enter Tryd.func48, Tryd.ntmps48
  go_wp2_with fail
  refine (HP.out _).mono ?_; rintro e w' ⟨rfl, rfl⟩
  go_wp2_with fail
  refine HZ.out.mono ?_
  rintro e w' ⟨rfl, rfl⟩
  go_wp2_with fail
  go_rounds 2
  rw [conv_tail2 w _ 49 d (by simp; rfl) (by simp)]
  go_wp2_with fail
  go_ret2
  exact ⟨rfl, (Below.refl _ _).alloc (Nat.le_refl _) _⟩

theorem conv_bits (n : Nat) (hn : n < 32) (w : World) (hc : w.cell? ⟨4, 15, none⟩ = some (.int .u8 4)) :
    Calls Tryd.prog 48 #[.slice none 0 0, .int .u64 n, .int .i64 16, .bool false, .bool false] w fun e w' => e = .returned (.tuple #[.slice none 0 0, .string ⟨(hexL n).toArray⟩]) ∧ Below w.heap.size w w' := by
  by_cases h : n < 16
  · exact conv_bits_small n h w hc
  · exact conv_bits_more (n - 16) (by omega) n (by omega) w hc

set_option maxHeartbeats 1000000 in
theorem conv_Format (c : Int) (n : Nat) (hcn : c = n) (hn : n < 32) (w : World) (hc : w.cell? ⟨4, 15, none⟩ = some (.int .u8 4)) :
    Calls Tryd.prog 41 #[.int .i64 c, .int .i64 16] w fun e w' => e = .returned (.string ⟨(hexL n).toArray⟩) ∧ Below w.heap.size w w' := by
  have HB := conv_bits n hn w hc
  rw [← hcn] at HB
  have H := Lib.hid HB
  have h0 : 0 ≤ c := by omega
  have h1 : c < 32 := by omega
  have e0 : decide (c < 0) = false := by rw [decide_eq_false_iff_not]; omega
  clear hc HB hcn
  generalize hexL n = l at *
  go_enter Tryd.func41, Tryd.ntmps41
  go_wp2_with fail
  refine H.out.mono ?_; rintro e w1 ⟨rfl, hb⟩
  go_wp2_with fail
  go_ret
  exact ⟨rfl, hb⟩

set_option maxHeartbeats 1000000 in
theorem conv_FormatInt (c : Int) (n : Nat) (hcn : c = n) (hn : n < 32) (w : World) (hc : w.cell? ⟨4, 15, none⟩ = some (.int .u8 4)) :
    Calls Tryd.prog 34 #[.int .i64 c, .int .i64 16] w fun e w' => e = .returned (.string ⟨(hexL n).toArray⟩) ∧ Below w.heap.size w w' := by
  have H := Lib.hid (conv_Format c n hcn hn w hc)
  clear hc hcn
  generalize hexL n = l at *
  go_enter Tryd.func34, Tryd.ntmps34
  go_wp2_with fail
  refine H.out.mono ?_; rintro e w1 ⟨rfl, hb⟩
  go_wp2_with fail
  go_ret
  exact ⟨rfl, hb⟩
end Go.Proofs.YtpiiliecdkemhaaDoor
