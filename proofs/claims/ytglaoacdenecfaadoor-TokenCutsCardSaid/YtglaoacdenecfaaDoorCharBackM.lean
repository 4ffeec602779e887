/-
  Plain mathematics: runes are read from the bytes that are written for them, and an atom's text in quotes is read as what it was; no program in it.
-/
import Derived.Test.YtglaoacdenecfaaDoorCharReadM
import Derived.Lib.TrimAscii
namespace Go.Proofs.YtglaoacdenecfaaDoor
open Go.RowKit

/-- A rune that can be written. -/
def Scalar (c : Nat) : Prop := c < 55296 ∨ (57343 < c ∧ c ≤ 1114111)
theorem valid_of {c : Nat} (h : Scalar c) : Utf8.valid (c : Int) = true := by
  unfold Scalar at h
  unfold Utf8.valid
  simp
  omega
set_option maxRecDepth 100000 in
theorem encL_of {c : Nat} (h : Scalar c) : encL (c : Int) =
    if c < 128 then [UInt8.ofNat c]
    else if c < 2048 then [UInt8.ofNat (192 + c / 64), UInt8.ofNat (128 + c % 64)]
    else if c < 65536 then [UInt8.ofNat (224 + c / 4096), UInt8.ofNat (128 + c / 64 % 64), UInt8.ofNat (128 + c % 64)]
    else [UInt8.ofNat (240 + c / 262144), UInt8.ofNat (128 + c / 4096 % 64), UInt8.ofNat (128 + c / 64 % 64), UInt8.ofNat (128 + c % 64)] := by
  unfold encL Utf8.encode
  dsimp only
  rw [valid_of h, if_pos rfl, Int.toNat_natCast]
  split
  · rfl
  · split
    · rfl
    · split <;> rfl
theorem toNat_of (n : Nat) (h : n < 256) : (UInt8.ofNat n).toNat = n := by
  rw [UInt8.toNat_ofNat']
  omega

set_option maxHeartbeats 2000000 in
theorem decodeL_encL {c : Nat} (h : Scalar c) (t : List UInt8) : Lib.decodeL (encL (c : Int) ++ t) = (c, (encL (c : Int)).length) := by
  rw [encL_of h]
  unfold Scalar at h
  by_cases h1 : c < 128
  · rw [if_pos h1]
    show Lib.decodeL (UInt8.ofNat c :: t) = (c, 1)
    rw [Lib.decodeL_ascii _ _ (by rw [toNat_of c (by omega)]; exact h1), toNat_of c (by omega)]
  rw [if_neg h1]
  by_cases h2 : c < 2048
  · rw [if_pos h2, Lib.decodeL_N]
    simp only [List.cons_append, List.nil_append, List.length_cons, List.getD_cons_zero, List.getD_cons_succ, List.length_nil]
    rw [toNat_of (192 + c / 64) (by omega), toNat_of (128 + c % 64) (by omega)]
    unfold Lib.decodeN
    rw [if_neg (by omega), if_pos (by omega), if_pos (by omega)]
    apply Prod.ext <;> simp only <;> omega
  rw [if_neg h2]
  by_cases h3 : c < 65536
  · rw [if_pos h3, Lib.decodeL_N]
    simp only [List.cons_append, List.nil_append, List.length_cons, List.getD_cons_zero, List.getD_cons_succ, List.length_nil]
    rw [toNat_of (224 + c / 4096) (by omega), toNat_of (128 + c / 64 % 64) (by omega), toNat_of (128 + c % 64) (by omega)]
    unfold Lib.decodeN
    rw [if_neg (by omega), if_neg (by omega), if_pos (by omega), if_pos (by omega)]
    apply Prod.ext <;> simp only <;> omega
  · rw [if_neg h3, Lib.decodeL_N]
    simp only [List.cons_append, List.nil_append, List.length_cons, List.getD_cons_zero, List.getD_cons_succ, List.length_nil]
    rw [toNat_of (240 + c / 262144) (by omega), toNat_of (128 + c / 4096 % 64) (by omega), toNat_of (128 + c / 64 % 64) (by omega), toNat_of (128 + c % 64) (by omega)]
    unfold Lib.decodeN
    rw [if_neg (by omega), if_neg (by omega), if_neg (by omega), if_pos (by omega), if_pos (by omega)]
    apply Prod.ext <;> simp only <;> omega

theorem byte_eq {a : Nat} {b : UInt8} (h : a = b.toNat) : UInt8.ofNat a = b := by rw [h]; exact UInt8.ofNat_toNat

set_option maxHeartbeats 2000000 in
/-- What is decoded is written as the bytes that it was decoded from. -/
theorem encL_decodeL (l : List UInt8) (hl : l ≠ []) (hb : ¬ ((Lib.decodeL l).1 = 65533 ∧ (Lib.decodeL l).2 = 1)) : Scalar (Lib.decodeL l).1 ∧ encL ((Lib.decodeL l).1 : Int) = l.take (Lib.decodeL l).2 := by
  have hN := Lib.decodeL_N l
  unfold Lib.decodeN at hN
  match l, hl with
  | b0 :: t, _ =>
    have hb0 := b0.toNat_lt
    simp only [List.getD_cons_zero, List.getD_cons_succ, List.length_cons] at hN
    by_cases h1 : b0.toNat < 128
    · rw [if_pos h1] at hN
      have hs : Scalar b0.toNat := .inl (by omega)
      rw [hN]
      refine ⟨hs, ?_⟩
      rw [encL_of hs, if_pos h1]
      show [UInt8.ofNat b0.toNat] = [b0]
      rw [UInt8.ofNat_toNat]
    rw [if_neg h1] at hN
    by_cases h2 : b0.toNat / 32 = 6 ∧ (1 < t.length + 1 ∧ (t.getD 0 0).toNat / 64 = 2)
    · rw [if_pos h2] at hN
      match t, h2 with
      | b1 :: t2, h2 =>
        have hb1 := b1.toNat_lt
        simp only [List.getD_cons_zero, List.length_cons] at hN h2
        split at hN
        · rename_i hc
          have hs : Scalar (b0.toNat % 32 * 64 + b1.toNat % 64) := .inl (by omega)
          rw [hN]
          refine ⟨hs, ?_⟩
          rw [encL_of hs, if_neg (by omega), if_pos (by omega)]
          show [_, _] = [b0, b1]
          rw [byte_eq (b := b0) (by omega), byte_eq (b := b1) (by omega)]
        · exact absurd (by rw [hN]; exact ⟨rfl, rfl⟩) hb
    rw [if_neg h2] at hN
    by_cases h3 : b0.toNat / 16 = 14 ∧ (1 < t.length + 1 ∧ (t.getD 0 0).toNat / 64 = 2) ∧ (2 < t.length + 1 ∧ (t.getD 1 0).toNat / 64 = 2)
    · rw [if_pos h3] at hN
      match t, h3 with
      | [b1], h3 => exact absurd h3.2.2.1 (by simp)
      | b1 :: b2 :: t2, h3 =>
        have hb1 := b1.toNat_lt
        have hb2 := b2.toNat_lt
        simp only [List.getD_cons_zero, List.getD_cons_succ, List.length_cons] at hN h3
        split at hN
        · rename_i hc
          have hs : Scalar (b0.toNat % 16 * 4096 + b1.toNat % 64 * 64 + b2.toNat % 64) := by unfold Scalar; omega
          rw [hN]
          refine ⟨hs, ?_⟩
          rw [encL_of hs, if_neg (by omega), if_neg (by omega), if_pos (by omega)]
          show [_, _, _] = [b0, b1, b2]
          rw [byte_eq (b := b0) (by omega), byte_eq (b := b1) (by omega), byte_eq (b := b2) (by omega)]
        · exact absurd (by rw [hN]; exact ⟨rfl, rfl⟩) hb
    rw [if_neg h3] at hN
    by_cases h4 : b0.toNat / 8 = 30 ∧ (1 < t.length + 1 ∧ (t.getD 0 0).toNat / 64 = 2) ∧ (2 < t.length + 1 ∧ (t.getD 1 0).toNat / 64 = 2) ∧ (3 < t.length + 1 ∧ (t.getD 2 0).toNat / 64 = 2)
    · rw [if_pos h4] at hN
      match t, h4 with
      | [b1], h4 => exact absurd h4.2.2.1.1 (by simp)
      | [b1, b2], h4 => exact absurd h4.2.2.2.1 (by simp)
      | b1 :: b2 :: b3 :: t2, h4 =>
        have hb1 := b1.toNat_lt
        have hb2 := b2.toNat_lt
        have hb3 := b3.toNat_lt
        simp only [List.getD_cons_zero, List.getD_cons_succ, List.length_cons] at hN h4
        split at hN
        · rename_i hc
          have hs : Scalar (b0.toNat % 8 * 262144 + b1.toNat % 64 * 4096 + b2.toNat % 64 * 64 + b3.toNat % 64) := by unfold Scalar; omega
          rw [hN]
          refine ⟨hs, ?_⟩
          rw [encL_of hs, if_neg (by omega), if_neg (by omega), if_neg (by omega)]
          show [_, _, _, _] = [b0, b1, b2, b3]
          rw [byte_eq (b := b0) (by omega), byte_eq (b := b1) (by omega), byte_eq (b := b2) (by omega), byte_eq (b := b3) (by omega)]
        · exact absurd (by rw [hN]; exact ⟨rfl, rfl⟩) hb
    rw [if_neg h4] at hN
    exact absurd (by rw [hN]; exact ⟨rfl, rfl⟩) hb

/-! ### Valid texts -/
theorem validGo_fuel : ∀ (n : Nat) (l : List UInt8), l.length ≤ n → Lib.validGoD n l = Lib.validD l
  | 0, l, h => by rw [List.eq_nil_of_length_eq_zero (Nat.le_zero.1 h)]; rfl
  | n + 1, l, h => by
    by_cases hl : l = []
    · subst hl; rfl
    · have hp : 0 < l.length := List.length_pos_iff.2 hl
      obtain ⟨m, hm⟩ : ∃ m, l.length = m + 1 := ⟨l.length - 1, by omega⟩
      have hw := Lib.decodeL_width l
      have hd : (l.drop (Lib.decodeL l).2).length ≤ m := by rw [List.length_drop]; omega
      unfold Lib.validD
      rw [hm]
      unfold Lib.validGoD
      rw [if_neg hl, if_neg hl, validGo_fuel n _ (by omega), validGo_fuel m _ hd]
theorem valid_step (l : List UInt8) (hl : l ≠ []) : Lib.validD l = if (Lib.decodeL l).1 = 65533 ∧ (Lib.decodeL l).2 = 1 then false else Lib.validD (l.drop (Lib.decodeL l).2) := by
  have hp : 0 < l.length := List.length_pos_iff.2 hl
  obtain ⟨m, hm⟩ : ∃ m, l.length = m + 1 := ⟨l.length - 1, by omega⟩
  have hw := Lib.decodeL_width l
  have hd : (l.drop (Lib.decodeL l).2).length ≤ m := by rw [List.length_drop]; omega
  conv => lhs; unfold Lib.validD; rw [hm]; unfold Lib.validGoD
  rw [if_neg hl, validGo_fuel m _ hd]
theorem valid_cons {l : List UInt8} (hl : l ≠ []) (h : Lib.validD l = true) : ¬ ((Lib.decodeL l).1 = 65533 ∧ (Lib.decodeL l).2 = 1) ∧ Lib.validD (l.drop (Lib.decodeL l).2) = true := by
  rw [valid_step l hl] at h
  split at h
  · cases h
  · exact ⟨by assumption, h⟩
end Go.Proofs.YtglaoacdenecfaaDoor
