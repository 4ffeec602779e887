/-
  Plain mathematics: a number's own text is read as that number, with noughts ahead too; no program in it.
-/
import Derived.Test.YtcelogngamijlaaDoorNumDigits
import Derived.Lib.ItoaLen
namespace Go.Proofs.YtcelogngamijlaaDoor
open Go.RowKit

theorem ofNat_toNat (k : Nat) (h : k ≤ 9) : (UInt8.ofNat (48 + k)).toNat = 48 + k := by
  rw [UInt8.toNat_ofNat']
  omega
theorem dig_isDig (k : Nat) (h : k ≤ 9) : isDig (UInt8.ofNat (48 + k)) = true := by
  rw [isDig_iff, ofNat_toNat k h]
  omega
theorem decDigits_all (u : Nat) : (Lib.decDigits u).all isDig = true := by
  induction u using Nat.strongRecOn with
  | _ u ih =>
    rw [Lib.decDigits]
    split
    · rw [List.all_cons, dig_isDig u (by omega), List.all_nil]
      rfl
    · rw [List.all_append, ih (u / 10) (by omega), List.all_cons, dig_isDig (u % 10) (by omega), List.all_nil]
      rfl
theorem decDigits_val (u : Nat) : val (Lib.decDigits u) = u := by
  induction u using Nat.strongRecOn with
  | _ u ih =>
    rw [Lib.decDigits]
    split
    · show 10 * 0 + (((UInt8.ofNat (48 + u)).toNat : Int) - 48) = u
      rw [ofNat_toNat u (by omega)]
      omega
    · rw [val_snoc, ih (u / 10) (by omega), ofNat_toNat (u % 10) (by omega)]
      omega
theorem decDigits_ne (u : Nat) : Lib.decDigits u ≠ [] := by
  rw [Lib.decDigits]
  split <;> simp
theorem val_zeros (l : List UInt8) : val (48 :: l) = val l := rfl

theorem body_dig {l : List UInt8} (h : l.all isDig = true) : body l = l ∧ neg l = false := by
  cases l with
  | nil => exact ⟨rfl, rfl⟩
  | cons c t =>
    rw [List.all_cons, Bool.and_eq_true] at h
    have := (isDig_iff c).1 h.1
    constructor
    · show (if c.toNat = 45 then t else c :: t) = c :: t
      rw [if_neg (by omega)]
    · show decide (c.toNat = 45) = false
      simp
      omega
theorem body_neg (l : List UInt8) : body (45 :: l) = l ∧ neg (45 :: l) = true := ⟨rfl, rfl⟩

/-- A text of digits, not negative. -/
theorem read_digits {l : List UInt8} {a : Int} (h : l.all isDig = true) (hn : l ≠ []) (hv : val l = a) (ha : In64 a) : readV l = a ∧ readE l = 0 := by
  obtain ⟨h1, h2⟩ := body_dig h
  have hr : readN l = a := by unfold readN; rw [h2, h1, hv]; rfl
  have hg := read_good (l := l) (by rw [h1]; exact hn) (by rw [h1]; exact h)
  rw [hg.1, hg.2, hr, chkV_in ha, chkE_in ha]
  exact ⟨rfl, rfl⟩
theorem read_minus {l : List UInt8} {a : Int} (h : l.all isDig = true) (hn : l ≠ []) (hv : -(val l) = a) (ha : In64 a) : readV (45 :: l) = a ∧ readE (45 :: l) = 0 := by
  have hr : readN (45 :: l) = a := by unfold readN; rw [(body_neg l).1, (body_neg l).2, if_pos rfl, hv]
  have hg := read_good (l := 45 :: l) (by rw [(body_neg l).1]; exact hn) (by rw [(body_neg l).1]; exact h)
  rw [hg.1, hg.2, hr, chkV_in ha, chkE_in ha]
  exact ⟨rfl, rfl⟩

theorem itoa_pos (a : Int) (h : 0 ≤ a) : Lib.itoa a = Lib.decDigits a.toNat := by
  obtain ⟨u, rfl⟩ := Int.eq_ofNat_of_zero_le h
  exact Lib.itoa_nonneg u
theorem itoa_neg' (a : Int) (h : a < 0) : Lib.itoa a = 45 :: Lib.decDigits (-a).toNat := by
  obtain ⟨u, hu⟩ := Int.eq_ofNat_of_zero_le (show 0 ≤ -a by omega)
  have : a = -(u : Int) := by omega
  rw [this, Lib.itoa_neg u (by omega)]
  simp
theorem read_itoa (a : Int) (ha : In64 a) : readV (Lib.itoa a) = a ∧ readE (Lib.itoa a) = 0 := by
  by_cases h : 0 ≤ a
  · rw [itoa_pos a h]
    exact read_digits (decDigits_all _) (decDigits_ne _) (by rw [decDigits_val]; omega) ha
  · rw [itoa_neg' a (by omega)]
    exact read_minus (decDigits_all _) (decDigits_ne _) (by rw [decDigits_val]; omega) ha
theorem read_noughts (a : Int) (ha : In64 a) (h : 0 ≤ a) : readV (48 :: 48 :: Lib.itoa a) = a ∧ readE (48 :: 48 :: Lib.itoa a) = 0 := by
  rw [itoa_pos a h]
  exact read_digits (by simp [decDigits_all]; decide) (by simp) (by rw [val_zeros, val_zeros, decDigits_val]; omega) ha
theorem read_noughts_neg (a : Int) (ha : In64 a) (h : a < 0) : readV (45 :: 48 :: 48 :: (Lib.itoa a).tail) = a ∧ readE (45 :: 48 :: 48 :: (Lib.itoa a).tail) = 0 := by
  rw [itoa_neg' a h]
  exact read_minus (by simp [decDigits_all]; decide) (by simp) (by rw [val_zeros, val_zeros, List.tail_cons, decDigits_val]; omega) ha
end Go.Proofs.YtcelogngamijlaaDoor
