/-
  Joined texts: CharDevA, CharDevB, CharDevC.
-/
import Derived.Test.YtlpmofmhcnclhaaCharA
import Derived.Test.YtlpmofmhcnclhaaCharRefDG
import Derived.Lib.OthersKept
import Derived.Lib.TrimAscii

/-
  The contract of package char's own Class.
-/
namespace Go.Proofs.Ytlpmofmhcnclhaa
open Go.RowKit

end Go.Proofs.Ytlpmofmhcnclhaa

/-
  The contracts of package char's own isName and isSymbol.
-/
namespace Go.Proofs.Ytlpmofmhcnclhaa
open Go.RowKit

theorem nameAll_nil : nameAll [] = false := by decide
theorem nameAll_cons (c : Int) (t : List Int) : nameAll (c :: t) = (decide (cls c = 1) && t.all nameR) := by
  unfold nameAll nameR
  rw [List.headD_cons, List.all_cons]
  by_cases h : cls c = 1
  · rw [decide_eq_true h, decide_eq_true (.inl h)]; simp
  · rw [decide_eq_false h]; simp
/-- What is left to ask of a name behind its first bytes. -/
def NameSt (l : List UInt8) (pos : Nat) : Prop := pos = 0 ∨ nameAll (runesL l) = (runesL (l.drop pos)).all nameR
theorem drop_runes (s : ByteArray) (pos : Nat) (h : pos < s.size) : runesL (s.data.toList.drop pos) = ((Utf8.decode s pos).1 : Int) :: runesL (s.data.toList.drop (pos + (Utf8.decode s pos).2)) := by
  have hne : s.data.toList.drop pos ≠ [] := fun e => by
    have h1 := congrArg List.length e
    rw [List.length_drop] at h1
    simp at h1
    omega
  rw [runesL_cons _ hne, Lib.decodeL_drop, List.drop_drop]
theorem decode_fits (s : ByteArray) (pos : Nat) (h : pos < s.size) : pos < pos + (Utf8.decode s pos).2 ∧ pos + (Utf8.decode s pos).2 ≤ s.size := by
  have hne : s.data.toList.drop pos ≠ [] := fun e => by
    have h1 := congrArg List.length e
    rw [List.length_drop] at h1
    simp at h1
    omega
  have h1 := Lib.decodeL_width (s.data.toList.drop pos)
  have h2 := Lib.decodeL_le (s.data.toList.drop pos) hne
  rw [List.length_drop] at h2
  rw [Lib.decodeL_drop] at h1 h2
  simp at h2
  omega
theorem NameSt.step {s : ByteArray} {pos : Nat} (h : pos < s.size) (hs : NameSt s.data.toList pos) (hc : cls (Utf8.decode s pos).1 = 1 ∨ (pos ≠ 0 ∧ (cls (Utf8.decode s pos).1 = 2 ∨ cls (Utf8.decode s pos).1 = 3))) : NameSt s.data.toList (pos + (Utf8.decode s pos).2) := by
  right
  have hd := drop_runes s pos h
  have hn : nameR (Utf8.decode s pos).1 = true := by unfold nameR; rw [decide_eq_true_eq]; omega
  rcases Nat.eq_zero_or_pos pos with h0 | h0
  · subst h0
    rw [List.drop_zero] at hd
    rw [hd, nameAll_cons, decide_eq_true (by omega), Bool.true_and]
  · rcases hs with hs | hs
    · omega
    · rw [hs, hd, List.all_cons, hn, Bool.true_and]
theorem NameSt.bad {s : ByteArray} {pos : Nat} (h : pos < s.size) (hs : NameSt s.data.toList pos) (hc : ¬ (cls (Utf8.decode s pos).1 = 1 ∨ (pos ≠ 0 ∧ (cls (Utf8.decode s pos).1 = 2 ∨ cls (Utf8.decode s pos).1 = 3)))) : nameAll (runesL s.data.toList) = false := by
  have hd := drop_runes s pos h
  rcases Nat.eq_zero_or_pos pos with h0 | h0
  · subst h0
    rw [List.drop_zero] at hd
    rw [hd, nameAll_cons, decide_eq_false (by omega), Bool.false_and]
  · rcases hs with hs | hs
    · omega
    · have hn : nameR (Utf8.decode s pos).1 = false := by unfold nameR; rw [decide_eq_false_iff_not]; omega
      rw [hs, hd, List.all_cons, hn, Bool.false_and]
theorem NameSt.done {s : ByteArray} {pos : Nat} (h : ¬ pos < s.size) (hs : NameSt s.data.toList pos) : nameAll (runesL s.data.toList) = decide (s.size ≠ 0) := by
  rcases hs with hs | hs
  · have hl : s.data.toList = [] := List.eq_nil_of_length_eq_zero (by have := (show s.data.toList.length = s.size by simp); omega)
    rw [hl, runesL_nil, nameAll_nil]
    exact (decide_eq_false (by omega)).symm
  · by_cases h0 : s.size = 0
    · have hl : s.data.toList = [] := List.eq_nil_of_length_eq_zero (by simpa using h0)
      rw [hl, runesL_nil, nameAll_nil]
      exact (decide_eq_false (by omega)).symm
    · rw [hs, List.drop_eq_nil_of_le (by simp; omega), runesL_nil, decide_eq_true h0]; rfl

/-- What is left to ask of signs behind the first bytes. -/
def SignSt (l : List UInt8) (pos : Nat) : Prop := (runesL l).all signR = (runesL (l.drop pos)).all signR

end Go.Proofs.Ytlpmofmhcnclhaa

/-
  The contracts of package char's own Check and Bare.
-/
namespace Go.Proofs.Ytlpmofmhcnclhaa
open Go.RowKit

theorem head_rune (b : UInt8) (t : List UInt8) (hb : b.toNat < 128) : (runesL (b :: t)).headD 0 = (b.toNat : Int) := by
  rw [runesL_cons _ (by simp), List.headD_cons]
  rw [Lib.decodeL_ascii b t hb]
theorem nameAll_no (b : UInt8) (t : List UInt8) (hb : b.toNat < 128) (hc : cls (b.toNat : Int) ≠ 1) : nameAll (runesL (b :: t)) = false := by
  unfold nameAll
  rw [head_rune b t hb, decide_eq_false hc, Bool.false_and]
theorem bare_dev {l : List UInt8} (hc : checkL l = true) (h3 : l ≠ [91, 93]) (h4 : l ≠ [123, 125]) (h5 : l ≠ [33]) (h6 : l ≠ [59]) :
    bareL l = (nameAll (runesL l) || ((runesL l).all signR && !l.isEmpty && !(l == [46]) && !(l.take 2 == [47, 42]))) := by
  by_cases h0 : l = []
  · rw [bare_no (.inr (.inl h0)), h0, runesL_nil, nameAll_nil]; rfl
  by_cases h1 : l = [46]
  · rw [bare_no (.inr (.inr (.inl h1))), h1, nameAll_no 46 [] (by decide) (by decide)]; simp
  by_cases h2 : l.take 2 = [47, 42]
  · rw [bare_no (.inr (.inr (.inr h2))), h2]
    have hn : nameAll (runesL l) = false := by
      match l, h2 with
      | a :: t, h2 =>
        have ha : a = 47 := by cases t <;> simp at h2; exact h2.1
        subst ha
        exact nameAll_no 47 t (by decide) (by decide)
    rw [hn]; simp
  rw [bare_rest hc h0 h1 h2 h3 h4 h5 h6]
  have g0 : l.isEmpty = false := by rw [List.isEmpty_eq_false_iff]; exact h0
  have g1 : (l == [46]) = false := by simpa using h1
  have g2 : (l.take 2 == [47, 42]) = false := by simpa using h2
  rw [g0, g1, g2]; simp

end Go.Proofs.Ytlpmofmhcnclhaa
