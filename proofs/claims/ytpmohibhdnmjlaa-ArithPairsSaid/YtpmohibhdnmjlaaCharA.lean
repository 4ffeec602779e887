/-
  Joined texts: CharPlain, CharRefA, CharRefB.
-/
import Derived.Lib.TrimUEq
import Derived.Lib.ValidU
import Derived.Lib.RuneBytes
import Derived.Lib.MapLaws
import Derived.Test.YtpmohibhdnmjlaaChecked
import Derived.WalkKit
import Derived.WalkSpells
import Derived.Lib.Hide

/-
  Plain mathematics for package char: classes of runes, atoms' texts, written and read; no program in it.
-/
namespace Go.Proofs.Ytpmohibhdnmjlaa
open Go.RowKit

/-- A rune's class. -/
def cls (c : Int) : Int :=
  if 97 ≤ c ∧ c ≤ 122 then 1
  else if (65 ≤ c ∧ c ≤ 90) ∨ c = 95 then 2
  else if 48 ≤ c ∧ c ≤ 57 then 3
  else if c = 43 ∨ c = 45 ∨ c = 42 ∨ c = 47 ∨ c = 92 ∨ c = 94 ∨ c = 60 ∨ c = 62 ∨ c = 61 ∨ c = 126 ∨ c = 58 ∨ c = 46 ∨ c = 63 ∨ c = 64 ∨ c = 35 ∨ c = 38 ∨ c = 36 then 4
  else if c = 9 ∨ c = 10 ∨ c = 13 ∨ c = 32 then 5
  else if c = 33 ∨ c = 59 ∨ c = 44 ∨ c = 124 then 6
  else if c = 40 ∨ c = 41 ∨ c = 91 ∨ c = 93 ∨ c = 123 ∨ c = 125 then 7
  else if c = 39 then 8
  else 0

/-- A text's runes, as a range goes over them. -/
def runesGo : Nat → List UInt8 → List Int
  | 0, _ => []
  | n + 1, l => if l = [] then [] else ((Lib.decodeL l).1 : Int) :: runesGo n (l.drop (Lib.decodeL l).2)
def runesL (l : List UInt8) : List Int := runesGo l.length l

def checkL (l : List UInt8) : Bool := decide (l.length ≤ 255) && Lib.validD l
def nameR (c : Int) : Bool := decide (cls c = 1 ∨ cls c = 2 ∨ cls c = 3)
def signR (c : Int) : Bool := decide (cls c = 4)
def bareL (l : List UInt8) : Bool :=
  checkL l && !(decide (l = []) || decide (l = [46]) || decide (l.take 2 = [47, 42])) &&
    (decide (l = [91, 93]) || decide (l = [123, 125]) || decide (l = [33]) || decide (l = [59]) ||
      (decide (cls ((runesL l).headD 0) = 1) && (runesL l).all nameR) || (runesL l).all signR)

/-- A rune's bytes. -/
def encL (r : Int) : List UInt8 := (Utf8.encode r).data.toList
/-- The digits to the base 16 of a number below 256. -/
def hexD (n : Nat) : UInt8 := if n < 10 then UInt8.ofNat (48 + n) else UInt8.ofNat (87 + n)
def hexL (n : Nat) : List UInt8 := if n < 16 then [hexD n] else [hexD (n / 16), hexD (n % 16)]
/-- A rune in quotes. -/
def escR (c : Int) : List UInt8 :=
  if c = 39 ∨ c = 92 then 92 :: encL c
  else if c = 10 then [92, 110]
  else if c = 9 then [92, 116]
  else if c < 32 then 92 :: 120 :: (hexL c.toNat ++ [92])
  else encL c
def quoteL (l : List UInt8) : List UInt8 := 39 :: ((runesL l).flatMap escR ++ [39])
def writeL (l : List UInt8) : List UInt8 := if checkL l then (if bareL l then l else quoteL l) else []

/-- A digit's number to the base 16; -1: it is none. -/
def hexV (b : Nat) : Int := if 48 ≤ b ∧ b ≤ 57 then (b : Int) - 48 else if 97 ≤ b ∧ b ≤ 102 then (b : Int) - 87 else if 65 ≤ b ∧ b ≤ 70 then (b : Int) - 55 else -1
/-- The digits at a text's beginning, k at the most: how many, and their number, n ahead of them. -/
def hexRun : Nat → List UInt8 → Int → Nat × Int
  | 0, _, n => (0, n)
  | _, [], n => (0, n)
  | k + 1, b :: t, n => if 0 ≤ hexV b.toNat then ((hexRun k t (16 * n + hexV b.toNat)).1 + 1, (hexRun k t (16 * n + hexV b.toNat)).2) else (0, n)
/-- What stands behind a backslash: the rune, and how many bytes; 0: nothing goes. -/
def escL : List UInt8 → Int × Nat
  | [] => (0, 0)
  | b :: t =>
    if b.toNat = 92 ∨ b.toNat = 39 then ((b.toNat : Int), 1)
    else if b.toNat = 110 then (10, 1)
    else if b.toNat = 116 then (9, 1)
    else if b.toNat = 120 then
      (if (hexRun 6 t 0).1 = 0 ∨ t.length ≤ (hexRun 6 t 0).1 ∨ (t.getD (hexRun 6 t 0).1 0).toNat ≠ 92 ∨ 1114111 < (hexRun 6 t 0).2 ∨ (55296 ≤ (hexRun 6 t 0).2 ∧ (hexRun 6 t 0).2 ≤ 57343) then (0, 0)
       else ((hexRun 6 t 0).2, (hexRun 6 t 0).1 + 2))
    else (0, 0)
/-- An atom in quotes, behind its first quote: what it is, and how many bytes it has up to its end. -/
def readGo : Nat → List UInt8 → List UInt8 → Nat → Option (List UInt8 × Nat)
  | 0, _, _, _ => none
  | f + 1, l, out, at_ =>
    if l = [] then none
    else if (Lib.decodeL l).1 = 39 then (if l.getD 1 0 = 39 ∧ 1 < l.length then readGo f (l.drop 2) (out ++ [39]) (at_ + 2) else some (out, at_ + 1))
    else if (Lib.decodeL l).1 = 92 then (if (escL (l.drop 1)).2 = 0 then none else readGo f (l.drop ((escL (l.drop 1)).2 + 1)) (out ++ encL (escL (l.drop 1)).1) (at_ + (escL (l.drop 1)).2 + 1))
    else if (Lib.decodeL l).1 < 32 ∨ ((Lib.decodeL l).1 = 65533 ∧ (Lib.decodeL l).2 = 1) then none
    else readGo f (l.drop (Lib.decodeL l).2) (out ++ encL (Lib.decodeL l).1) (at_ + (Lib.decodeL l).2)
def readL (l : List UInt8) : Option (List UInt8 × Nat) := if l.headD 0 = 39 then readGo l.length (l.drop 1) [] 1 else none

/-! ### A text's runes -/
theorem runesGo_fuel : ∀ (n : Nat) (l : List UInt8), l.length ≤ n → runesGo n l = runesGo l.length l
  | 0, l, h => by rw [List.eq_nil_of_length_eq_zero (Nat.le_zero.1 h)]; rfl
  | n + 1, l, h => by
    by_cases hl : l = []
    · subst hl; rfl
    · have hp : 0 < l.length := List.length_pos_iff.2 hl
      obtain ⟨m, hm⟩ : ∃ m, l.length = m + 1 := ⟨l.length - 1, by omega⟩
      have hw := Lib.decodeL_width l
      have hd : (l.drop (Lib.decodeL l).2).length ≤ m := by rw [List.length_drop]; omega
      rw [hm]
      show (if l = [] then [] else ((Lib.decodeL l).1 : Int) :: runesGo n (l.drop (Lib.decodeL l).2)) = (if l = [] then [] else ((Lib.decodeL l).1 : Int) :: runesGo m (l.drop (Lib.decodeL l).2))
      rw [if_neg hl, if_neg hl, runesGo_fuel n _ (by omega), runesGo_fuel m _ hd]
theorem runesL_nil : runesL [] = [] := rfl
theorem runesL_cons (l : List UInt8) (hl : l ≠ []) : runesL l = ((Lib.decodeL l).1 : Int) :: runesL (l.drop (Lib.decodeL l).2) := by
  have hp : 0 < l.length := List.length_pos_iff.2 hl
  obtain ⟨m, hm⟩ : ∃ m, l.length = m + 1 := ⟨l.length - 1, by omega⟩
  have hw := Lib.decodeL_width l
  have hd : (l.drop (Lib.decodeL l).2).length ≤ m := by rw [List.length_drop]; omega
  unfold runesL
  rw [hm]
  show (if l = [] then [] else ((Lib.decodeL l).1 : Int) :: runesGo m (l.drop (Lib.decodeL l).2)) = _
  rw [if_neg hl, runesGo_fuel m _ hd]
theorem runesL_length (l : List UInt8) : (runesL l).length ≤ l.length := by
  induction h : l.length using Nat.strongRecOn generalizing l with
  | _ n ih =>
    by_cases hl : l = []
    · subst hl; rw [runesL_nil]; simp
    · have hp : 0 < l.length := List.length_pos_iff.2 hl
      have hw := Lib.decodeL_width l
      have hd := List.length_drop (i := (Lib.decodeL l).2) (l := l)
      have := ih _ (by omega) (l.drop (Lib.decodeL l).2) rfl
      rw [runesL_cons l hl, List.length_cons]
      omega
theorem runesL_range (l : List UInt8) : ∀ c ∈ runesL l, 0 ≤ c ∧ c ≤ 1114111 := by
  induction h : l.length using Nat.strongRecOn generalizing l with
  | _ n ih =>
    by_cases hl : l = []
    · subst hl; intro c hc; cases hc
    · have hp : 0 < l.length := List.length_pos_iff.2 hl
      have hw := Lib.decodeL_width l
      have hr := Lib.decodeL_rune l
      have hd := List.length_drop (i := (Lib.decodeL l).2) (l := l)
      intro c hc
      rw [runesL_cons l hl, List.mem_cons] at hc
      rcases hc with rfl | hc
      · omega
      · exact ih _ (by omega) (l.drop (Lib.decodeL l).2) rfl c hc

/-! ### A rune's bytes -/
theorem encode_size (r : Int) : 1 ≤ (Utf8.encode r).size ∧ (Utf8.encode r).size ≤ 4 := by
  unfold Utf8.encode
  dsimp only
  generalize (if Utf8.valid r = true then r.toNat else Utf8.runeError) = c
  split
  · exact ⟨by show 1 ≤ 1; decide, by show 1 ≤ 4; decide⟩
  · split
    · exact ⟨by show 1 ≤ 2; decide, by show 2 ≤ 4; decide⟩
    · split
      · exact ⟨by show 1 ≤ 3; decide, by show 3 ≤ 4; decide⟩
      · exact ⟨by show 1 ≤ 4; decide, by show 4 ≤ 4; decide⟩
theorem encL_length (r : Int) : 1 ≤ (encL r).length ∧ (encL r).length ≤ 4 := by
  have h := encode_size r
  unfold encL
  simpa using h
theorem encL_ascii (r : Int) (h0 : 0 ≤ r) (h1 : r < 128) : encL r = [UInt8.ofNat r.toNat] := by
  have hv : Utf8.valid r = true := by unfold Utf8.valid; simp; omega
  unfold encL Utf8.encode
  dsimp only
  rw [hv, if_pos rfl, if_pos (show r.toNat < 128 by omega)]
theorem hexL_length (n : Nat) : (hexL n).length ≤ 2 := by
  unfold hexL
  split <;> simp
theorem escR_length (c : Int) : (escR c).length ≤ 5 := by
  have h1 := (encL_length c).2
  have h2 := hexL_length c.toNat
  unfold escR
  split
  · rw [List.length_cons]; omega
  · split
    · decide
    · split
      · decide
      · split
        · rw [List.length_cons, List.length_cons, List.length_append, List.length_singleton]; omega
        · omega
end Go.Proofs.Ytpmohibhdnmjlaa

/-
  The contracts of the document's own answers for char: among, Class, value.
-/
namespace Go.Proofs.Ytpmohibhdnmjlaa
open Go.RowKit

def memL (c : Int) (l : List UInt8) : Bool := l.any fun b => decide ((b.toNat : Int) = c)
theorem memL_snoc (c : Int) (s : ByteArray) (k : Nat) (h : k < s.size) (h1 : memL c (s.data.toList.take k) = false) (h2 : (s[k].toNat : Int) ≠ c) : memL c (s.data.toList.take (k + 1)) = false := by
  have e : s.data.toList.take (k + 1) = s.data.toList.take k ++ [s[k]] := by
    rw [List.take_succ_eq_append_getElem (by simpa using h)]; rfl
  unfold memL at *
  rw [e, List.any_append, h1]
  simp [h2]
theorem memL_hit (c : Int) (s : ByteArray) (k : Nat) (h : k < s.size) (h2 : (s[k].toNat : Int) = c) : memL c s.data.toList = true := by
  unfold memL
  rw [List.any_eq_true]
  exact ⟨s[k], by rw [show s[k] = s.data.toList[k]'(by simpa using h) from rfl]; exact List.getElem_mem _, by simpa using h2⟩
theorem ret_bool {a b : Bool} (h : a = b) : Ending.returned (.bool a) = .returned (.bool b) := by rw [h]
theorem ret_i {k : IntKind} {a b : Int} (h : a = b) : Ending.returned (.int k a) = .returned (.int k b) := by rw [h]

theorem mem4 (c : Int) : memL c [43, 45, 42, 47, 92, 94, 60, 62, 61, 126, 58, 46, 63, 64, 35, 38, 36] = decide (c = 43 ∨ c = 45 ∨ c = 42 ∨ c = 47 ∨ c = 92 ∨ c = 94 ∨ c = 60 ∨ c = 62 ∨ c = 61 ∨ c = 126 ∨ c = 58 ∨ c = 46 ∨ c = 63 ∨ c = 64 ∨ c = 35 ∨ c = 38 ∨ c = 36) := by
  rw [Bool.eq_iff_iff]
  simp [memL]
  omega
theorem mem6 (c : Int) : memL c [33, 59, 44, 124] = decide (c = 33 ∨ c = 59 ∨ c = 44 ∨ c = 124) := by
  rw [Bool.eq_iff_iff]
  simp [memL]
  omega
theorem mem7 (c : Int) : memL c [40, 41, 91, 93, 123, 125] = decide (c = 40 ∨ c = 41 ∨ c = 91 ∨ c = 93 ∨ c = 123 ∨ c = 125) := by
  rw [Bool.eq_iff_iff]
  simp [memL]
  omega

/-- Where no letter and no digit stands. -/
def Gap (c : Int) : Prop := c < 48 ∨ (58 ≤ c ∧ c ≤ 64) ∨ (91 ≤ c ∧ c ≤ 94) ∨ (96 ≤ c ∧ c ≤ 96) ∨ 123 ≤ c

end Go.Proofs.Ytpmohibhdnmjlaa

/-
  The contracts of the document's own answers for char: Class (any rune), value, hex.
-/
namespace Go.Proofs.Ytpmohibhdnmjlaa
open Go.RowKit

end Go.Proofs.Ytpmohibhdnmjlaa
