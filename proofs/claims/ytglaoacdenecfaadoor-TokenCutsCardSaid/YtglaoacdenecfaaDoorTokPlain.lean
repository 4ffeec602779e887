/-
  Plain mathematics for package token: what is cut off at a text's beginning, and how a source is cut; no program in it.
-/
import Derived.Test.YtglaoacdenecfaaDoorCharBackN
import Derived.Test.YtglaoacdenecfaaDoorNumBackA
namespace Go.Proofs.YtglaoacdenecfaaDoor
open Go.RowKit

/-- What is cut off: its kind (0: what is passed over), its text, its number, how many bytes it has; 0 bytes: nothing goes. -/
structure Lx where
  kind : Int
  text : List UInt8
  n : Int
  w : Nat
def lx0 : Lx := ⟨0, [], 0, 0⟩
/-- How many bytes at a text's beginning are such runes; a P that is the same for all runes from 128 on. -/
def spanL (P : Int → Bool) (l : List UInt8) : Nat := (l.takeWhile fun b => P (b.toNat : Int)).length
def digR (c : Int) : Bool := decide (cls c = 3)
def lineR (c : Int) : Bool := decide (c ≠ 10)
def namedL (x : Lx) : Lx := if checkL x.text then x else lx0
def wordL (k : Int) (l : List UInt8) : Lx := ⟨k, l.take (spanL nameR l), 0, spanL nameR l⟩
def partsL (l : List UInt8) : Bool := match l with | [] => true | b :: _ => decide (b = 37) || decide (cls (b.toNat : Int) = 5)
def signsL (l : List UInt8) : Lx := ⟨if l.take (spanL signR l) = [46] ∧ partsL (l.drop (spanL signR l)) = true then 8 else 3, l.take (spanL signR l), 0, spanL signR l⟩
def quotedL (l : List UInt8) : Lx := match readL l with | some (t, k) => ⟨2, t, 0, k⟩ | none => lx0
def singleL (b : UInt8) : Lx := ⟨if b = 33 ∨ b = 59 then 1 else 6, [b], 0, 1⟩
/-- The rune for which 0' and what is behind it stand, and how many bytes that has. -/
def runeB (r : List UInt8) : Int × Nat :=
  if r.take 2 = [39, 39] then (39, 4)
  else if r = [] ∨ (Lib.decodeL r).1 < 32 ∨ (Lib.decodeL r).1 = 39 ∨ (Lib.decodeL r).1 = 92 ∨ ((Lib.decodeL r).1 = 65533 ∧ (Lib.decodeL r).2 < 2) then (0, 0)
  else (((Lib.decodeL r).1 : Int), 2 + (Lib.decodeL r).2)
def runeNum (l : List UInt8) : Int × Nat := if l.take 2 = [48, 39] then runeB (l.drop 2) else (0, 0)
def numberL (l : List UInt8) : Lx :=
  if 0 < (runeNum l).2 then ⟨5, [], (runeNum l).1, (runeNum l).2⟩
  else if readE (45 :: l.take (spanL digR l)) = 0 then ⟨5, [], wrap64 (-(readV (45 :: l.take (spanL digR l)))), spanL digR l⟩ else lx0
/-- Where a remark's end is: how many bytes up to and with the first of them. -/
def closeL : List UInt8 → Option Nat
  | [] => none
  | b :: t => if b = 42 ∧ t.headD 0 = 47 ∧ t ≠ [] then some 2 else (closeL t).map (· + 1)
def remarkL (l : List UInt8) : Lx := match closeL (l.drop 2) with | some k => ⟨0, [], 0, k + 2⟩ | none => lx0
/-- What stands at the beginning of a text that is not empty. -/
def lexL (l : List UInt8) : Lx :=
  match l with
  | [] => lx0
  | b :: t =>
    if cls (b.toNat : Int) = 5 then ⟨0, [], 0, 1⟩
    else if cls (b.toNat : Int) = 1 then namedL (wordL 1 (b :: t))
    else if cls (b.toNat : Int) = 2 then wordL 4 (b :: t)
    else if cls (b.toNat : Int) = 3 then numberL (b :: t)
    else if cls (b.toNat : Int) = 4 then (if (b :: t).take 2 = [47, 42] then remarkL (b :: t) else namedL (signsL (b :: t)))
    else if cls (b.toNat : Int) = 8 then namedL (quotedL (b :: t))
    else if cls (b.toNat : Int) = 6 ∨ cls (b.toNat : Int) = 7 then singleL b
    else if b = 37 then ⟨0, [], 0, spanL lineR (b :: t)⟩
    else lx0

/-- A token. -/
structure Tok where
  kind : Int
  text : List UInt8
  n : Int
  pos : Nat
/-- What comes of a source: a place at which nothing goes, or tokens. -/
inductive Out where
  | bad (o : Nat)
  | good (l : List Tok)
def Out.pre (ts : List Tok) : Out → Out
  | .bad o => .bad o
  | .good l => .good (ts ++ l)
def opensL (k : Int) (t : List UInt8) : Bool := decide (k = 1) || decide (k = 2) || decide (k = 3) || (decide (k = 6) && (decide (t = [93]) || decide (t = [125])))
/-- The kind that a token has: of a bracket right behind what opens it, 7. -/
def kindL (tight : Bool) (x : Lx) : Int := if tight = true ∧ x.text = [40] ∧ x.kind = 6 then 7 else x.kind
def cutGo : Nat → List UInt8 → Nat → Bool → Out
  | 0, _, o, _ => .good [⟨9, [], 0, o⟩]
  | f + 1, l, o, tight =>
    if l = [] then .good [⟨9, [], 0, o⟩]
    else if (lexL l).w = 0 then .bad o
    else if (lexL l).kind = 0 then cutGo f (l.drop (lexL l).w) (o + (lexL l).w) false
    else (cutGo f (l.drop (lexL l).w) (o + (lexL l).w) (opensL (kindL tight (lexL l)) (lexL l).text)).pre [⟨kindL tight (lexL l), (lexL l).text, (lexL l).n, o⟩]
/-- A source, from a place on. -/
def cutL (l : List UInt8) (o : Nat) (tight : Bool) : Out := cutGo l.length l o tight

theorem cutGo_fuel : ∀ (f : Nat) (l : List UInt8) (o : Nat) (t : Bool), l.length ≤ f → cutGo f l o t = cutGo l.length l o t
  | 0, l, o, t, h => by rw [List.eq_nil_of_length_eq_zero (Nat.le_zero.1 h)]; rfl
  | f + 1, l, o, t, h => by
    by_cases hl : l = []
    · subst hl; rfl
    · have hp : 0 < l.length := List.length_pos_iff.2 hl
      obtain ⟨m, hm⟩ : ∃ m, l.length = m + 1 := ⟨l.length - 1, by omega⟩
      rw [hm]
      unfold cutGo
      rw [if_neg hl, if_neg hl]
      by_cases hw : (lexL l).w = 0
      · rw [if_pos hw, if_pos hw]
      · have hd : (l.drop (lexL l).w).length ≤ m := by rw [List.length_drop]; omega
        rw [if_neg hw, if_neg hw]
        have ih : ∀ o t, cutGo f (l.drop (lexL l).w) o t = cutGo m (l.drop (lexL l).w) o t := fun o t => by
          rw [cutGo_fuel f _ _ _ (by omega), cutGo_fuel m _ _ _ hd]
        rw [ih, ih]
theorem cutL_nil (o : Nat) (t : Bool) : cutL [] o t = .good [⟨9, [], 0, o⟩] := rfl
theorem cutL_step (l : List UInt8) (o : Nat) (t : Bool) (hl : l ≠ []) : cutL l o t =
    if (lexL l).w = 0 then .bad o
    else if (lexL l).kind = 0 then cutL (l.drop (lexL l).w) (o + (lexL l).w) false
    else (cutL (l.drop (lexL l).w) (o + (lexL l).w) (opensL (kindL t (lexL l)) (lexL l).text)).pre [⟨kindL t (lexL l), (lexL l).text, (lexL l).n, o⟩] := by
  have hp : 0 < l.length := List.length_pos_iff.2 hl
  obtain ⟨m, hm⟩ : ∃ m, l.length = m + 1 := ⟨l.length - 1, by omega⟩
  conv => lhs; unfold cutL; rw [hm]; unfold cutGo
  rw [if_neg hl]
  by_cases hw : (lexL l).w = 0
  · rw [if_pos hw, if_pos hw]
  · have hd : (l.drop (lexL l).w).length ≤ m := by rw [List.length_drop]; omega
    rw [if_neg hw, if_neg hw]
    rw [cutGo_fuel m _ _ _ hd, cutGo_fuel m _ _ _ hd]
    rfl
theorem pre_pre (a b : List Tok) (o : Out) : (o.pre b).pre a = o.pre (a ++ b) := by cases o <;> simp [Out.pre]
theorem pre_nil (o : Out) : o.pre [] = o := by cases o <;> rfl

/-! ### What is cut off has bytes of its own -/
theorem spanL_le (P : Int → Bool) (l : List UInt8) : spanL P l ≤ l.length := (List.takeWhile_sublist _).length_le
theorem take_spanL (P : Int → Bool) (l : List UInt8) : l.take (spanL P l) = l.takeWhile fun b => P (b.toNat : Int) := by
  unfold spanL
  induction l with
  | nil => rfl
  | cons b t ih =>
    rw [List.takeWhile_cons]
    split
    · rw [List.length_cons, List.take_succ_cons, ih]
    · rfl
theorem spanL_pos (P : Int → Bool) (b : UInt8) (t : List UInt8) (h : P (b.toNat : Int) = true) : 0 < spanL P (b :: t) := by
  unfold spanL
  rw [List.takeWhile_cons, if_pos h, List.length_cons]; omega
theorem closeL_le : ∀ (l : List UInt8) (k : Nat), closeL l = some k → k ≤ l.length ∧ 2 ≤ k
  | [], k, h => by cases h
  | b :: t, k, h => by
    unfold closeL at h
    split at h
    · rename_i hc
      injection h with h
      have : 0 < t.length := List.length_pos_iff.2 hc.2.2
      rw [List.length_cons]; omega
    · cases hc : closeL t with
      | none => rw [hc] at h; cases h
      | some m =>
        rw [hc] at h
        have := closeL_le t m hc
        simp only [Option.map_some, Option.some.injEq] at h
        rw [List.length_cons]; omega
theorem runeB_le (r : List UInt8) : (runeB r).2 ≤ r.length + 2 := by
  unfold runeB
  by_cases h1 : r.take 2 = [39, 39]
  · have h2 := congrArg List.length h1
    rw [List.length_take] at h2
    simp only [List.length_cons, List.length_nil] at h2
    rw [if_pos h1]
    show 4 ≤ _
    omega
  rw [if_neg h1]
  by_cases h2 : r = [] ∨ (Lib.decodeL r).1 < 32 ∨ (Lib.decodeL r).1 = 39 ∨ (Lib.decodeL r).1 = 92 ∨ ((Lib.decodeL r).1 = 65533 ∧ (Lib.decodeL r).2 < 2)
  · rw [if_pos h2]; exact Nat.zero_le _
  · rw [if_neg h2]
    have h3 : r ≠ [] := fun e => h2 (.inl e)
    have := Lib.decodeL_le r h3
    show 2 + _ ≤ _
    omega
theorem runeNum_le (l : List UInt8) : (runeNum l).2 ≤ l.length := by
  unfold runeNum
  split
  · rename_i h
    have h2 := congrArg List.length h
    rw [List.length_take] at h2
    simp only [List.length_cons, List.length_nil] at h2
    have := runeB_le (l.drop 2)
    rw [List.length_drop] at this
    omega
  · exact Nat.zero_le _
theorem escapes_le (l out : List UInt8) (a : Nat) : ∀ o k, readAt l out a = some (o, k) → k ≤ a + l.length ∧ a < k := by
  induction h : l.length using Nat.strongRecOn generalizing l out a with
  | _ n ih =>
    intro o k hr
    by_cases hl : l = []
    · subst hl; cases hr
    · have hp : 0 < l.length := List.length_pos_iff.2 hl
      have hw := Lib.decodeL_width l
      have hle := Lib.decodeL_le l hl
      rw [readAt_step l out a hl] at hr
      by_cases h39 : (Lib.decodeL l).1 = 39
      · rw [if_pos h39] at hr
        by_cases h2 : l.getD 1 0 = 39 ∧ 1 < l.length
        · rw [if_pos h2] at hr
          have := ih _ (by rw [List.length_drop]; omega) (l.drop 2) _ _ rfl o k hr
          rw [List.length_drop] at this
          omega
        · rw [if_neg h2] at hr
          simp only [Option.some.injEq, Prod.mk.injEq] at hr
          omega
      rw [if_neg h39] at hr
      by_cases h92 : (Lib.decodeL l).1 = 92
      · rw [if_pos h92] at hr
        by_cases h0 : (escL (l.drop 1)).2 = 0
        · rw [if_pos h0] at hr; cases hr
        · rw [if_neg h0] at hr
          have h3 := escL_le (l.drop 1)
          rw [List.length_drop] at h3
          have := ih _ (by rw [List.length_drop]; omega) (l.drop ((escL (l.drop 1)).2 + 1)) _ _ rfl o k hr
          rw [List.length_drop] at this
          omega
      rw [if_neg h92] at hr
      by_cases hb : (Lib.decodeL l).1 < 32 ∨ ((Lib.decodeL l).1 = 65533 ∧ (Lib.decodeL l).2 = 1)
      · rw [if_pos hb] at hr; cases hr
      · rw [if_neg hb] at hr
        have := ih _ (by rw [List.length_drop]; omega) (l.drop (Lib.decodeL l).2) _ _ rfl o k hr
        rw [List.length_drop] at this
        omega
theorem readL_le {l : List UInt8} {t : List UInt8} {k : Nat} (h : readL l = some (t, k)) : k ≤ l.length ∧ 1 < k := by
  by_cases h0 : l.headD 0 = 39
  · rw [readL_eq l h0] at h
    have := escapes_le _ _ _ _ _ h
    cases l with
    | nil => cases h0
    | cons b t => rw [List.drop_succ_cons, List.drop_zero] at this; rw [List.length_cons]; omega
  · rw [readL_no l h0] at h; cases h
theorem namedL_w (x : Lx) : (namedL x).w = x.w ∨ (namedL x).w = 0 := by unfold namedL; split; exact .inl rfl; exact .inr rfl
theorem lexL_le (l : List UInt8) : (lexL l).w ≤ l.length := by
  cases l with
  | nil => exact Nat.le_refl 0
  | cons b t =>
    have hnm : ∀ x : Lx, x.w ≤ (b :: t).length → (namedL x).w ≤ (b :: t).length := fun x hx => by
      rcases namedL_w x with h | h <;> rw [h]
      · exact hx
      · exact Nat.zero_le _
    have h1 : 1 ≤ (b :: t).length := by rw [List.length_cons]; omega
    unfold lexL
    dsimp only
    repeat' split
    · exact h1
    · exact hnm _ (spanL_le _ _)
    · exact spanL_le _ _
    · unfold numberL
      split
      · exact runeNum_le _
      · split
        · exact spanL_le _ _
        · exact Nat.zero_le _
    · rename_i h2
      unfold remarkL
      split
      · rename_i k hk
        have := (closeL_le _ _ hk).1
        rw [List.length_drop] at this
        have h3 := congrArg List.length h2
        rw [List.length_take] at h3
        simp only [List.length_cons, List.length_nil] at h3 this ⊢
        omega
      · exact Nat.zero_le _
    · exact hnm _ (spanL_le _ _)
    · refine hnm _ ?_
      unfold quotedL
      split
      · rename_i t2 k hk
        exact (readL_le hk).1
      · exact Nat.zero_le _
    · exact h1
    · exact spanL_le _ _
    · exact Nat.zero_le _
end Go.Proofs.YtglaoacdenecfaaDoor
