/-
  Joined texts: TokPlain, TokModel, TokJoin.
-/
import Derived.Test.YtlbdocdjijhkbaaGreatDoorCharM
import Derived.Test.YtlbdocdjijhkbaaGreatDoorNumA
import Derived.Lib.SpaceUEq
import Derived.Test.YtlbdocdjijhkbaaGreatDoorTermTokM

/-
  Plain mathematics for package token: what is cut off at a text's beginning, and how a source is cut; no program in it.
-/
namespace Go.Proofs.YtlbdocdjijhkbaaGreatDoor
open Go.RowKit

/-- What is cut off: its kind (0: what is passed over), its text, its number, how many bytes it has; 0 bytes: nothing goes. -/
structure Lx where
  kind : Int
  text : List UInt8
  n : Int
  w : Nat
def lx0 : Lx := ⟨0, [], 0, 0⟩
/-- How many bytes at a text's beginning are such runes; a P that is the same for all runes from 128 on. -/
def spanL (P : Int → Bool) (l : List UInt8) : Nat := (l.takeWhile fun b => P (b.toNat : Int)).length
def digR (c : Int) : Bool := decide (cls c = 3)
def lineR (c : Int) : Bool := decide (c ≠ 10)
def namedL (x : Lx) : Lx := if checkL x.text then x else lx0
def wordL (k : Int) (l : List UInt8) : Lx := ⟨k, l.take (spanL nameR l), 0, spanL nameR l⟩
def partsL (l : List UInt8) : Bool := match l with | [] => true | b :: _ => decide (b = 37) || decide (cls (b.toNat : Int) = 5)
def signsL (l : List UInt8) : Lx := ⟨if l.take (spanL signR l) = [46] ∧ partsL (l.drop (spanL signR l)) = true then 8 else 3, l.take (spanL signR l), 0, spanL signR l⟩
def quotedL (l : List UInt8) : Lx := match readL l with | some (t, k) => ⟨2, t, 0, k⟩ | none => lx0
def singleL (b : UInt8) : Lx := ⟨if b = 33 ∨ b = 59 then 1 else 6, [b], 0, 1⟩
/-- The rune for which 0' and what is behind it stand, and how many bytes that has. -/
def runeB (r : List UInt8) : Int × Nat :=
  if r.take 2 = [39, 39] then (39, 4)
  else if r = [] ∨ (Lib.decodeL r).1 < 32 ∨ (Lib.decodeL r).1 = 39 ∨ (Lib.decodeL r).1 = 92 ∨ ((Lib.decodeL r).1 = 65533 ∧ (Lib.decodeL r).2 < 2) then (0, 0)
  else (((Lib.decodeL r).1 : Int), 2 + (Lib.decodeL r).2)
def runeNum (l : List UInt8) : Int × Nat := if l.take 2 = [48, 39] then runeB (l.drop 2) else (0, 0)
def numberL (l : List UInt8) : Lx :=
  if 0 < (runeNum l).2 then ⟨5, [], (runeNum l).1, (runeNum l).2⟩
  else if readE (45 :: l.take (spanL digR l)) = 0 then ⟨5, [], wrap64 (-(readV (45 :: l.take (spanL digR l)))), spanL digR l⟩ else lx0
/-- Where a remark's end is: how many bytes up to and with the first of them. -/
def closeL : List UInt8 → Option Nat
  | [] => none
  | b :: t => if b = 42 ∧ t.headD 0 = 47 ∧ t ≠ [] then some 2 else (closeL t).map (· + 1)
def remarkL (l : List UInt8) : Lx := match closeL (l.drop 2) with | some k => ⟨0, [], 0, k + 2⟩ | none => lx0
/-- What stands at the beginning of a text that is not empty. -/
def lexL (l : List UInt8) : Lx :=
  match l with
  | [] => lx0
  | b :: t =>
    if cls (b.toNat : Int) = 5 then ⟨0, [], 0, 1⟩
    else if cls (b.toNat : Int) = 1 then namedL (wordL 1 (b :: t))
    else if cls (b.toNat : Int) = 2 then wordL 4 (b :: t)
    else if cls (b.toNat : Int) = 3 then numberL (b :: t)
    else if cls (b.toNat : Int) = 4 then (if (b :: t).take 2 = [47, 42] then remarkL (b :: t) else namedL (signsL (b :: t)))
    else if cls (b.toNat : Int) = 8 then namedL (quotedL (b :: t))
    else if cls (b.toNat : Int) = 6 ∨ cls (b.toNat : Int) = 7 then singleL b
    else if b = 37 then ⟨0, [], 0, spanL lineR (b :: t)⟩
    else lx0

/-- A token. -/
structure Tok where
  kind : Int
  text : List UInt8
  n : Int
  pos : Nat
/-- What comes of a source: a place at which nothing goes, or tokens. -/
inductive Out where
  | bad (o : Nat)
  | good (l : List Tok)
def Out.pre (ts : List Tok) : Out → Out
  | .bad o => .bad o
  | .good l => .good (ts ++ l)
def opensL (k : Int) (t : List UInt8) : Bool := decide (k = 1) || decide (k = 2) || decide (k = 3) || (decide (k = 6) && (decide (t = [93]) || decide (t = [125])))
/-- The kind that a token has: of a bracket right behind what opens it, 7. -/
def kindL (tight : Bool) (x : Lx) : Int := if tight = true ∧ x.text = [40] ∧ x.kind = 6 then 7 else x.kind
def cutGo : Nat → List UInt8 → Nat → Bool → Out
  | 0, _, o, _ => .good [⟨9, [], 0, o⟩]
  | f + 1, l, o, tight =>
    if l = [] then .good [⟨9, [], 0, o⟩]
    else if (lexL l).w = 0 then .bad o
    else if (lexL l).kind = 0 then cutGo f (l.drop (lexL l).w) (o + (lexL l).w) false
    else (cutGo f (l.drop (lexL l).w) (o + (lexL l).w) (opensL (kindL tight (lexL l)) (lexL l).text)).pre [⟨kindL tight (lexL l), (lexL l).text, (lexL l).n, o⟩]
/-- A source, from a place on. -/
def cutL (l : List UInt8) (o : Nat) (tight : Bool) : Out := cutGo l.length l o tight

theorem cutGo_fuel : ∀ (f : Nat) (l : List UInt8) (o : Nat) (t : Bool), l.length ≤ f → cutGo f l o t = cutGo l.length l o t
  | 0, l, o, t, h => by rw [List.eq_nil_of_length_eq_zero (Nat.le_zero.1 h)]; rfl
  | f + 1, l, o, t, h => by
    by_cases hl : l = []
    · subst hl; rfl
    · have hp : 0 < l.length := List.length_pos_iff.2 hl
      obtain ⟨m, hm⟩ : ∃ m, l.length = m + 1 := ⟨l.length - 1, by omega⟩
      rw [hm]
      unfold cutGo
      rw [if_neg hl, if_neg hl]
      by_cases hw : (lexL l).w = 0
      · rw [if_pos hw, if_pos hw]
      · have hd : (l.drop (lexL l).w).length ≤ m := by rw [List.length_drop]; omega
        rw [if_neg hw, if_neg hw]
        have ih : ∀ o t, cutGo f (l.drop (lexL l).w) o t = cutGo m (l.drop (lexL l).w) o t := fun o t => by
          rw [cutGo_fuel f _ _ _ (by omega), cutGo_fuel m _ _ _ hd]
        rw [ih, ih]
theorem cutL_nil (o : Nat) (t : Bool) : cutL [] o t = .good [⟨9, [], 0, o⟩] := rfl
theorem cutL_step (l : List UInt8) (o : Nat) (t : Bool) (hl : l ≠ []) : cutL l o t =
    if (lexL l).w = 0 then .bad o
    else if (lexL l).kind = 0 then cutL (l.drop (lexL l).w) (o + (lexL l).w) false
    else (cutL (l.drop (lexL l).w) (o + (lexL l).w) (opensL (kindL t (lexL l)) (lexL l).text)).pre [⟨kindL t (lexL l), (lexL l).text, (lexL l).n, o⟩] := by
  have hp : 0 < l.length := List.length_pos_iff.2 hl
  obtain ⟨m, hm⟩ : ∃ m, l.length = m + 1 := ⟨l.length - 1, by omega⟩
  conv => lhs; unfold cutL; rw [hm]; unfold cutGo
  rw [if_neg hl]
  by_cases hw : (lexL l).w = 0
  · rw [if_pos hw, if_pos hw]
  · have hd : (l.drop (lexL l).w).length ≤ m := by rw [List.length_drop]; omega
    rw [if_neg hw, if_neg hw]
    rw [cutGo_fuel m _ _ _ hd, cutGo_fuel m _ _ _ hd]
    rfl
theorem pre_pre (a b : List Tok) (o : Out) : (o.pre b).pre a = o.pre (a ++ b) := by cases o <;> simp [Out.pre]
theorem pre_nil (o : Out) : o.pre [] = o := by cases o <;> rfl

/-! ### What is cut off has bytes of its own -/
theorem spanL_le (P : Int → Bool) (l : List UInt8) : spanL P l ≤ l.length := (List.takeWhile_sublist _).length_le
theorem take_spanL (P : Int → Bool) (l : List UInt8) : l.take (spanL P l) = l.takeWhile fun b => P (b.toNat : Int) := by
  unfold spanL
  induction l with
  | nil => rfl
  | cons b t ih =>
    rw [List.takeWhile_cons]
    split
    · rw [List.length_cons, List.take_succ_cons, ih]
    · rfl
theorem spanL_pos (P : Int → Bool) (b : UInt8) (t : List UInt8) (h : P (b.toNat : Int) = true) : 0 < spanL P (b :: t) := by
  unfold spanL
  rw [List.takeWhile_cons, if_pos h, List.length_cons]; omega
theorem closeL_le : ∀ (l : List UInt8) (k : Nat), closeL l = some k → k ≤ l.length ∧ 2 ≤ k
  | [], k, h => by cases h
  | b :: t, k, h => by
    unfold closeL at h
    split at h
    · rename_i hc
      injection h with h
      have : 0 < t.length := List.length_pos_iff.2 hc.2.2
      rw [List.length_cons]; omega
    · cases hc : closeL t with
      | none => rw [hc] at h; cases h
      | some m =>
        rw [hc] at h
        have := closeL_le t m hc
        simp only [Option.map_some, Option.some.injEq] at h
        rw [List.length_cons]; omega
theorem runeB_le (r : List UInt8) : (runeB r).2 ≤ r.length + 2 := by
  unfold runeB
  by_cases h1 : r.take 2 = [39, 39]
  · have h2 := congrArg List.length h1
    rw [List.length_take] at h2
    simp only [List.length_cons, List.length_nil] at h2
    rw [if_pos h1]
    show 4 ≤ _
    omega
  rw [if_neg h1]
  by_cases h2 : r = [] ∨ (Lib.decodeL r).1 < 32 ∨ (Lib.decodeL r).1 = 39 ∨ (Lib.decodeL r).1 = 92 ∨ ((Lib.decodeL r).1 = 65533 ∧ (Lib.decodeL r).2 < 2)
  · rw [if_pos h2]; exact Nat.zero_le _
  · rw [if_neg h2]
    have h3 : r ≠ [] := fun e => h2 (.inl e)
    have := Lib.decodeL_le r h3
    show 2 + _ ≤ _
    omega
theorem runeNum_le (l : List UInt8) : (runeNum l).2 ≤ l.length := by
  unfold runeNum
  split
  · rename_i h
    have h2 := congrArg List.length h
    rw [List.length_take] at h2
    simp only [List.length_cons, List.length_nil] at h2
    have := runeB_le (l.drop 2)
    rw [List.length_drop] at this
    omega
  · exact Nat.zero_le _
theorem escapes_le (l out : List UInt8) (a : Nat) : ∀ o k, readAt l out a = some (o, k) → k ≤ a + l.length ∧ a < k := by
  induction h : l.length using Nat.strongRecOn generalizing l out a with
  | _ n ih =>
    intro o k hr
    by_cases hl : l = []
    · subst hl; cases hr
    · have hp : 0 < l.length := List.length_pos_iff.2 hl
      have hw := Lib.decodeL_width l
      have hle := Lib.decodeL_le l hl
      rw [readAt_step l out a hl] at hr
      by_cases h39 : (Lib.decodeL l).1 = 39
      · rw [if_pos h39] at hr
        by_cases h2 : l.getD 1 0 = 39 ∧ 1 < l.length
        · rw [if_pos h2] at hr
          have := ih _ (by rw [List.length_drop]; omega) (l.drop 2) _ _ rfl o k hr
          rw [List.length_drop] at this
          omega
        · rw [if_neg h2] at hr
          simp only [Option.some.injEq, Prod.mk.injEq] at hr
          omega
      rw [if_neg h39] at hr
      by_cases h92 : (Lib.decodeL l).1 = 92
      · rw [if_pos h92] at hr
        by_cases h0 : (escL (l.drop 1)).2 = 0
        · rw [if_pos h0] at hr; cases hr
        · rw [if_neg h0] at hr
          have h3 := escL_le (l.drop 1)
          rw [List.length_drop] at h3
          have := ih _ (by rw [List.length_drop]; omega) (l.drop ((escL (l.drop 1)).2 + 1)) _ _ rfl o k hr
          rw [List.length_drop] at this
          omega
      rw [if_neg h92] at hr
      by_cases hb : (Lib.decodeL l).1 < 32 ∨ ((Lib.decodeL l).1 = 65533 ∧ (Lib.decodeL l).2 = 1)
      · rw [if_pos hb] at hr; cases hr
      · rw [if_neg hb] at hr
        have := ih _ (by rw [List.length_drop]; omega) (l.drop (Lib.decodeL l).2) _ _ rfl o k hr
        rw [List.length_drop] at this
        omega
theorem readL_le {l : List UInt8} {t : List UInt8} {k : Nat} (h : readL l = some (t, k)) : k ≤ l.length ∧ 1 < k := by
  by_cases h0 : l.headD 0 = 39
  · rw [readL_eq l h0] at h
    have := escapes_le _ _ _ _ _ h
    cases l with
    | nil => cases h0
    | cons b t => rw [List.drop_succ_cons, List.drop_zero] at this; rw [List.length_cons]; omega
  · rw [readL_no l h0] at h; cases h
theorem namedL_w (x : Lx) : (namedL x).w = x.w ∨ (namedL x).w = 0 := by unfold namedL; split; exact .inl rfl; exact .inr rfl
theorem lexL_le (l : List UInt8) : (lexL l).w ≤ l.length := by
  cases l with
  | nil => exact Nat.le_refl 0
  | cons b t =>
    have hnm : ∀ x : Lx, x.w ≤ (b :: t).length → (namedL x).w ≤ (b :: t).length := fun x hx => by
      rcases namedL_w x with h | h <;> rw [h]
      · exact hx
      · exact Nat.zero_le _
    have h1 : 1 ≤ (b :: t).length := by rw [List.length_cons]; omega
    unfold lexL
    dsimp only
    repeat' split
    · exact h1
    · exact hnm _ (spanL_le _ _)
    · exact spanL_le _ _
    · unfold numberL
      split
      · exact runeNum_le _
      · split
        · exact spanL_le _ _
        · exact Nat.zero_le _
    · rename_i h2
      unfold remarkL
      split
      · rename_i k hk
        have := (closeL_le _ _ hk).1
        rw [List.length_drop] at this
        have h3 := congrArg List.length h2
        rw [List.length_take] at h3
        simp only [List.length_cons, List.length_nil] at h3 this ⊢
        omega
      · exact Nat.zero_le _
    · exact hnm _ (spanL_le _ _)
    · refine hnm _ ?_
      unfold quotedL
      split
      · rename_i t2 k hk
        exact (readL_le hk).1
      · exact Nat.zero_le _
    · exact h1
    · exact spanL_le _ _
    · exact Nat.zero_le _
end Go.Proofs.YtlbdocdjijhkbaaGreatDoor

/-
  Plain mathematics for package token: runes and bytes of what is cut off; places; blanks; a token's own bytes; no program in it.
-/
namespace Go.Proofs.YtlbdocdjijhkbaaGreatDoor
open Go.RowKit

/-! ### Runes' ends -/
/-- A range over the text comes to the place n. -/
inductive Hits : List UInt8 → Nat → Prop
  | zero (l) : Hits l 0
  | step (l) (n) : l ≠ [] → Hits (l.drop (Lib.decodeL l).2) n → Hits l ((Lib.decodeL l).2 + n)
theorem Hits.next {l : List UInt8} {n : Nat} (h : Hits l n) (hn : 0 < n) : (Lib.decodeL l).2 ≤ n ∧ Hits (l.drop (Lib.decodeL l).2) (n - (Lib.decodeL l).2) := by
  cases h with
  | zero => omega
  | step _ m _ hm => exact ⟨by omega, by rw [Nat.add_sub_cancel_left]; exact hm⟩
theorem Hits.mk {l : List UInt8} {n : Nat} (hl : l ≠ []) (hle : (Lib.decodeL l).2 ≤ n) (h : Hits (l.drop (Lib.decodeL l).2) (n - (Lib.decodeL l).2)) : Hits l n := by
  have := Hits.step l _ hl h
  rwa [show (Lib.decodeL l).2 + (n - (Lib.decodeL l).2) = n from by omega] at this
/-- Inside of a rune there are bytes from 128 on alone. -/
theorem decode_inner (l : List UInt8) (hl : l ≠ []) (j : Nat) (hj : j < (Lib.decodeL l).2) (h1 : 1 < (Lib.decodeL l).2) : ∃ h : j < l.length, 128 ≤ (l[j]).toNat := by
  have hle := Lib.decodeL_le l hl
  refine ⟨by omega, ?_⟩
  have hN := Lib.decodeL_N l
  have hs := Lib.decodeN_shape l.length (l.getD 0 0).toNat (l.getD 1 0).toNat (l.getD 2 0).toNat (l.getD 3 0).toNat
  rw [← hN] at hs
  have hg : l[j]'(by omega) = l.getD j 0 := by rw [List.getD, List.getElem?_eq_getElem (by omega)]; rfl
  rw [hg]
  rcases hs with ⟨_, e⟩ | ⟨a, _, b, _, e⟩ | ⟨a, _, b, c, _, _, e⟩ | ⟨a, _, b, c, d, _, _, e⟩ | e
  all_goals rw [e] at hj h1
  · simp at h1
  · have : j = 0 ∨ j = 1 := by simp at hj; omega
    rcases this with rfl | rfl <;> omega
  · have : j = 0 ∨ j = 1 ∨ j = 2 := by simp at hj; omega
    rcases this with rfl | rfl | rfl <;> omega
  · have : j = 0 ∨ j = 1 ∨ j = 2 ∨ j = 3 := by simp at hj; omega
    rcases this with rfl | rfl | rfl | rfl <;> omega
  · simp at h1
theorem hits_ascii_to : ∀ (m : Nat) (l : List UInt8), l.length ≤ m → ∀ (n : Nat) (h : n < l.length), (l[n]).toNat < 128 → Hits l (n + 1)
  | 0, l, hm, n, h, _ => by omega
  | m + 1, l, hm, n, h, hb => by
    have hl : l ≠ [] := fun e => by rw [e] at h; simp at h
    have hw := Lib.decodeL_width l
    have hle := Lib.decodeL_le l hl
    by_cases hd : (Lib.decodeL l).2 ≤ n
    · refine Hits.mk hl (by omega) ?_
      have hx := hits_ascii_to m (l.drop (Lib.decodeL l).2) (by rw [List.length_drop]; omega) (n - (Lib.decodeL l).2) (by rw [List.length_drop]; omega) (by rw [List.getElem_drop]; simp only [show (Lib.decodeL l).2 + (n - (Lib.decodeL l).2) = n from by omega]; exact hb)
      rwa [show n - (Lib.decodeL l).2 + 1 = n + 1 - (Lib.decodeL l).2 from by omega] at hx
    · by_cases h1 : 1 < (Lib.decodeL l).2
      · obtain ⟨_, hc⟩ := decode_inner l hl n (by omega) h1
        omega
      · refine Hits.mk hl (by omega) ?_
        rw [show n + 1 - (Lib.decodeL l).2 = 0 from by omega]
        exact .zero _
theorem hits_ascii (l : List UInt8) (n : Nat) (h : n < l.length) (hb : (l[n]).toNat < 128) : Hits l (n + 1) := hits_ascii_to _ l (Nat.le_refl _) n h hb
/-- The runes of a run. -/
theorem high_rune (b : UInt8) (t : List UInt8) (h : 128 ≤ b.toNat) : 128 ≤ (Lib.decodeL (b :: t)).1 := by
  have hN := Lib.decodeL_N (b :: t)
  have hs := Lib.decodeN_shape (b :: t).length ((b :: t).getD 0 0).toNat ((b :: t).getD 1 0).toNat ((b :: t).getD 2 0).toNat ((b :: t).getD 3 0).toNat
  rw [← hN] at hs
  rcases hs with ⟨a, e⟩ | ⟨_, _, _, a, e⟩ | ⟨_, _, _, _, a, _, e⟩ | ⟨_, _, _, _, _, a, _, e⟩ | e
  · rw [List.getD_cons_zero] at a; omega
  all_goals (rw [e]; simp only; omega)
theorem takeWhile_take (P : UInt8 → Bool) : ∀ (l : List UInt8) (d : Nat), (∀ j (h : j < l.length), j < d → P l[j] = true) → d ≤ l.length → (l.takeWhile P).length = d + ((l.drop d).takeWhile P).length
  | l, 0, _, _ => by rw [List.drop_zero]; omega
  | [], d + 1, _, hd => by simp at hd
  | b :: t, d + 1, h, hd => by
    have h0 := h 0 (by simp) (by omega)
    rw [List.getElem_cons_zero] at h0
    rw [List.takeWhile_cons, if_pos h0, List.length_cons, List.drop_succ_cons, takeWhile_take P t d (fun j hj hjd => by have := h (j + 1) (by rw [List.length_cons]; omega) (by omega); rwa [List.getElem_cons_succ] at this) (by rw [List.length_cons] at hd; omega)]
    omega
/-- Runes of which P is the same from 128 on: the run's bytes. -/
theorem spanL_step (P : Int → Bool) (hi : Bool) (hP : ∀ c : Int, 128 ≤ c → P c = hi) (l : List UInt8) (hl : l ≠ []) :
    spanL P l = if P (Lib.decodeL l).1 = true then (Lib.decodeL l).2 + spanL P (l.drop (Lib.decodeL l).2) else 0 := by
  match l, hl with
  | b :: t, hl =>
    by_cases hb : b.toNat < 128
    · rw [Lib.decodeL_ascii b t hb]
      dsimp only
      unfold spanL
      rw [List.takeWhile_cons, List.drop_one, List.tail_cons]
      split
      · rw [List.length_cons]; omega
      · rfl
    · have hr := high_rune b t (by omega)
      rw [hP _ (by omega)]
      cases hi with
      | false =>
        rw [if_neg (by decide)]
        unfold spanL
        rw [List.takeWhile_cons, if_neg (by rw [hP _ (by omega)]; decide)]
        rfl
      | true =>
        rw [if_pos rfl]
        unfold spanL
        refine takeWhile_take _ _ _ (fun j hj hd => ?_) (Lib.decodeL_le _ hl)
        by_cases h1 : 1 < (Lib.decodeL (b :: t)).2
        · obtain ⟨_, hc⟩ := decode_inner _ hl j hd h1
          exact hP _ (by omega)
        · have : j = 0 := by omega
          subst this
          exact hP _ (by rw [List.getElem_cons_zero]; omega)
theorem cls_high (c : Int) (h : 128 ≤ c) : cls c = 0 := by
  unfold cls
  rw [if_neg (by omega), if_neg (by omega), if_neg (by omega), if_neg (by omega), if_neg (by omega), if_neg (by omega), if_neg (by omega), if_neg (by omega)]
theorem nameR_high (c : Int) (h : 128 ≤ c) : nameR c = false := by unfold nameR; rw [cls_high c h]; decide
theorem signR_high (c : Int) (h : 128 ≤ c) : signR c = false := by unfold signR; rw [cls_high c h]; decide
theorem digR_high (c : Int) (h : 128 ≤ c) : digR c = false := by unfold digR; rw [cls_high c h]; decide
theorem lineR_high (c : Int) (h : 128 ≤ c) : lineR c = true := by unfold lineR; rw [decide_eq_true_eq]; omega
theorem hits_span (P : Int → Bool) (hi : Bool) (hP : ∀ c : Int, 128 ≤ c → P c = hi) (l : List UInt8) : Hits l (spanL P l) := by
  induction e : l.length using Nat.strongRecOn generalizing l with
  | _ m ih =>
    by_cases hl : l = []
    · subst hl; exact .zero _
    · have hw := Lib.decodeL_width l
      have hp : 0 < l.length := List.length_pos_iff.2 hl
      rw [spanL_step P hi hP l hl]
      split
      · exact .step _ _ hl (ih _ (by rw [List.length_drop]; omega) _ rfl)
      · exact .zero _
theorem closeL_last : ∀ (l : List UInt8) (k : Nat), closeL l = some k → ∃ h : k - 1 < l.length, l[k - 1] = 47
  | [], k, h => by cases h
  | b :: t, k, h => by
    unfold closeL at h
    split at h
    · rename_i hc
      injection h with h
      subst h
      match t, hc with
      | c :: u, hc => exact ⟨by simp, hc.2.1⟩
    · cases hc : closeL t with
      | none => rw [hc] at h; cases h
      | some m =>
        rw [hc] at h
        have h2 := (closeL_le t m hc).2
        obtain ⟨h3, h4⟩ := closeL_last t m hc
        simp only [Option.map_some, Option.some.injEq] at h
        subst h
        refine ⟨by rw [List.length_cons]; omega, ?_⟩
        have : (b :: t)[m + 1 - 1]'(by rw [List.length_cons]; omega) = (b :: t)[(m - 1) + 1]'(by rw [List.length_cons]; omega) := by congr 1; omega
        rw [this, List.getElem_cons_succ]
        exact h4
theorem readAt_last_to : ∀ (n : Nat) (l out : List UInt8) (a : Nat), l.length ≤ n → ∀ o k, readAt l out a = some (o, k) → ∃ h : k - a - 1 < l.length, l[k - a - 1] = 39
  | 0, l, out, a, hn, o, k, hr => by rw [List.eq_nil_of_length_eq_zero (Nat.le_zero.1 hn)] at hr; cases hr
  | n + 1, l, out, a, hn, o, k, hr => by
    by_cases hl : l = []
    · subst hl; cases hr
    · have hp : 0 < l.length := List.length_pos_iff.2 hl
      have hw := Lib.decodeL_width l
      have hle := Lib.decodeL_le l hl
      have go : ∀ d o2, 0 < d → d ≤ l.length → readAt (l.drop d) o2 (a + d) = some (o, k) → ∃ h : k - a - 1 < l.length, l[k - a - 1] = 39 := fun d o2 hd hdl hr => by
        have hb := escapes_le _ _ _ _ _ hr
        obtain ⟨h1, h2⟩ := readAt_last_to n (l.drop d) o2 (a + d) (by rw [List.length_drop]; omega) o k hr
        rw [List.length_drop] at h1 hb
        rw [List.getElem_drop] at h2
        refine ⟨by omega, ?_⟩
        rw [← h2]; congr 1; omega
      rw [readAt_step l out a hl] at hr
      by_cases h39 : (Lib.decodeL l).1 = 39
      · rw [if_pos h39] at hr
        by_cases h2 : l.getD 1 0 = 39 ∧ 1 < l.length
        · rw [if_pos h2] at hr
          exact go 2 _ (by omega) (by omega) hr
        · rw [if_neg h2] at hr
          simp only [Option.some.injEq, Prod.mk.injEq] at hr
          obtain ⟨h1, h2⟩ := hr
          subst h2
          refine ⟨by omega, ?_⟩
          cases l with
          | nil => exact absurd rfl hl
          | cons b t =>
            simp only [show a + 1 - a - 1 = 0 from by omega, List.getElem_cons_zero]
            by_cases hb : b.toNat < 128
            · rw [Lib.decodeL_ascii b t hb] at h39
              have h39' : b.toNat = 39 := h39
              have := UInt8.ofNat_toNat (x := b)
              rw [h39'] at this; exact this.symm
            · have := high_rune b t (by omega)
              omega
      rw [if_neg h39] at hr
      by_cases h92 : (Lib.decodeL l).1 = 92
      · rw [if_pos h92] at hr
        by_cases h0 : (escL (l.drop 1)).2 = 0
        · rw [if_pos h0] at hr; cases hr
        · rw [if_neg h0] at hr
          have h3 := escL_le (l.drop 1)
          rw [List.length_drop] at h3
          exact go ((escL (l.drop 1)).2 + 1) _ (by omega) (by omega) (by rw [← Nat.add_assoc]; exact hr)
      rw [if_neg h92] at hr
      by_cases hb : (Lib.decodeL l).1 < 32 ∨ ((Lib.decodeL l).1 = 65533 ∧ (Lib.decodeL l).2 = 1)
      · rw [if_pos hb] at hr; cases hr
      · rw [if_neg hb] at hr
        exact go _ _ hw hle hr
theorem readAt_last (l out : List UInt8) (a : Nat) (o k) (h : readAt l out a = some (o, k)) : ∃ h : k - a - 1 < l.length, l[k - a - 1] = 39 := readAt_last_to _ l out a (Nat.le_refl _) o k h
theorem readL_last {l t : List UInt8} {k : Nat} (h : readL l = some (t, k)) : ∃ h : k - 1 < l.length, l[k - 1] = 39 := by
  by_cases h0 : l.headD 0 = 39
  · rw [readL_eq l h0] at h
    have hb := escapes_le _ _ _ _ _ h
    obtain ⟨h1, h2⟩ := readAt_last _ _ _ _ _ h
    rw [List.length_drop] at h1
    rw [List.getElem_drop] at h2
    refine ⟨by omega, ?_⟩
    rw [← h2]; congr 1; omega
  · rw [readL_no l h0] at h; cases h
theorem hits_at {l : List UInt8} {k : Nat} {b : UInt8} (hk : 0 < k) (hb : b.toNat < 128) (h : ∃ h : k - 1 < l.length, l[k - 1] = b) : Hits l k := by
  obtain ⟨h1, h2⟩ := h
  have := hits_ascii l (k - 1) h1 (by rw [h2]; exact hb)
  rwa [show k - 1 + 1 = k from by omega] at this
theorem hits_rune (l : List UInt8) (h : l ≠ []) : Hits l (Lib.decodeL l).2 := Hits.mk h (Nat.le_refl _) (by rw [Nat.sub_self]; exact .zero _)
theorem hits_drop_ascii (b : UInt8) (t : List UInt8) (hb : b.toNat < 128) (n : Nat) (h : Hits t n) : Hits (b :: t) (n + 1) := by
  refine Hits.mk (by simp) ?_ ?_
  · rw [Lib.decodeL_ascii b t hb]; simp only; omega
  · rw [Lib.decodeL_ascii b t hb]; exact h
theorem runeNum_hits (l : List UInt8) (h : 0 < (runeNum l).2) : Hits l (runeNum l).2 := by
  unfold runeNum at h ⊢
  by_cases h1 : l.take 2 = [48, 39]
  · rw [if_pos h1] at h ⊢
    match l, h1 with
    | [a], h1 => simp at h1
    | a :: b :: r, h1 =>
      simp only [List.take_succ_cons, List.take_zero, List.cons.injEq, and_true] at h1
      obtain ⟨rfl, rfl⟩ := h1
      rw [List.drop_succ_cons, List.drop_succ_cons, List.drop_zero] at h ⊢
      unfold runeB at h ⊢
      by_cases h2 : r.take 2 = [39, 39]
      · rw [if_pos h2]
        match r, h2 with
        | [c], h2 => simp at h2
        | c :: d :: u, h2 =>
          simp only [List.take_succ_cons, List.take_zero, List.cons.injEq, and_true] at h2
          obtain ⟨rfl, rfl⟩ := h2
          exact hits_drop_ascii _ _ (by decide) _ (hits_drop_ascii _ _ (by decide) _ (hits_drop_ascii _ _ (by decide) _ (hits_drop_ascii _ _ (by decide) _ (.zero _))))
      · rw [if_neg h2] at h ⊢
        by_cases h3 : r = [] ∨ (Lib.decodeL r).1 < 32 ∨ (Lib.decodeL r).1 = 39 ∨ (Lib.decodeL r).1 = 92 ∨ ((Lib.decodeL r).1 = 65533 ∧ (Lib.decodeL r).2 < 2)
        · rw [if_pos h3] at h; exact absurd h (by decide)
        · rw [if_neg h3]
          have h4 : r ≠ [] := fun e => h3 (.inl e)
          show Hits _ (2 + (Lib.decodeL r).2)
          rw [show 2 + (Lib.decodeL r).2 = (Lib.decodeL r).2 + 1 + 1 from by omega]
          exact hits_drop_ascii _ _ (by decide) _ (hits_drop_ascii _ _ (by decide) _ (hits_rune r h4))
  · rw [if_neg h1] at h; exact absurd h (by decide)
theorem hits_lex (l : List UInt8) : Hits l (lexL l).w := by
  cases l with
  | nil => exact .zero _
  | cons b t =>
    have hnm : ∀ x : Lx, Hits (b :: t) x.w → Hits (b :: t) (namedL x).w := fun x hx => by
      rcases namedL_w x with h | h <;> rw [h]
      · exact hx
      · exact .zero _
    have h1 : b.toNat < 128 → Hits (b :: t) 1 := fun hb => hits_drop_ascii _ _ hb _ (.zero _)
    have hb : ∀ k : Int, k ≠ 0 → cls (b.toNat : Int) = k → b.toNat < 128 := fun k hk h => by
      apply Classical.byContradiction
      intro hc
      rw [cls_high _ (by omega)] at h
      exact hk h.symm
    unfold lexL
    dsimp only
    repeat' split
    · exact h1 (hb 5 (by decide) (by assumption))
    · exact hnm _ (hits_span _ _ nameR_high _)
    · exact hits_span _ _ nameR_high _
    · unfold numberL
      split
      · exact runeNum_hits _ (by assumption)
      · split
        · exact hits_span _ _ digR_high _
        · exact .zero _
    · rename_i h2
      unfold remarkL
      split
      · rename_i k hk
        obtain ⟨h3, h4⟩ := closeL_last _ _ hk
        have h5 := closeL_le _ _ hk
        rw [List.getElem_drop] at h4
        rw [List.length_drop] at h3 h5
        refine hits_at (b := 47) (by show 0 < k + 2; omega) (by decide) ⟨by show k + 2 - 1 < _; omega, ?_⟩
        rw [← h4]
        show (b :: t)[k + 2 - 1]'_ = _
        congr 1; omega
      · exact .zero _
    · exact hnm _ (hits_span _ _ signR_high _)
    · refine hnm _ ?_
      unfold quotedL
      split
      · rename_i t2 k hk
        exact hits_at (show 0 < k by have := (readL_le hk).2; omega) (by decide) (readL_last hk)
      · exact .zero _
    · rename_i h6
      rcases h6 with h6 | h6
      · exact h1 (hb 6 (by decide) h6)
      · exact h1 (hb 7 (by decide) h6)
    · exact hits_span _ _ lineR_high _
    · exact .zero _

/-! ### Places -/
def Tok.sh (d : Nat) (t : Tok) : Tok := ⟨t.kind, t.text, t.n, t.pos + d⟩
def Out.sh (d : Nat) : Out → Out
  | .bad o => .bad (o + d)
  | .good l => .good (l.map (Tok.sh d))
theorem sh_pre (d : Nat) (ts : List Tok) (o : Out) : (o.pre ts).sh d = (o.sh d).pre (ts.map (Tok.sh d)) := by cases o <;> simp [Out.pre, Out.sh]
theorem cutL_shift (l : List UInt8) (d : Nat) : ∀ (o : Nat) (t : Bool), cutL l (o + d) t = (cutL l o t).sh d := by
  induction e : l.length using Nat.strongRecOn generalizing l with
  | _ n ih =>
    intro o t
    by_cases hl : l = []
    · subst hl; rfl
    · have hp : 0 < l.length := List.length_pos_iff.2 hl
      rw [cutL_step l _ t hl, cutL_step l o t hl]
      split
      · rfl
      · have hw : (l.drop (lexL l).w).length < n := by rw [List.length_drop]; omega
        have hih := ih _ hw _ rfl
        split
        · rw [← hih, show o + d + (lexL l).w = o + (lexL l).w + d from by omega]
        · rw [sh_pre, ← hih, show o + d + (lexL l).w = o + (lexL l).w + d from by omega]; rfl
theorem pre_good {ts : List Tok} {o : Out} {T : List Tok} (h : o.pre ts = .good T) : ∃ U, o = .good U ∧ T = ts ++ U := by
  cases o with
  | bad o => cases h
  | good U => injection h with h; exact ⟨U, rfl, h.symm⟩
/-- Of what a source is cut into. -/
theorem cut_cases {l : List UInt8} {o : Nat} {t : Bool} {T : List Tok} (h : cutL l o t = .good T) :
    (l = [] ∧ T = [⟨9, [], 0, o⟩]) ∨ (l ≠ [] ∧ (lexL l).w ≠ 0 ∧ (lexL l).kind = 0 ∧ cutL (l.drop (lexL l).w) (o + (lexL l).w) false = .good T) ∨
    (l ≠ [] ∧ (lexL l).w ≠ 0 ∧ (lexL l).kind ≠ 0 ∧ ∃ U, cutL (l.drop (lexL l).w) (o + (lexL l).w) (opensL (kindL t (lexL l)) (lexL l).text) = .good U ∧ T = ⟨kindL t (lexL l), (lexL l).text, (lexL l).n, o⟩ :: U) := by
  by_cases hl : l = []
  · subst hl; rw [cutL_nil] at h; injection h with h; exact .inl ⟨rfl, h.symm⟩
  · rw [cutL_step l o t hl] at h
    by_cases hw : (lexL l).w = 0
    · rw [if_pos hw] at h; cases h
    · rw [if_neg hw] at h
      by_cases hk : (lexL l).kind = 0
      · rw [if_pos hk] at h; exact .inr (.inl ⟨hl, hw, hk, h⟩)
      · rw [if_neg hk] at h
        obtain ⟨U, h1, h2⟩ := pre_good h
        exact .inr (.inr ⟨hl, hw, hk, U, h1, h2⟩)
theorem cut_ind {P : List UInt8 → Nat → Bool → List Tok → Prop}
    (nil : ∀ o t, P [] o t [⟨9, [], 0, o⟩])
    (skip : ∀ l o t T, l ≠ [] → (lexL l).w ≠ 0 → (lexL l).kind = 0 → cutL (l.drop (lexL l).w) (o + (lexL l).w) false = .good T → P (l.drop (lexL l).w) (o + (lexL l).w) false T → P l o t T)
    (tok : ∀ l o t U, l ≠ [] → (lexL l).w ≠ 0 → (lexL l).kind ≠ 0 → cutL (l.drop (lexL l).w) (o + (lexL l).w) (opensL (kindL t (lexL l)) (lexL l).text) = .good U → P (l.drop (lexL l).w) (o + (lexL l).w) (opensL (kindL t (lexL l)) (lexL l).text) U →
      P l o t (⟨kindL t (lexL l), (lexL l).text, (lexL l).n, o⟩ :: U))
    (l : List UInt8) : ∀ (o : Nat) (t : Bool) (T : List Tok), cutL l o t = .good T → P l o t T := by
  induction e : l.length using Nat.strongRecOn generalizing l with
  | _ n ih =>
    intro o t T h
    rcases cut_cases h with ⟨rfl, rfl⟩ | ⟨hl, hw, hk, h1⟩ | ⟨hl, hw, hk, U, h1, rfl⟩
    · exact nil o t
    · have hp : 0 < l.length := List.length_pos_iff.2 hl
      exact skip l o t T hl hw hk h1 (ih _ (by rw [List.length_drop]; omega) _ rfl _ _ _ h1)
    · have hp : 0 < l.length := List.length_pos_iff.2 hl
      exact tok l o t U hl hw hk h1 (ih _ (by rw [List.length_drop]; omega) _ rfl _ _ _ h1)
theorem cut_ne {l : List UInt8} {o : Nat} {t : Bool} {T : List Tok} (h : cutL l o t = .good T) : T ≠ [] := by
  revert h
  refine cut_ind (P := fun _ _ _ T => T ≠ []) ?_ ?_ ?_ l o t T
  · intro o t; simp
  · intro l o t T _ _ _ _ h; exact h
  · intro l o t U _ _ _ _ _; simp
theorem cut_last {l : List UInt8} {o : Nat} {t : Bool} {T : List Tok} (h : cutL l o t = .good T) : T.getLast? = some ⟨9, [], 0, o + l.length⟩ := by
  have hle := lexL_le
  revert h
  refine cut_ind (P := fun l o _ T => T.getLast? = some ⟨9, [], 0, o + l.length⟩) ?_ ?_ ?_ l o t T
  · intro o t; rfl
  · intro l o t T hl hw _ _ h
    rw [h, List.length_drop]
    have := hle l
    rw [show o + (lexL l).w + (l.length - (lexL l).w) = o + l.length from by omega]
  · intro l o t U hl hw _ hc h
    have := hle l
    rw [List.length_drop, show o + (lexL l).w + (l.length - (lexL l).w) = o + l.length from by omega] at h
    have hn := cut_ne hc
    cases U with
    | nil => exact absurd rfl hn
    | cons x U => rw [List.getLast?_cons_cons]; exact h
/-- Each token's place: within, and behind the one ahead of it. -/
theorem cut_in {l : List UInt8} {o : Nat} {t : Bool} {T : List Tok} (h : cutL l o t = .good T) : ∀ x ∈ T, o ≤ x.pos ∧ x.pos ≤ o + l.length := by
  have hle := lexL_le
  revert h
  refine cut_ind (P := fun l o _ T => ∀ x ∈ T, o ≤ x.pos ∧ x.pos ≤ o + l.length) ?_ ?_ ?_ l o t T
  · intro o t x hx
    simp only [List.mem_singleton] at hx
    subst hx; simp
  · intro l o t T hl hw _ _ h x hx
    have h1 := h x hx
    have h2 := hle l
    rw [List.length_drop] at h1
    omega
  · intro l o t U hl hw _ _ h x hx
    have h2 := hle l
    rcases List.mem_cons.1 hx with rfl | hx
    · simp
    · have h1 := h x hx
      rw [List.length_drop] at h1
      omega
theorem cut_first {l : List UInt8} {o : Nat} {t : Bool} {x : Tok} {U : List Tok} (h : cutL l o t = .good (x :: U)) (hx : x.pos = o) :
    (l = [] ∧ x = ⟨9, [], 0, o⟩ ∧ U = []) ∨ (l ≠ [] ∧ (lexL l).w ≠ 0 ∧ (lexL l).kind ≠ 0 ∧ cutL (l.drop (lexL l).w) (o + (lexL l).w) (opensL (kindL t (lexL l)) (lexL l).text) = .good U ∧ x = ⟨kindL t (lexL l), (lexL l).text, (lexL l).n, o⟩) := by
  rcases cut_cases h with ⟨rfl, h1⟩ | ⟨hl, hw, hk, h1⟩ | ⟨hl, hw, hk, V, h1, h2⟩
  · injection h1 with h1 h2; exact .inl ⟨rfl, h1, h2⟩
  · have := (cut_in h1 x (by simp)).1
    omega
  · injection h2 with h2 h3
    subst h3
    exact .inr ⟨hl, hw, hk, h1, h2⟩
/-- The place of each token is strictly behind the one ahead of it. -/
theorem cut_sorted {l : List UInt8} {o : Nat} {t : Bool} {T : List Tok} (h : cutL l o t = .good T) : ∀ k (hk : k + 1 < T.length), T[k].pos < T[k + 1].pos := by
  revert h
  refine cut_ind (P := fun _ _ _ T => ∀ k (hk : k + 1 < T.length), T[k].pos < T[k + 1].pos) ?_ ?_ ?_ l o t T
  · intro o t k hk; simp at hk
  · intro l o t T _ _ _ _ h; exact h
  · intro l o t U hl hw _ hc h k hk
    cases k with
    | zero =>
      have h1 := cut_in hc (U[0]'(by rw [List.length_cons] at hk; omega)) (List.getElem_mem _)
      rw [List.getElem_cons_zero, List.getElem_cons_succ]
      show o < _
      omega
    | succ k =>
      rw [List.getElem_cons_succ, List.getElem_cons_succ]
      exact h k (by rw [List.length_cons] at hk; omega)
/-- Cut again from a token on. -/
theorem cut_from {l : List UInt8} {o : Nat} {t : Bool} {T : List Tok} (h : cutL l o t = .good T) : ∀ i (hi : i < T.length), ∃ t', cutL (l.drop (T[i].pos - o)) T[i].pos t' = .good (T.drop i) := by
  suffices hs : cutL l o t = .good T ∧ ∀ i (hi : i < T.length), ∃ t', cutL (l.drop (T[i].pos - o)) T[i].pos t' = .good (T.drop i) from hs.2
  revert h
  refine cut_ind (P := fun l o t T => cutL l o t = .good T ∧ ∀ i (hi : i < T.length), ∃ t', cutL (l.drop (T[i].pos - o)) T[i].pos t' = .good (T.drop i)) ?_ ?_ ?_ l o t T
  · intro o t
    refine ⟨cutL_nil o t, fun i hi => ?_⟩
    have : i = 0 := by simp at hi; omega
    subst this
    exact ⟨t, by rw [List.drop_nil, List.drop_zero]; exact cutL_nil _ _⟩
  · intro l o t T hl hw hk hc ⟨_, h⟩
    refine ⟨by rw [cutL_step l o t hl, if_neg hw, if_pos hk]; exact hc, fun i hi => ?_⟩
    obtain ⟨t', h1⟩ := h i hi
    have h2 := (cut_in hc T[i] (List.getElem_mem _)).1
    rw [List.drop_drop, show (lexL l).w + (T[i].pos - (o + (lexL l).w)) = T[i].pos - o from by omega] at h1
    exact ⟨t', h1⟩
  · intro l o t U hl hw hk hc ⟨_, h⟩
    have hfull : cutL l o t = .good (⟨kindL t (lexL l), (lexL l).text, (lexL l).n, o⟩ :: U) := by
      rw [cutL_step l o t hl, if_neg hw, if_neg hk, hc]; rfl
    refine ⟨hfull, fun i hi => ?_⟩
    cases i with
    | zero =>
      refine ⟨t, ?_⟩
      rw [List.getElem_cons_zero, List.drop_zero]
      show cutL (l.drop (o - o)) o t = _
      rw [Nat.sub_self, List.drop_zero]; exact hfull
    | succ i =>
      have hi' : i < U.length := by rw [List.length_cons] at hi; omega
      obtain ⟨t', h1⟩ := h i hi'
      have h2 := (cut_in hc U[i] (List.getElem_mem _)).1
      rw [List.drop_drop, show (lexL l).w + (U[i].pos - (o + (lexL l).w)) = U[i].pos - o from by omega] at h1
      exact ⟨t', by rw [List.getElem_cons_succ, List.drop_succ_cons]; exact h1⟩
/-- The only thing that what stands ahead changes is the kind of a bracket. -/
def Alike (x y : Tok) : Prop := x = y ∨ (y.kind = 7 ∧ x.kind = 6 ∧ x.text = y.text ∧ x.n = y.n ∧ x.pos = y.pos)
theorem lex_kind (l : List UInt8) : (lexL l).kind ≠ 7 := by
  have hnm : ∀ x : Lx, x.kind ≠ 7 → (namedL x).kind ≠ 7 := fun x hx => by
    unfold namedL
    split
    · exact hx
    · decide
  cases l with
  | nil => decide
  | cons b t =>
    unfold lexL
    dsimp only
    repeat' split
    · decide
    · exact hnm _ (by show (1 : Int) ≠ 7; decide)
    · show (4 : Int) ≠ 7; decide
    · unfold numberL
      repeat' split
      · show (5 : Int) ≠ 7; decide
      · show (5 : Int) ≠ 7; decide
      · decide
    · unfold remarkL
      split
      · show (0 : Int) ≠ 7; decide
      · decide
    · refine hnm _ ?_
      unfold signsL
      dsimp only
      split <;> decide
    · refine hnm _ ?_
      unfold quotedL
      split
      · show (2 : Int) ≠ 7; decide
      · decide
    · unfold singleL
      dsimp only
      split <;> decide
    · show (0 : Int) ≠ 7; decide
    · decide
theorem cut_alike {l : List UInt8} {o : Nat} {t : Bool} {x : Tok} {U : List Tok} (h : cutL l o t = .good (x :: U)) (hx : x.pos = o) : ∃ y, cutL l o false = .good (y :: U) ∧ Alike y x := by
  rcases cut_first h hx with ⟨rfl, rfl, rfl⟩ | ⟨hl, hw, hk, hc, rfl⟩
  · exact ⟨_, cutL_nil _ _, .inl rfl⟩
  · by_cases hp : t = true ∧ (lexL l).text = [40] ∧ (lexL l).kind = 6
    · have e1 : kindL t (lexL l) = 7 := by unfold kindL; rw [if_pos hp]
      have e2 : kindL false (lexL l) = 6 := by unfold kindL; rw [if_neg (by simp)]; exact hp.2.2
      have e3 : opensL (kindL false (lexL l)) (lexL l).text = opensL (kindL t (lexL l)) (lexL l).text := by rw [e1, e2, hp.2.1]; decide
      refine ⟨⟨kindL false (lexL l), (lexL l).text, (lexL l).n, o⟩, ?_, .inr ⟨e1, e2, rfl, rfl, rfl⟩⟩
      rw [cutL_step l o false hl, if_neg hw, if_neg hk, e3, hc]; rfl
    · have e1 : kindL t (lexL l) = (lexL l).kind := by unfold kindL; rw [if_neg hp]
      have e2 : kindL false (lexL l) = (lexL l).kind := by unfold kindL; rw [if_neg (by simp)]
      rw [e1] at hc ⊢
      refine ⟨⟨kindL false (lexL l), (lexL l).text, (lexL l).n, o⟩, ?_, .inl (by rw [e2])⟩
      rw [cutL_step l o false hl, if_neg hw, if_neg hk, e2, hc]; rfl
/-- The stage's theorem, plain. -/
theorem cut_again {l : List UInt8} {T : List Tok} (h : cutL l 0 false = .good T) (i : Nat) (hi : i < T.length) :
    ∃ y U, cutL (l.drop T[i].pos) 0 false = .good (y :: U) ∧ Alike (y.sh T[i].pos) T[i] ∧ T.drop (i + 1) = U.map (Tok.sh T[i].pos) := by
  obtain ⟨t', h1⟩ := cut_from h i hi
  rw [Nat.sub_zero, List.drop_eq_getElem_cons hi] at h1
  obtain ⟨y, h2, h3⟩ := cut_alike h1 rfl
  have h4 := cutL_shift (l.drop T[i].pos) T[i].pos 0 false
  rw [Nat.zero_add, h2] at h4
  cases hc : cutL (l.drop T[i].pos) 0 false with
  | bad o => rw [hc] at h4; cases h4
  | good V =>
    rw [hc] at h4
    injection h4 with h4
    cases V with
    | nil => exact absurd rfl (cut_ne hc)
    | cons v V =>
      rw [List.map_cons] at h4
      injection h4 with h5 h6
      exact ⟨v, V, rfl, by rw [← h5]; exact h3, h6⟩

/-! ### A token's own bytes -/
theorem lex_own (l : List UInt8) (hk0 : (lexL l).kind ≠ 0) (hk2 : (lexL l).kind ≠ 2) (hk5 : (lexL l).kind ≠ 5) : (lexL l).text = l.take (lexL l).w ∧ ((lexL l).w ≠ 0 → (lexL l).text ≠ []) := by
  have key : ∀ n, n ≤ l.length → (lexL l).w = n → (lexL l).text = l.take n → (lexL l).text = l.take (lexL l).w ∧ ((lexL l).w ≠ 0 → (lexL l).text ≠ []) := fun n hn h1 h2 => by
    rw [h1, h2]
    refine ⟨rfl, fun h3 h4 => ?_⟩
    have := congrArg List.length h4
    rw [List.length_take, List.length_nil] at this
    omega
  have hnm : ∀ x : Lx, lexL l = namedL x → x.w ≤ l.length → x.text = l.take x.w → (lexL l).text = l.take (lexL l).w ∧ ((lexL l).w ≠ 0 → (lexL l).text ≠ []) := fun x e h1 h2 => by
    unfold namedL at e
    split at e
    · exact key _ h1 (by rw [e]) (by rw [e, h2])
    · rw [e] at hk0; exact absurd rfl hk0
  cases l with
  | nil => exact absurd rfl hk0
  | cons b t =>
    by_cases c5 : cls (b.toNat : Int) = 5
    · exact absurd (by unfold lexL; dsimp only; rw [if_pos c5]) hk0
    by_cases c1 : cls (b.toNat : Int) = 1
    · exact hnm (wordL 1 (b :: t)) (by unfold lexL; dsimp only; rw [if_neg c5, if_pos c1]) (spanL_le _ _) rfl
    by_cases c2 : cls (b.toNat : Int) = 2
    · have e : lexL (b :: t) = wordL 4 (b :: t) := by unfold lexL; dsimp only; rw [if_neg c5, if_neg c1, if_pos c2]
      exact key _ (spanL_le nameR _) (by rw [e]; rfl) (by rw [e]; rfl)
    by_cases c3 : cls (b.toNat : Int) = 3
    · have e : lexL (b :: t) = numberL (b :: t) := by unfold lexL; dsimp only; rw [if_neg c5, if_neg c1, if_neg c2, if_pos c3]
      exfalso
      unfold numberL at e
      split at e
      · rw [e] at hk5; exact hk5 rfl
      · split at e
        · rw [e] at hk5; exact hk5 rfl
        · rw [e] at hk0; exact hk0 rfl
    by_cases c4 : cls (b.toNat : Int) = 4
    · by_cases hr : (b :: t).take 2 = [47, 42]
      · have e : lexL (b :: t) = remarkL (b :: t) := by unfold lexL; dsimp only; rw [if_neg c5, if_neg c1, if_neg c2, if_neg c3, if_pos c4, if_pos hr]
        exfalso
        unfold remarkL at e
        split at e
        · rw [e] at hk0; exact hk0 rfl
        · rw [e] at hk0; exact hk0 rfl
      · exact hnm (signsL (b :: t)) (by unfold lexL; dsimp only; rw [if_neg c5, if_neg c1, if_neg c2, if_neg c3, if_pos c4, if_neg hr]) (spanL_le _ _) rfl
    by_cases c8 : cls (b.toNat : Int) = 8
    · have e : lexL (b :: t) = namedL (quotedL (b :: t)) := by unfold lexL; dsimp only; rw [if_neg c5, if_neg c1, if_neg c2, if_neg c3, if_neg c4, if_pos c8]
      exfalso
      unfold namedL quotedL at e
      split at e
      · split at e
        · rw [e] at hk2; exact hk2 rfl
        · rw [e] at hk0; exact hk0 rfl
      · rw [e] at hk0; exact hk0 rfl
    by_cases c6 : cls (b.toNat : Int) = 6 ∨ cls (b.toNat : Int) = 7
    · have e : lexL (b :: t) = singleL b := by unfold lexL; dsimp only; rw [if_neg c5, if_neg c1, if_neg c2, if_neg c3, if_neg c4, if_neg c8, if_pos c6]
      exact key 1 (by rw [List.length_cons]; omega) (by rw [e]; rfl) (by rw [e]; rfl)
    · exfalso
      have e : lexL (b :: t) = if b = 37 then ⟨0, [], 0, spanL lineR (b :: t)⟩ else lx0 := by unfold lexL; dsimp only; rw [if_neg c5, if_neg c1, if_neg c2, if_neg c3, if_neg c4, if_neg c8, if_neg c6]
      split at e
      · rw [e] at hk0; exact hk0 rfl
      · rw [e] at hk0; exact hk0 rfl
def Own (l : List UInt8) (o : Nat) (x : Tok) : Prop := x.kind = 2 ∨ x.kind = 5 ∨ x.kind = 9 ∨ (x.text ≠ [] ∧ x.pos + x.text.length ≤ o + l.length ∧ (l.drop (x.pos - o)).take x.text.length = x.text)
theorem kindL_or (t : Bool) (x : Lx) : kindL t x = x.kind ∨ (kindL t x = 7 ∧ x.kind = 6) := by
  unfold kindL
  split
  · rename_i h; exact .inr ⟨rfl, h.2.2⟩
  · exact .inl rfl
theorem cut_own {l : List UInt8} {o : Nat} {t : Bool} {T : List Tok} (h : cutL l o t = .good T) : ∀ x ∈ T, Own l o x := by
  have hle := lexL_le
  revert h
  refine cut_ind (P := fun l o _ T => ∀ x ∈ T, Own l o x) ?_ ?_ ?_ l o t T
  · intro o t x hx
    simp only [List.mem_singleton] at hx
    subst hx; exact .inr (.inr (.inl rfl))
  · intro l o t T hl hw _ hc h x hx
    have h2 := hle l
    have h3 := (cut_in hc x hx).1
    rcases h x hx with h1 | h1 | h1 | ⟨h4, h5, h6⟩
    · exact .inl h1
    · exact .inr (.inl h1)
    · exact .inr (.inr (.inl h1))
    · rw [List.length_drop] at h5
      rw [List.drop_drop, show (lexL l).w + (x.pos - (o + (lexL l).w)) = x.pos - o from by omega] at h6
      exact .inr (.inr (.inr ⟨h4, by omega, h6⟩))
  · intro l o t U hl hw hk hc h x hx
    have h2 := hle l
    rcases List.mem_cons.1 hx with rfl | hx
    · by_cases k2 : (lexL l).kind = 2
      · rcases kindL_or t (lexL l) with e | ⟨e, e2⟩
        · exact .inl (e.trans k2)
        · rw [k2] at e2; exact absurd e2 (by decide)
      by_cases k5 : (lexL l).kind = 5
      · rcases kindL_or t (lexL l) with e | ⟨e, e2⟩
        · exact .inr (.inl (e.trans k5))
        · rw [k5] at e2; exact absurd e2 (by decide)
      obtain ⟨h4, h5⟩ := lex_own l hk k2 k5
      have h6 : (lexL l).text.length = (lexL l).w := by
        rw [h4, List.length_take]; omega
      refine .inr (.inr (.inr ⟨h5 hw, ?_, ?_⟩))
      · show o + (lexL l).text.length ≤ _
        omega
      · show (l.drop (o - o)).take (lexL l).text.length = (lexL l).text
        rw [Nat.sub_self, List.drop_zero, h6]; exact h4.symm
    · have h3 := (cut_in hc x hx).1
      rcases h x hx with h1 | h1 | h1 | ⟨h4, h5, h6⟩
      · exact .inl h1
      · exact .inr (.inl h1)
      · exact .inr (.inr (.inl h1))
      · rw [List.length_drop] at h5
        rw [List.drop_drop, show (lexL l).w + (x.pos - (o + (lexL l).w)) = x.pos - o from by omega] at h6
        exact .inr (.inr (.inr ⟨h4, by omega, h6⟩))
theorem cut_many {l : List UInt8} {o : Nat} {t : Bool} {T : List Tok} (h : cutL l o t = .good T) : T.length ≤ l.length + 1 := by
  have hle := lexL_le
  revert h
  refine cut_ind (P := fun l _ _ T => T.length ≤ l.length + 1) ?_ ?_ ?_ l o t T
  · intro o t; simp
  · intro l o t T hl hw _ _ h
    rw [List.length_drop] at h
    omega
  · intro l o t U hl hw _ _ h
    have := hle l
    rw [List.length_drop] at h
    rw [List.length_cons]
    omega
theorem cut_bad (l : List UInt8) : ∀ (o : Nat) (t : Bool) (p : Nat), cutL l o t = .bad p → o ≤ p ∧ p < o + l.length := by
  have hle := lexL_le
  induction e : l.length using Nat.strongRecOn generalizing l with
  | _ n ih =>
    intro o t p h
    by_cases hl : l = []
    · subst hl; cases h
    · have hp : 0 < l.length := List.length_pos_iff.2 hl
      have h2 := hle l
      rw [cutL_step l o t hl] at h
      split at h
      · injection h with h; omega
      · have hd := List.length_drop (i := (lexL l).w) (l := l)
        split at h
        · have := ih _ (by omega) _ rfl _ _ _ h
          omega
        · cases hc : cutL (l.drop (lexL l).w) (o + (lexL l).w) (opensL (kindL t (lexL l)) (lexL l).text) with
          | good U => rw [hc] at h; cases h
          | bad q =>
            rw [hc] at h
            injection h with h
            have := ih _ (by omega) _ rfl _ _ _ hc
            omega
end Go.Proofs.YtlbdocdjijhkbaaGreatDoor

/-
  Plain mathematics for package token: blanks and remarks ahead, two sources with a line's end between, atoms as they are written; no program in it.
-/
namespace Go.Proofs.YtlbdocdjijhkbaaGreatDoor
open Go.RowKit

/-! ### What stands behind a line's end changes nothing -/
def Pos (k n n' b c : Nat) : Prop := k < n ∧ b / 64 = 2 ∧ k < n' ∧ c = b
def Neg (k n n' b c : Nat) : Prop := ¬ (k < n ∧ b / 64 = 2) ∧ ¬ (k < n' ∧ c / 64 = 2)
theorem decodeN_same (n n' b0 b1 b2 b3 c1 c2 c3 : Nat) (h : Neg 1 n n' b1 c1 ∨ (Pos 1 n n' b1 c1 ∧ (Neg 2 n n' b2 c2 ∨ (Pos 2 n n' b2 c2 ∧ (Neg 3 n n' b3 c3 ∨ Pos 3 n n' b3 c3))))) : Lib.decodeN n b0 b1 b2 b3 = Lib.decodeN n' b0 c1 c2 c3 := by
  unfold Lib.decodeN
  by_cases h0 : b0 < 128
  · rw [if_pos h0, if_pos h0]
  rw [if_neg h0, if_neg h0]
  rcases h with ⟨a1, a2⟩ | ⟨⟨a1, a2, a3, rfl⟩, h⟩
  · simp only [a1, a2, false_and, and_false, if_false]
  have e1 : (1 < n ∧ c1 / 64 = 2) = True := by simp [a1, a2]
  have e2 : (1 < n' ∧ c1 / 64 = 2) = True := by simp [a3, a2]
  simp only [e1, e2]
  rcases h with ⟨a1, a2⟩ | ⟨⟨a1, a2, a3, rfl⟩, h⟩
  · simp only [a1, a2, false_and, and_false, if_false]
  have e3 : (2 < n ∧ c2 / 64 = 2) = True := by simp [a1, a2]
  have e4 : (2 < n' ∧ c2 / 64 = 2) = True := by simp [a3, a2]
  simp only [e3, e4]
  rcases h with ⟨a1, a2⟩ | ⟨a1, a2, a3, rfl⟩
  · simp only [a1, a2, and_false, if_false]
  have e5 : (3 < n ∧ c3 / 64 = 2) = True := by simp [a1, a2]
  have e6 : (3 < n' ∧ c3 / 64 = 2) = True := by simp [a3, a2]
  simp only [e5, e6]
theorem decode_line (l b : List UInt8) (hl : l ≠ []) : Lib.decodeL (l ++ 10 :: b) = Lib.decodeL l := by
  rw [Lib.decodeL_N, Lib.decodeL_N]
  have e0 : (l ++ 10 :: b).getD 0 0 = l.getD 0 0 := by cases l with | nil => exact absurd rfl hl | cons c t => rfl
  rw [e0]
  have hp : 0 < l.length := List.length_pos_iff.2 hl
  have hlen : (l ++ 10 :: b).length = l.length + (b.length + 1) := by rw [List.length_append, List.length_cons]
  have key : ∀ k, k ≤ l.length → Neg k (l ++ 10 :: b).length l.length ((l ++ 10 :: b).getD k 0).toNat (l.getD k 0).toNat ∨ Pos k (l ++ 10 :: b).length l.length ((l ++ 10 :: b).getD k 0).toNat (l.getD k 0).toNat := fun k hk => by
    by_cases h : k < l.length
    · have e : (l ++ 10 :: b).getD k 0 = l.getD k 0 := by rw [List.getD, List.getD, List.getElem?_append_left h]
      rw [e]
      by_cases h2 : (l.getD k 0).toNat / 64 = 2
      · exact .inr ⟨by omega, h2, h, rfl⟩
      · exact .inl ⟨fun h3 => h2 h3.2, fun h3 => h2 h3.2⟩
    · obtain rfl : k = l.length := by omega
      have e : (l ++ 10 :: b).getD l.length 0 = 10 := by rw [List.getD, List.getElem?_append_right (Nat.le_refl _), Nat.sub_self]; rfl
      rw [e]
      exact .inl ⟨fun h4 => absurd h4.2 (by decide), fun h4 => h h4.1⟩
  refine decodeN_same _ _ _ _ _ _ _ _ _ ?_
  rcases key 1 hp with h1 | h1
  · exact .inl h1
  refine .inr ⟨h1, ?_⟩
  have h2 := h1.2.2.1
  rcases key 2 h2 with h3 | h3
  · exact .inl h3
  refine .inr ⟨h3, ?_⟩
  have h4 := h3.2.2.1
  exact key 3 h4
theorem span_line (P : Int → Bool) (hP : P 10 = false) (l b : List UInt8) : spanL P (l ++ 10 :: b) = spanL P l := by
  unfold spanL
  induction l with
  | nil => rw [List.nil_append, List.takeWhile_cons, if_neg (by show ¬ P ((10 : UInt8).toNat : Int) = true; rw [show ((10 : UInt8).toNat : Int) = 10 from rfl, hP]; decide)]; rfl
  | cons c t ih =>
    rw [List.cons_append, List.takeWhile_cons, List.takeWhile_cons]
    split
    · rw [List.length_cons, List.length_cons, ih]
    · rfl
theorem take_line (l b : List UInt8) (n : Nat) (h : n ≤ l.length) : (l ++ 10 :: b).take n = l.take n := List.take_append_of_le_length h
theorem drop_line (l b : List UInt8) (n : Nat) (h : n ≤ l.length) : (l ++ 10 :: b).drop n = l.drop n ++ 10 :: b := List.drop_append_of_le_length h
theorem word_line (k : Int) (l b : List UInt8) : wordL k (l ++ 10 :: b) = wordL k l := by
  unfold wordL
  rw [span_line nameR (by decide), take_line _ _ _ (spanL_le _ _)]
theorem parts_line (l b : List UInt8) : partsL (l ++ 10 :: b) = partsL l := by
  cases l with
  | nil => show partsL (10 :: b) = true; unfold partsL; rfl
  | cons c t => rfl
theorem signs_line (l b : List UInt8) : signsL (l ++ 10 :: b) = signsL l := by
  unfold signsL
  rw [span_line signR (by decide), take_line _ _ _ (spanL_le _ _), drop_line _ _ _ (spanL_le _ _), parts_line]
theorem take2_line (l b : List UInt8) (x y : UInt8) (hx : x ≠ 10) (hy : y ≠ 10) : (l ++ 10 :: b).take 2 = [x, y] ↔ l.take 2 = [x, y] := by
  match l with
  | [] => simp; intro h; exact absurd h.symm hx
  | [c] => simp; intro _ h; exact absurd h.symm hy
  | c :: d :: t => simp
theorem hexRun_line (b : List UInt8) : ∀ (k : Nat) (t : List UInt8) (n : Int), hexRun k (t ++ 10 :: b) n = hexRun k t n
  | 0, t, n => by cases t <;> rfl
  | k + 1, [], n => by
    show hexRun (k + 1) (10 :: b) n = (0, n)
    exact if_neg (by decide)
  | k + 1, c :: t, n => by
    show (if 0 ≤ hexV c.toNat then ((hexRun k (t ++ 10 :: b) (16 * n + hexV c.toNat)).1 + 1, (hexRun k (t ++ 10 :: b) (16 * n + hexV c.toNat)).2) else (0, n)) = (if 0 ≤ hexV c.toNat then ((hexRun k t (16 * n + hexV c.toNat)).1 + 1, (hexRun k t (16 * n + hexV c.toNat)).2) else (0, n))
    rw [hexRun_line b k t]
theorem getD_line (l b : List UInt8) (n : Nat) (h : n < l.length) : (l ++ 10 :: b).getD n 0 = l.getD n 0 := by
  rw [List.getD, List.getD, List.getElem?_append_left h]
theorem escL_line (l b : List UInt8) (h : (escL l).2 ≠ 0) : escL (l ++ 10 :: b) = escL l := by
  cases l with
  | nil => exact absurd rfl h
  | cons c t =>
    revert h
    rw [List.cons_append]
    unfold escL
    dsimp only
    rw [hexRun_line]
    by_cases h1 : c.toNat = 92 ∨ c.toNat = 39
    · rw [if_pos h1, if_pos h1]; intro _; rfl
    rw [if_neg h1, if_neg h1]
    by_cases h2 : c.toNat = 110
    · rw [if_pos h2, if_pos h2]; intro _; rfl
    rw [if_neg h2, if_neg h2]
    by_cases h3 : c.toNat = 116
    · rw [if_pos h3, if_pos h3]; intro _; rfl
    rw [if_neg h3, if_neg h3]
    by_cases h4 : c.toNat = 120
    · rw [if_pos h4, if_pos h4]
      intro h
      by_cases h5 : (hexRun 6 t 0).1 = 0 ∨ t.length ≤ (hexRun 6 t 0).1 ∨ (t.getD (hexRun 6 t 0).1 0).toNat ≠ 92 ∨ 1114111 < (hexRun 6 t 0).2 ∨ (55296 ≤ (hexRun 6 t 0).2 ∧ (hexRun 6 t 0).2 ≤ 57343)
      · rw [if_pos h5] at h; exact absurd rfl h
      · rw [if_neg h5]
        have h6 : ¬ t.length ≤ (hexRun 6 t 0).1 := fun e => h5 (.inr (.inl e))
        rw [getD_line _ _ _ (by omega), List.length_append, if_neg]
        intro h7
        apply h5
        rcases h7 with h7 | h7 | h7
        · exact .inl h7
        · rw [List.length_cons] at h7; omega
        · exact .inr (.inr h7)
    · rw [if_neg h4, if_neg h4]; intro _; rfl
theorem readAt_line (l b out : List UInt8) (a : Nat) : ∀ r, readAt l out a = some r → readAt (l ++ 10 :: b) out a = some r := by
  induction e : l.length using Nat.strongRecOn generalizing l out a with
  | _ n ih =>
    intro r hr
    by_cases hl : l = []
    · subst hl; cases hr
    · have hp : 0 < l.length := List.length_pos_iff.2 hl
      have hw := Lib.decodeL_width l
      have hle := Lib.decodeL_le l hl
      have hl2 : l ++ 10 :: b ≠ [] := by simp
      rw [readAt_step l out a hl] at hr
      rw [readAt_step _ out a hl2, decode_line l b hl]
      have go : ∀ d o2 a2, 0 < d → d ≤ l.length → readAt (l.drop d) o2 a2 = some r → readAt ((l ++ 10 :: b).drop d) o2 a2 = some r := fun d o2 a2 h0 hd h => by
        rw [drop_line _ _ _ hd]
        exact ih _ (by rw [List.length_drop]; omega) _ _ _ rfl r h
      split at hr
      · rw [if_pos (by assumption)]
        by_cases h2 : l.getD 1 0 = 39 ∧ 1 < l.length
        · rw [if_pos h2] at hr
          rw [if_pos ⟨by rw [getD_line _ _ _ h2.2]; exact h2.1, by rw [List.length_append]; omega⟩]
          exact go 2 _ _ (by omega) (by omega) hr
        · rw [if_neg h2] at hr
          rw [if_neg]
          · exact hr
          · intro h3
            by_cases h4 : 1 < l.length
            · rw [getD_line _ _ _ h4] at h3; exact h2 ⟨h3.1, h4⟩
            · have h5 : l.length = 1 := by omega
              obtain ⟨c, rfl⟩ := List.length_eq_one_iff.1 h5
              exact absurd h3.1 (by rw [List.singleton_append, List.getD_cons_succ, List.getD_cons_zero]; decide)
      · rw [if_neg (by assumption)]
        split at hr
        · rw [if_pos (by assumption)]
          by_cases h0 : (escL (l.drop 1)).2 = 0
          · rw [if_pos h0] at hr; cases hr
          · rw [if_neg h0] at hr
            have h3 := escL_le (l.drop 1)
            rw [List.length_drop] at h3
            rw [drop_line l b 1 (by omega), escL_line _ b h0, if_neg h0]
            exact go _ _ _ (by omega) (by omega) hr
        · rw [if_neg (by assumption)]
          split at hr
          · cases hr
          · rw [if_neg (by assumption)]
            exact go _ _ _ hw hle hr
theorem readL_line (l b : List UInt8) (hl : l ≠ []) (r) (h : readL l = some r) : readL (l ++ 10 :: b) = some r := by
  by_cases h0 : l.headD 0 = 39
  · rw [readL_eq l h0] at h
    rw [readL_eq _ (by cases l with | nil => exact absurd rfl hl | cons c t => exact h0), drop_line _ _ _ (List.length_pos_iff.2 hl)]
    exact readAt_line _ _ _ _ _ h
  · rw [readL_no l h0] at h; cases h
theorem close_line (b : List UInt8) : ∀ (l : List UInt8) (k : Nat), closeL l = some k → closeL (l ++ 10 :: b) = some k
  | [], k, h => by cases h
  | c :: t, k, h => by
    unfold closeL at h
    rw [List.cons_append]
    unfold closeL
    split at h
    · rename_i hc
      rw [if_pos ⟨hc.1, by cases t with | nil => exact absurd rfl hc.2.2 | cons d u => exact hc.2.1, by simp⟩]
      exact h
    · rename_i hc
      rw [if_neg]
      · cases h2 : closeL t with
        | none => rw [h2] at h; cases h
        | some m => rw [h2] at h; rw [close_line b t m h2]; exact h
      · intro h3
        apply hc
        cases t with
        | nil => exact absurd h3.2.1 (by simp)
        | cons d u => exact ⟨h3.1, h3.2.1, by simp⟩
theorem runeB_line (l b : List UInt8) : runeB (l ++ 10 :: b) = runeB l := by
  unfold runeB
  by_cases h1 : l.take 2 = [39, 39]
  · rw [if_pos h1, if_pos ((take2_line l b 39 39 (by decide) (by decide)).2 h1)]
  · rw [if_neg h1, if_neg (fun h => h1 ((take2_line l b 39 39 (by decide) (by decide)).1 h))]
    by_cases hl : l = []
    · subst hl
      rw [if_pos (.inl rfl : _ ∨ _), List.nil_append]
      refine if_pos (.inr (.inl ?_))
      rw [Lib.decodeL_ascii 10 b (by decide)]; decide
    · rw [decode_line l b hl]
      have e : (l ++ 10 :: b = []) = False := by simp
      have e2 : (l = []) = False := by simp [hl]
      simp only [e, e2]
theorem runeNum_line (l b : List UInt8) : runeNum (l ++ 10 :: b) = runeNum l := by
  unfold runeNum
  by_cases h1 : l.take 2 = [48, 39]
  · have h2 : 2 ≤ l.length := by
      have := congrArg List.length h1
      rw [List.length_take] at this
      simp only [List.length_cons, List.length_nil] at this
      omega
    rw [if_pos h1, if_pos ((take2_line l b 48 39 (by decide) (by decide)).2 h1), drop_line _ _ _ h2, runeB_line]
  · rw [if_neg h1, if_neg (fun h => h1 ((take2_line l b 48 39 (by decide) (by decide)).1 h))]
theorem number_line (l b : List UInt8) : numberL (l ++ 10 :: b) = numberL l := by
  unfold numberL
  rw [runeNum_line, span_line digR (by decide), take_line _ _ _ (spanL_le _ _)]
theorem lex_line (l b : List UInt8) (hl : l ≠ []) (h : (lexL l).w ≠ 0) : lexL (l ++ 10 :: b) = lexL l := by
  cases l with
  | nil => exact absurd rfl hl
  | cons c t =>
    have e0 : (c :: t) ++ 10 :: b = c :: (t ++ 10 :: b) := rfl
    have ew := fun k => word_line k (c :: t) b
    have es := signs_line (c :: t) b
    have en := number_line (c :: t) b
    have el := span_line lineR (by decide) (c :: t) b
    have e2 := take2_line (c :: t) b 47 42 (by decide) (by decide)
    rw [e0] at ew es en el e2 ⊢
    revert h
    unfold lexL
    dsimp only
    by_cases c5 : cls (c.toNat : Int) = 5
    · rw [if_pos c5, if_pos c5]; intro _; rfl
    rw [if_neg c5, if_neg c5]
    by_cases c1 : cls (c.toNat : Int) = 1
    · rw [if_pos c1, if_pos c1, ew]; intro _; rfl
    rw [if_neg c1, if_neg c1]
    by_cases c2 : cls (c.toNat : Int) = 2
    · rw [if_pos c2, if_pos c2, ew]; intro _; rfl
    rw [if_neg c2, if_neg c2]
    by_cases c3 : cls (c.toNat : Int) = 3
    · rw [if_pos c3, if_pos c3, en]; intro _; rfl
    rw [if_neg c3, if_neg c3]
    by_cases c4 : cls (c.toNat : Int) = 4
    · rw [if_pos c4, if_pos c4]
      by_cases h2 : (c :: t).take 2 = [47, 42]
      · rw [if_pos h2, if_pos (e2.2 h2)]
        unfold remarkL
        intro h
        cases hc : closeL ((c :: t).drop 2) with
        | none => rw [hc] at h; exact absurd rfl h
        | some k =>
          have h3 : 2 ≤ (c :: t).length := by
            have := congrArg List.length h2
            rw [List.length_take] at this
            simp only [List.length_cons, List.length_nil] at this ⊢
            omega
          have h4 := close_line b _ k hc
          rw [← drop_line _ _ _ h3, e0] at h4
          rw [h4]
      · rw [if_neg h2, if_neg (fun h => h2 (e2.1 h)), es]; intro _; rfl
    rw [if_neg c4, if_neg c4]
    by_cases c8 : cls (c.toNat : Int) = 8
    · rw [if_pos c8, if_pos c8]
      intro h
      cases hr : readL (c :: t) with
      | none =>
        have : namedL (quotedL (c :: t)) = lx0 := by unfold quotedL; rw [hr]; unfold namedL; dsimp only; split <;> rfl
        rw [this] at h; exact absurd rfl h
      | some r =>
        have h4 := readL_line (c :: t) b hl r hr
        rw [e0] at h4
        unfold quotedL
        rw [h4, hr]
    rw [if_neg c8, if_neg c8]
    by_cases c6 : cls (c.toNat : Int) = 6 ∨ cls (c.toNat : Int) = 7
    · rw [if_pos c6, if_pos c6]; intro _; rfl
    rw [if_neg c6, if_neg c6, el]
    intro _; rfl
theorem lex_blank (b : UInt8) (t : List UInt8) (h : cls (b.toNat : Int) = 5) : lexL (b :: t) = ⟨0, [], 0, 1⟩ := by
  unfold lexL
  dsimp only
  rw [if_pos h]
theorem cut_blank (b : UInt8) (t : List UInt8) (h : cls (b.toNat : Int) = 5) (o : Nat) (g : Bool) : cutL (b :: t) o g = cutL t (o + 1) false := by
  rw [cutL_step _ _ _ (by simp), lex_blank b t h, if_neg (by decide), if_pos rfl]
  rfl
/-- Two sources, a line's end between. -/
theorem cut_join {l : List UInt8} {o : Nat} {t : Bool} {T : List Tok} (b : List UInt8) (h : cutL l o t = .good T) : cutL (l ++ 10 :: b) o t = (cutL b (o + l.length + 1) false).pre T.dropLast := by
  have hle := lexL_le
  revert h
  refine cut_ind (P := fun l o t T => cutL (l ++ 10 :: b) o t = (cutL b (o + l.length + 1) false).pre T.dropLast) ?_ ?_ ?_ l o t T
  · intro o t
    show cutL (10 :: b) o t = (cutL b (o + 0 + 1) false).pre []
    rw [cut_blank 10 b (by decide), pre_nil]
  · intro l o t T hl hw hk _ h
    have h2 := hle l
    rw [List.length_drop, ← drop_line _ _ _ h2, show o + (lexL l).w + (l.length - (lexL l).w) + 1 = o + l.length + 1 from by omega] at h
    rw [cutL_step _ _ _ (by simp), lex_line l b hl hw, if_neg hw, if_pos hk, h]
  · intro l o t U hl hw hk hc h
    have h2 := hle l
    rw [List.length_drop, ← drop_line _ _ _ h2, show o + (lexL l).w + (l.length - (lexL l).w) + 1 = o + l.length + 1 from by omega] at h
    rw [cutL_step _ _ _ (by simp), lex_line l b hl hw, if_neg hw, if_neg hk, h, pre_pre]
    congr 1
    cases U with
    | nil => exact absurd rfl (cut_ne hc)
    | cons u U => rfl

/-! ### Blanks and remarks ahead -/
def aheadL : Nat → List UInt8
  | 0 => [32]
  | 1 => [10]
  | 2 => [37, 32, 120, 32, 46, 32, 39, 32, 121, 10]
  | 3 => [47, 42, 32, 97, 10, 32, 39, 42, 47]
  | _ => [47, 42, 42, 47, 9]
theorem cut_ahead (k : Nat) (l : List UInt8) : cutL (aheadL k ++ l) 0 false = (cutL l 0 false).sh (aheadL k).length := by
  have h0 := cutL_shift l (aheadL k).length 0 false
  rw [← h0, Nat.zero_add]
  clear h0
  match k with
  | 0 => exact cut_blank 32 l (by decide) 0 false
  | 1 => exact cut_blank 10 l (by decide) 0 false
  | 2 =>
    show cutL (37 :: 32 :: 120 :: 32 :: 46 :: 32 :: 39 :: 32 :: 121 :: 10 :: l) 0 false = cutL l 10 false
    have e : lexL (37 :: 32 :: 120 :: 32 :: 46 :: 32 :: 39 :: 32 :: 121 :: 10 :: l) = ⟨0, [], 0, 9⟩ := rfl
    rw [cutL_step _ _ _ (by simp), e, if_neg (by decide), if_pos rfl]
    exact cut_blank 10 l (by decide) 9 false
  | 3 =>
    show cutL (47 :: 42 :: 32 :: 97 :: 10 :: 32 :: 39 :: 42 :: 47 :: l) 0 false = cutL l 9 false
    have e : lexL (47 :: 42 :: 32 :: 97 :: 10 :: 32 :: 39 :: 42 :: 47 :: l) = ⟨0, [], 0, 9⟩ := by
      have hc : closeL (32 :: 97 :: 10 :: 32 :: 39 :: 42 :: 47 :: l) = some 7 := by simp [closeL]
      have e1 : lexL (47 :: 42 :: 32 :: 97 :: 10 :: 32 :: 39 :: 42 :: 47 :: l) = remarkL (47 :: 42 :: 32 :: 97 :: 10 :: 32 :: 39 :: 42 :: 47 :: l) := rfl
      rw [e1]
      unfold remarkL
      rw [show (47 :: 42 :: 32 :: 97 :: 10 :: 32 :: 39 :: 42 :: 47 :: l).drop 2 = 32 :: 97 :: 10 :: 32 :: 39 :: 42 :: 47 :: l from rfl, hc]
    rw [cutL_step _ _ _ (by simp), e, if_neg (by decide), if_pos rfl]
    rfl
  | k + 4 =>
    show cutL (47 :: 42 :: 42 :: 47 :: 9 :: l) 0 false = cutL l 5 false
    have e : lexL (47 :: 42 :: 42 :: 47 :: 9 :: l) = ⟨0, [], 0, 4⟩ := by
      have hc : closeL (42 :: 47 :: 9 :: l) = some 2 := by simp [closeL]
      have e1 : lexL (47 :: 42 :: 42 :: 47 :: 9 :: l) = remarkL (47 :: 42 :: 42 :: 47 :: 9 :: l) := rfl
      rw [e1]
      unfold remarkL
      rw [show (47 :: 42 :: 42 :: 47 :: 9 :: l).drop 2 = 42 :: 47 :: 9 :: l from rfl, hc]
    rw [cutL_step _ _ _ (by simp), e, if_neg (by decide), if_pos rfl]
    exact cut_blank 9 l (by decide) 4 false

/-! ### Atoms as they are written -/
theorem span_all (P : Int → Bool) (h32 : P 32 = false) (l : List UInt8) (h : l.all (fun b => P (b.toNat : Int)) = true) : spanL P (l ++ [32]) = l.length := by
  unfold spanL
  induction l with
  | nil => rw [List.nil_append, List.takeWhile_cons, if_neg (by show ¬ P ((32 : UInt8).toNat : Int) = true; rw [show ((32 : UInt8).toNat : Int) = 32 from rfl, h32]; decide)]
  | cons b t ih =>
    rw [List.all_cons, Bool.and_eq_true] at h
    rw [List.cons_append, List.takeWhile_cons, if_pos h.1, List.length_cons, List.length_cons, ih h.2]
theorem cut_one (w s : List UInt8) (k : Int) (hk : k ≠ 0) (hw : w ≠ []) (h : lexL (w ++ [32]) = ⟨k, s, 0, w.length⟩) : cutL (w ++ [32]) 0 false = .good [⟨k, s, 0, 0⟩, ⟨9, [], 0, w.length + 1⟩] := by
  rw [cutL_step _ _ _ (by simp), h]
  dsimp only
  have hp : w.length ≠ 0 := fun e => hw (List.eq_nil_of_length_eq_zero e)
  rw [if_neg hp, if_neg hk, List.drop_append_of_le_length (Nat.le_refl _), List.drop_length, List.nil_append]
  have ek : kindL false ⟨k, s, 0, w.length⟩ = k := by unfold kindL; rw [if_neg (by simp)]
  rw [ek, cut_blank 32 [] (by decide), cutL_nil]
  show Out.good _ = _
  rw [Nat.zero_add]; rfl
theorem cut_atom (s : List UInt8) (hc : checkL s = true) (h1 : s ≠ [91, 93]) (h2 : s ≠ [123, 125]) : ∃ k : Int, (k = 1 ∨ k = 2 ∨ k = 3) ∧ cutL (writeL s ++ [32]) 0 false = .good [⟨k, s, 0, 0⟩, ⟨9, [], 0, (writeL s).length + 1⟩] := by
  have hv : Lib.validD s = true := by unfold checkL at hc; rw [Bool.and_eq_true] at hc; exact hc.2
  cases hb : bareL s with
  | false =>
    have e : writeL s = quoteL s := by unfold writeL; rw [if_pos hc, hb]; rfl
    rw [e]
    refine ⟨2, .inr (.inl rfl), cut_one _ _ 2 (by decide) (by unfold quoteL; simp) ?_⟩
    have hr := read_quote s [32] hv (by decide)
    have e2 : quoteL s ++ [32] = 39 :: ((runesL s).flatMap escR ++ [39] ++ [32]) := rfl
    rw [e2] at hr ⊢
    unfold lexL
    dsimp only
    rw [if_neg (by decide), if_neg (by decide), if_neg (by decide), if_neg (by decide), if_neg (by decide), if_pos (by decide)]
    unfold quotedL
    rw [hr]
    unfold namedL
    dsimp only
    rw [if_pos hc]
  | true =>
    have e : writeL s = s := by unfold writeL; rw [if_pos hc, if_pos hb]
    rw [e]
    obtain ⟨_, hne, h3⟩ := bare_parts hb
    have go : (∀ c ∈ runesL s, nameR c = true ∨ signR c = true) → runesL s = s.map (fun b => (b.toNat : Int)) := runes_bytes _ s (Nat.le_refl _) hv
    rcases h3 with h3 | h3 | rfl | rfl | ⟨h4, h5⟩ | h5
    · exact absurd h3 h1
    · exact absurd h3 h2
    · exact ⟨1, .inl rfl, cut_one _ _ 1 (by decide) (by simp) rfl⟩
    · exact ⟨1, .inl rfl, cut_one _ _ 1 (by decide) (by simp) rfl⟩
    · have e2 := go (fun c hc => .inl (List.all_eq_true.1 h5 c hc))
      rw [e2] at h4 h5
      have h6 : s.all (fun b => nameR (b.toNat : Int)) = true := by rw [List.all_map] at h5; exact h5
      have h7 := span_all nameR (by decide) s h6
      refine ⟨1, .inl rfl, cut_one _ _ 1 (by decide) hne ?_⟩
      cases s with
      | nil => exact absurd rfl hne
      | cons b t =>
        have h8 : cls (b.toNat : Int) = 1 := h4
        have e3 : lexL ((b :: t) ++ [32]) = namedL (wordL 1 ((b :: t) ++ [32])) := by
          rw [List.cons_append]
          unfold lexL
          dsimp only
          rw [h8, if_neg (by decide), if_pos rfl]
        rw [e3]
        unfold wordL
        rw [h7, List.take_append_of_le_length (Nat.le_refl _), List.take_length]
        unfold namedL
        dsimp only
        rw [if_pos hc]
    · have e2 := go (fun c hc => .inr (List.all_eq_true.1 h5 c hc))
      rw [e2] at h5
      have h6 : s.all (fun b => signR (b.toNat : Int)) = true := by rw [List.all_map] at h5; exact h5
      have h7 := span_all signR (by decide) s h6
      have hb2 := hb
      unfold bareL at hb2
      simp only [Bool.and_eq_true, Bool.or_eq_true, Bool.not_eq_true', Bool.or_eq_false_iff, decide_eq_true_eq, decide_eq_false_iff_not] at hb2
      obtain ⟨⟨_, ⟨_, n46⟩, n2⟩, _⟩ := hb2
      refine ⟨3, .inr (.inr rfl), cut_one _ _ 3 (by decide) hne ?_⟩
      cases s with
      | nil => exact absurd rfl hne
      | cons b t =>
        have h8 : cls (b.toNat : Int) = 4 := by
          rw [List.all_cons, Bool.and_eq_true] at h6
          have := h6.1
          unfold signR at this
          exact of_decide_eq_true this
        have n3 : ¬ ((b :: t) ++ [32]).take 2 = [47, 42] := by
          cases t with
          | nil => simp
          | cons c u => exact n2
        have e3 : lexL ((b :: t) ++ [32]) = namedL (signsL ((b :: t) ++ [32])) := by
          rw [List.cons_append] at n3 ⊢
          unfold lexL
          dsimp only
          rw [h8, if_neg (by decide), if_neg (by decide), if_neg (by decide), if_neg (by decide), if_pos rfl, if_neg n3]
        rw [e3]
        unfold signsL
        rw [h7, List.take_append_of_le_length (Nat.le_refl _), List.take_length, if_neg (fun h => n46 h.1)]
        unfold namedL
        dsimp only
        rw [if_pos hc]
theorem cut_brackets : cutL (writeL [91, 93] ++ [32]) 0 false = .good [⟨6, [91], 0, 0⟩, ⟨6, [93], 0, 1⟩, ⟨9, [], 0, 3⟩] ∧ cutL (writeL [123, 125] ++ [32]) 0 false = .good [⟨6, [123], 0, 0⟩, ⟨6, [125], 0, 1⟩, ⟨9, [], 0, 3⟩] := by
  have e1 : writeL [91, 93] = [91, 93] := by decide +kernel
  have e2 : writeL [123, 125] = [123, 125] := by decide +kernel
  rw [e1, e2]
  exact ⟨by kernel_rfl, by kernel_rfl⟩
end Go.Proofs.YtlbdocdjijhkbaaGreatDoor
