/-
  Plain mathematics: an atom in quotes read rune by rune, with a state; no program in it.
-/
import Derived.Test.YtglaoacdenecfaaDoorCharBackM
import Derived.Lib.Small
import Derived.Laws.RangeAny
namespace Go.Proofs.YtglaoacdenecfaaDoor
open Go.RowKit

/-- A rune below 128 is its one byte; one beyond begins with a byte beyond. -/
theorem head_of (b : UInt8) (t : List UInt8) : ((Lib.decodeL (b :: t)).1 < 128 ∧ b.toNat = (Lib.decodeL (b :: t)).1 ∧ (Lib.decodeL (b :: t)).2 = 1) ∨ (128 ≤ (Lib.decodeL (b :: t)).1 ∧ 128 ≤ b.toNat) := by
  by_cases h : b.toNat < 128
  · left; rw [Lib.decodeL_ascii b t h]; exact ⟨h, rfl, rfl⟩
  · right
    have hs : 0 < (⟨(b :: t).toArray⟩ : ByteArray).size := by show 0 < (b :: t).toArray.size; simp
    exact ⟨(decode_high ⟨(b :: t).toArray⟩ 0 hs (show 128 ≤ b.toNat by omega)).1, by omega⟩

def closedL (t text : List UInt8) (p : Nat) : Option (List UInt8 × Nat) := if t.headD 0 = 39 ∧ t ≠ [] then readAt (t.drop 1) (text ++ [39]) (p + 1) else some (text, p)
def escapedL (t text : List UInt8) (p : Nat) : Option (List UInt8 × Nat) := if (escL t).2 = 0 then none else readAt (t.drop (escL t).2) (text ++ encL (escL t).1) (p + (escL t).2)
def codedL (t text : List UInt8) (num : Int) (dig p : Nat) : Option (List UInt8 × Nat) :=
  if (hexRun (6 - dig) t num).1 + dig = 0 ∨ t.length ≤ (hexRun (6 - dig) t num).1 ∨ (t.getD (hexRun (6 - dig) t num).1 0).toNat ≠ 92 ∨ 1114111 < (hexRun (6 - dig) t num).2 ∨ (55296 ≤ (hexRun (6 - dig) t num).2 ∧ (hexRun (6 - dig) t num).2 ≤ 57343) then none
  else readAt (t.drop ((hexRun (6 - dig) t num).1 + 1)) (text ++ encL (hexRun (6 - dig) t num).2) (p + (hexRun (6 - dig) t num).1 + 1)
/-- Where the reading stands: what is left to read from the place pos on. -/
def QSt (L : List UInt8) (pos : Nat) (a : Int) (text : List UInt8) (num : Int) (dig : Nat) : Prop :=
  (a = 0 ∧ pos = 0 ∧ text = []) ∨ (a = 1 ∧ readL L = readAt (L.drop pos) text pos) ∨ (a = 2 ∧ readL L = closedL (L.drop pos) text pos) ∨ (a = 3 ∧ readL L = escapedL (L.drop pos) text pos) ∨
    (a = 4 ∧ 0 ≤ num ∧ num < 16 ^ dig ∧ dig ≤ 6 ∧ readL L = codedL (L.drop pos) text num dig pos)
/-- A digit's number to the base 16, of a rune; -1: it is none. -/
def hexC (c : Int) : Int := if 48 ≤ c ∧ c ≤ 57 then c - 48 else if 97 ≤ c ∧ c ≤ 102 then c - 87 else if 65 ≤ c ∧ c ≤ 70 then c - 55 else -1
/-- What a rune more comes to: none, it may not stand there. -/
def takeR (a : Int) (text : List UInt8) (num : Int) (dig : Nat) (c : Int) : Option (Int × List UInt8 × Int × Nat) :=
  if a = 0 then (if c = 39 then some (1, text, num, dig) else none)
  else if a = 1 then (if c = 39 then some (2, text, num, dig) else if c = 92 then some (3, text, num, dig) else if c < 32 then none else some (1, text ++ encL c, num, dig))
  else if a = 2 then (if c = 39 then some (1, text ++ encL c, num, dig) else none)
  else if a = 3 then (if c = 92 ∨ c = 39 then some (1, text ++ encL c, num, dig) else if c = 110 then some (1, text ++ encL 10, num, dig) else if c = 116 then some (1, text ++ encL 9, num, dig) else if c = 120 then some (4, text, 0, 0) else none)
  else (if c = 92 then (if 0 < dig ∧ Lib.validRune num = true then some (1, text ++ encL num, num, dig) else none) else if hexC c < 0 ∨ dig = 6 then none else some (4, text, num * 16 + hexC c, dig + 1))

theorem escL_cons' (b : UInt8) (t : List UInt8) : escL (b :: t) =
    if b.toNat = 92 ∨ b.toNat = 39 then ((b.toNat : Int), 1) else if b.toNat = 110 then (10, 1) else if b.toNat = 116 then (9, 1) else if b.toNat = 120 then
      (if (hexRun 6 t 0).1 = 0 ∨ t.length ≤ (hexRun 6 t 0).1 ∨ (t.getD (hexRun 6 t 0).1 0).toNat ≠ 92 ∨ 1114111 < (hexRun 6 t 0).2 ∨ (55296 ≤ (hexRun 6 t 0).2 ∧ (hexRun 6 t 0).2 ≤ 57343) then (0, 0)
       else ((hexRun 6 t 0).2, (hexRun 6 t 0).1 + 2)) else (0, 0) := rfl
theorem hexRun_stop (k : Nat) (b : UInt8) (t : List UInt8) (num : Int) (h : hexV b.toNat < 0) : hexRun k (b :: t) num = (0, num) := by
  cases k with
  | zero => rfl
  | succ k => exact if_neg (by omega)
theorem hexRun_go (k : Nat) (b : UInt8) (t : List UInt8) (num : Int) (h : 0 ≤ hexV b.toNat) : hexRun (k + 1) (b :: t) num = ((hexRun k t (16 * num + hexV b.toNat)).1 + 1, (hexRun k t (16 * num + hexV b.toNat)).2) := if_pos h
theorem hexV_C (b : Nat) : hexV b = hexC (b : Int) := by
  unfold hexV hexC
  repeat' split
  all_goals omega
theorem hexC_range (c : Int) : -1 ≤ hexC c ∧ hexC c ≤ 15 := by
  unfold hexC
  repeat' split
  all_goals omega
theorem hexC_big (c : Int) (h : 103 ≤ c) : hexC c = -1 := by
  unfold hexC
  rw [if_neg (by omega), if_neg (by omega), if_neg (by omega)]
theorem byte_eq2 {b : UInt8} {n : Nat} (hn : n < 256) (h : b.toNat = n) : b = UInt8.ofNat n := UInt8.toNat_inj.1 (by rw [h, toNat_of n hn])

theorem QSt.step {L : List UInt8} {pos : Nat} {a : Int} {text : List UInt8} {num : Int} {dig : Nat} (h : QSt L pos a text num dig) (hne : L.drop pos ≠ [])
    (hb : ¬ ((Lib.decodeL (L.drop pos)).1 = 65533 ∧ (Lib.decodeL (L.drop pos)).2 = 1)) (h2 : ¬ (a = 2 ∧ (Lib.decodeL (L.drop pos)).1 ≠ 39)) :
    match takeR a text num dig ((Lib.decodeL (L.drop pos)).1 : Nat) with
    | none => readL L = none
    | some (a', t', m', d') => QSt L (pos + (Lib.decodeL (L.drop pos)).2) a' t' m' d' := by
  obtain ⟨b, t, hbt⟩ : ∃ b t, L.drop pos = b :: t := by
    match hL : L.drop pos, hne with
    | b :: t, _ => exact ⟨b, t, rfl⟩
  have hd2 : ∀ n, L.drop (pos + n) = (b :: t).drop n := fun n => by rw [← hbt, List.drop_drop]
  have hho := head_of b t
  unfold takeR
  rcases h with ⟨ha, hp, ht⟩ | ⟨ha, hr⟩ | ⟨ha, hr⟩ | ⟨ha, hr⟩ | ⟨ha, hn0, hn1, hdg, hr⟩
  · subst ha hp ht
    rw [List.drop_zero] at hbt
    rw [if_pos rfl, List.drop_zero]
    subst hbt
    by_cases hc : (Lib.decodeL (b :: t)).1 = 39
    · rw [if_pos (by omega)]
      refine .inr (.inl ⟨rfl, ?_⟩)
      have hb39 : b = 39 := byte_eq2 (n := 39) (by decide) (by omega)
      rw [readL_eq _ (by rw [List.headD_cons]; exact hb39), show (Lib.decodeL (b :: t)).2 = 1 by omega]
    · rw [if_neg (by omega)]
      exact readL_no _ (by rw [List.headD_cons]; rintro rfl; rw [Lib.decodeL_ascii 39 t (by decide)] at hc; exact hc rfl)
  · subst ha
    rw [if_neg (by decide), if_pos rfl]
    rw [readAt_step _ _ _ hne] at hr
    rw [hbt] at hr hb h2 ⊢
    by_cases hc : (Lib.decodeL (b :: t)).1 = 39
    · rw [if_pos (by omega)]
      rw [if_pos hc] at hr
      refine .inr (.inr (.inl ⟨rfl, ?_⟩))
      rw [hr, hd2, show (Lib.decodeL (b :: t)).2 = 1 by omega]
      unfold closedL
      cases t with
      | nil => rw [if_neg (by simp), if_neg (by simp)]
      | cons x y =>
        by_cases hx : x = 39
        · subst hx; rw [if_pos (by simp), if_pos (by simp)]; rfl
        · rw [if_neg (by simp [hx]), if_neg (by simp [hx])]
    rw [if_neg (by omega)]
    rw [if_neg hc] at hr
    by_cases hc2 : (Lib.decodeL (b :: t)).1 = 92
    · rw [if_pos (by omega)]
      rw [if_pos hc2] at hr
      refine .inr (.inr (.inr (.inl ⟨rfl, ?_⟩)))
      rw [hr, hd2, show (Lib.decodeL (b :: t)).2 = 1 by omega]
      unfold escapedL
      rw [List.drop_succ_cons, List.drop_zero, List.drop_succ_cons]
      by_cases he : (escL t).2 = 0
      · rw [if_pos he, if_pos he]
      · rw [if_neg he, if_neg he, show pos + (escL t).2 + 1 = pos + 1 + (escL t).2 by omega]
    rw [if_neg (by omega)]
    rw [if_neg hc2] at hr
    by_cases hc3 : (Lib.decodeL (b :: t)).1 < 32
    · rw [if_pos (by omega)]
      rw [if_pos (.inl hc3)] at hr
      exact hr
    rw [if_neg (by omega)]
    rw [if_neg (by omega)] at hr
    exact .inr (.inl ⟨rfl, by rw [hr, hd2]⟩)
  · subst ha
    have hc : (Lib.decodeL (b :: t)).1 = 39 := by rw [hbt] at h2; omega
    rw [if_neg (by decide), if_neg (by decide), if_pos rfl]
    rw [hbt] at hr ⊢
    rw [if_pos (by omega)]
    have hb39 : b = 39 := byte_eq2 (n := 39) (by decide) (by omega)
    refine .inr (.inl ⟨rfl, ?_⟩)
    rw [hr, hd2, show (Lib.decodeL (b :: t)).2 = 1 by omega, hc]
    unfold closedL
    rw [if_pos ⟨by rw [List.headD_cons]; exact hb39, by simp⟩]
    rfl
  · subst ha
    rw [if_neg (by decide), if_neg (by decide), if_neg (by decide), if_pos rfl]
    rw [hbt] at hr ⊢
    unfold escapedL at hr
    by_cases hc1 : (Lib.decodeL (b :: t)).1 = 92 ∨ (Lib.decodeL (b :: t)).1 = 39
    · rw [if_pos (by omega)]
      have he : escL (b :: t) = ((b.toNat : Int), 1) := by rw [escL_cons', if_pos (by omega)]
      rw [he, if_neg (show ¬ (1 : Nat) = 0 by decide)] at hr
      refine .inr (.inl ⟨rfl, ?_⟩)
      rw [hr, hd2, show (Lib.decodeL (b :: t)).2 = 1 by omega, show b.toNat = (Lib.decodeL (b :: t)).1 by omega]
    rw [if_neg (by omega)]
    by_cases hc2 : (Lib.decodeL (b :: t)).1 = 110
    · rw [if_pos (by omega)]
      have he : escL (b :: t) = (10, 1) := by rw [escL_cons', if_neg (by omega), if_pos (by omega)]
      rw [he, if_neg (show ¬ (1 : Nat) = 0 by decide)] at hr
      refine .inr (.inl ⟨rfl, ?_⟩)
      rw [hr, hd2, show (Lib.decodeL (b :: t)).2 = 1 by omega]
    rw [if_neg (by omega)]
    by_cases hc3 : (Lib.decodeL (b :: t)).1 = 116
    · rw [if_pos (by omega)]
      have he : escL (b :: t) = (9, 1) := by rw [escL_cons', if_neg (by omega), if_neg (by omega), if_pos (by omega)]
      rw [he, if_neg (show ¬ (1 : Nat) = 0 by decide)] at hr
      refine .inr (.inl ⟨rfl, ?_⟩)
      rw [hr, hd2, show (Lib.decodeL (b :: t)).2 = 1 by omega]
    rw [if_neg (by omega)]
    by_cases hc4 : (Lib.decodeL (b :: t)).1 = 120
    · rw [if_pos (by omega)]
      have he := escL_cons' b t
      rw [if_neg (by omega), if_neg (by omega), if_neg (by omega), if_pos (by omega)] at he
      refine .inr (.inr (.inr (.inr ⟨rfl, by decide, by decide, by decide, ?_⟩)))
      rw [hr, hd2, show (Lib.decodeL (b :: t)).2 = 1 by omega, List.drop_succ_cons, List.drop_zero]
      unfold codedL
      rw [Nat.sub_zero, Nat.add_zero]
      by_cases hq : (hexRun 6 t 0).1 = 0 ∨ t.length ≤ (hexRun 6 t 0).1 ∨ (t.getD (hexRun 6 t 0).1 0).toNat ≠ 92 ∨ 1114111 < (hexRun 6 t 0).2 ∨ (55296 ≤ (hexRun 6 t 0).2 ∧ (hexRun 6 t 0).2 ≤ 57343)
      · rw [if_pos hq] at he
        rw [he, if_pos hq, if_pos rfl]
      · rw [if_neg hq] at he
        rw [he, if_neg hq, if_neg (by simp)]
        show readAt ((b :: t).drop ((hexRun 6 t 0).1 + 2)) _ (pos + ((hexRun 6 t 0).1 + 2)) = _
        rw [show pos + ((hexRun 6 t 0).1 + 2) = pos + 1 + (hexRun 6 t 0).1 + 1 by omega]
        rfl
    rw [if_neg (by omega)]
    have he : escL (b :: t) = (0, 0) := by rw [escL_cons', if_neg (by omega), if_neg (by omega), if_neg (by omega), if_neg (by omega)]
    rw [he, if_pos rfl] at hr
    exact hr
  · subst ha
    rw [if_neg (by decide), if_neg (by decide), if_neg (by decide), if_neg (by decide)]
    rw [hbt] at hr ⊢
    unfold codedL at hr
    by_cases hc1 : (Lib.decodeL (b :: t)).1 = 92
    · rw [if_pos (by omega)]
      have hv : hexV b.toNat < 0 := by rw [show b.toNat = 92 by omega]; decide
      rw [hexRun_stop _ _ _ _ hv] at hr
      have hg : ((b :: t).getD 0 0).toNat = 92 := by show b.toNat = 92; omega
      by_cases hq : 0 < dig ∧ Lib.validRune num = true
      · rw [if_pos hq]
        have hv2 := hq.2
        unfold Lib.validRune at hv2
        rw [decide_eq_true_eq] at hv2
        rw [if_neg (by simp only [hg]; simp only [List.length_cons]; omega)] at hr
        refine .inr (.inl ⟨rfl, ?_⟩)
        rw [hr, hd2, show (Lib.decodeL (b :: t)).2 = 1 by omega]
        rfl
      · rw [if_neg hq]
        rw [if_pos ?_] at hr
        · exact hr
        · by_cases hz : dig = 0
          · left; omega
          · right; right; right
            have hv2 : ¬ (Lib.validRune num = true) := fun e => hq ⟨by omega, e⟩
            unfold Lib.validRune at hv2
            rw [decide_eq_true_eq] at hv2
            show 1114111 < num ∨ (55296 ≤ num ∧ num ≤ 57343)
            omega
    rw [if_neg (by omega)]
    have hg : ((b :: t).getD 0 0).toNat ≠ 92 := by show b.toNat ≠ 92; omega
    by_cases hq : hexC ((Lib.decodeL (b :: t)).1 : Nat) < 0 ∨ dig = 6
    · rw [if_pos hq]
      have hs : hexRun (6 - dig) (b :: t) num = (0, num) := by
        rcases hq with hq | hq
        · refine hexRun_stop _ _ _ _ ?_
          rw [hexV_C]
          rcases hho with ⟨_, he, _⟩ | ⟨_, he⟩
          · rw [he]; exact hq
          · rw [hexC_big _ (by omega)]; decide
        · rw [hq]; rfl
      rw [hs, if_pos (.inr (.inr (.inl hg)))] at hr
      exact hr
    · rw [if_neg hq]
      have hsm : (Lib.decodeL (b :: t)).1 < 103 := by
        rcases Nat.lt_or_ge (Lib.decodeL (b :: t)).1 103 with h | h
        · exact h
        · have := hexC_big ((Lib.decodeL (b :: t)).1 : Nat) (by omega)
          omega
      have hbe : b.toNat = (Lib.decodeL (b :: t)).1 := by omega
      have hv : 0 ≤ hexV b.toNat := by rw [hexV_C, hbe]; omega
      have hrg := hexC_range ((Lib.decodeL (b :: t)).1 : Nat)
      obtain ⟨k, hk⟩ : ∃ k, 6 - dig = k + 1 := ⟨5 - dig, by omega⟩
      have hk2 : 6 - (dig + 1) = k := by omega
      have hvc : hexV b.toNat = hexC ((Lib.decodeL (b :: t)).1 : Nat) := by rw [hexV_C, hbe]
      rw [hk, hexRun_go k b t num hv, hvc] at hr
      dsimp only at hr
      refine .inr (.inr (.inr (.inr ⟨rfl, by omega, ?_, by omega, ?_⟩)))
      · rw [Int.pow_succ]; omega
      rw [hr, hd2, show (Lib.decodeL (b :: t)).2 = 1 by omega, show (b :: t).drop 1 = t from rfl]
      unfold codedL
      rw [hk2, show num * 16 + hexC ((Lib.decodeL (b :: t)).1 : Nat) = 16 * num + hexC ((Lib.decodeL (b :: t)).1 : Nat) by omega]
      generalize (hexRun k t (16 * num + hexC ((Lib.decodeL (b :: t)).1 : Nat))).1 = j
      generalize (hexRun k t (16 * num + hexC ((Lib.decodeL (b :: t)).1 : Nat))).2 = m
      by_cases hz : t.length ≤ j ∨ (t.getD j 0).toNat ≠ 92 ∨ 1114111 < m ∨ (55296 ≤ m ∧ m ≤ 57343)
      · rw [if_pos (.inr (by rw [List.length_cons, List.getD_cons_succ]; omega)), if_pos (.inr hz)]
      · rw [if_neg (by rw [List.length_cons, List.getD_cons_succ]; omega), if_neg (by omega), show pos + (j + 1) + 1 = pos + 1 + j + 1 by omega]
        rfl

theorem QSt.bad {L : List UInt8} {pos : Nat} {a : Int} {text : List UInt8} {num : Int} {dig : Nat} (h : QSt L pos a text num dig) (hne : L.drop pos ≠ [])
    (hb : (Lib.decodeL (L.drop pos)).1 = 65533 ∧ (Lib.decodeL (L.drop pos)).2 = 1) (h2 : a ≠ 2) : readL L = none := by
  obtain ⟨b, t, hbt⟩ : ∃ b t, L.drop pos = b :: t := by
    match hL : L.drop pos, hne with
    | b :: t, _ => exact ⟨b, t, rfl⟩
  have hho := head_of b t
  rw [hbt] at hb
  rcases h with ⟨ha, hp, ht⟩ | ⟨ha, hr⟩ | ⟨ha, hr⟩ | ⟨ha, hr⟩ | ⟨ha, hn0, hn1, hdg, hr⟩
  · subst hp
    rw [List.drop_zero] at hbt
    subst hbt
    exact readL_no _ (by rw [List.headD_cons]; rintro rfl; rw [Lib.decodeL_ascii 39 t (by decide)] at hb; exact absurd hb.1 (by decide))
  · rw [readAt_step _ _ _ hne, hbt, if_neg (by omega), if_neg (by omega), if_pos (.inr hb)] at hr
    exact hr
  · exact absurd ha h2
  · unfold escapedL at hr
    have he : escL (b :: t) = (0, 0) := by rw [escL_cons', if_neg (by omega), if_neg (by omega), if_neg (by omega), if_neg (by omega)]
    rw [hbt, he, if_pos rfl] at hr
    exact hr
  · unfold codedL at hr
    have hv : hexV b.toNat < 0 := by rw [hexV_C, hexC_big _ (by omega)]; decide
    rw [hbt, hexRun_stop _ _ _ _ hv, if_pos (.inr (.inr (.inl (by show b.toNat ≠ 92; omega))))] at hr
    exact hr
theorem QSt.shut {L : List UInt8} {pos : Nat} {text : List UInt8} {num : Int} {dig : Nat} (h : QSt L pos 2 text num dig) (hc : L.drop pos = [] ∨ (Lib.decodeL (L.drop pos)).1 ≠ 39) : readL L = some (text, pos) := by
  rcases h with ⟨ha, _⟩ | ⟨ha, _⟩ | ⟨_, hr⟩ | ⟨ha, _⟩ | ⟨ha, _⟩
  · exact absurd ha (by decide)
  · exact absurd ha (by decide)
  · unfold closedL at hr
    rw [if_neg ?_] at hr
    · exact hr
    · rintro ⟨h1, h2⟩
      rcases hc with hc | hc
      · exact h2 hc
      · match hL : L.drop pos, h2 with
        | b :: t, _ =>
          rw [hL] at h1 hc
          rw [List.headD_cons] at h1
          subst h1
          rw [Lib.decodeL_ascii 39 t (by decide)] at hc
          exact hc rfl
  · exact absurd ha (by decide)
  · exact absurd ha (by decide)
theorem QSt.over {L : List UInt8} {pos : Nat} {a : Int} {text : List UInt8} {num : Int} {dig : Nat} (h : QSt L pos a text num dig) (he : L.drop pos = []) (h2 : a ≠ 2) : readL L = none := by
  rcases h with ⟨ha, hp, ht⟩ | ⟨ha, hr⟩ | ⟨ha, hr⟩ | ⟨ha, hr⟩ | ⟨ha, hn0, hn1, hdg, hr⟩
  · subst hp
    rw [List.drop_zero] at he
    subst he
    exact readL_no _ (by decide)
  · rw [hr, he]; rfl
  · exact absurd ha h2
  · rw [hr, he]; rfl
  · rw [hr, he]
    unfold codedL
    rw [if_pos]
    right; left
    exact Nat.zero_le _
theorem QSt.at {L : List UInt8} {pos : Nat} {a : Int} {text : List UInt8} {num : Int} {dig : Nat} (h : QSt L pos a text num dig) : 0 ≤ a ∧ a ≤ 4 ∧ (a = 4 → 0 ≤ num ∧ num < 16777216 ∧ dig ≤ 6 ∧ (dig ≠ 6 → num < 1048576)) := by
  rcases h with ⟨ha, hp, ht⟩ | ⟨ha, hr⟩ | ⟨ha, hr⟩ | ⟨ha, hr⟩ | ⟨ha, hn0, hn1, hdg, hr⟩
  iterate 4 exact ⟨by omega, by omega, fun h => by omega⟩
  have hd : dig = 0 ∨ dig = 1 ∨ dig = 2 ∨ dig = 3 ∨ dig = 4 ∨ dig = 5 ∨ dig = 6 := by omega
  refine ⟨by omega, by omega, fun _ => ⟨hn0, ?_, hdg, fun h6 => ?_⟩⟩
  · rcases hd with rfl | rfl | rfl | rfl | rfl | rfl | rfl <;> (simp at hn1; omega)
  · rcases hd with rfl | rfl | rfl | rfl | rfl | rfl | rfl <;> (simp at hn1; omega)
end Go.Proofs.YtglaoacdenecfaaDoor
