/-
  Plain mathematics for package token: blanks and remarks ahead, two sources with a line's end between, atoms as they are written; no program in it.
-/
import Derived.Test.YtglaoacdenecfaaDoorTokModel
import Derived.Test.YtglaoacdenecfaaDoorTermTokM
namespace Go.Proofs.YtglaoacdenecfaaDoor
open Go.RowKit

/-! ### What stands behind a line's end changes nothing -/
def Pos (k n n' b c : Nat) : Prop := k < n ∧ b / 64 = 2 ∧ k < n' ∧ c = b
def Neg (k n n' b c : Nat) : Prop := ¬ (k < n ∧ b / 64 = 2) ∧ ¬ (k < n' ∧ c / 64 = 2)
theorem decodeN_same (n n' b0 b1 b2 b3 c1 c2 c3 : Nat) (h : Neg 1 n n' b1 c1 ∨ (Pos 1 n n' b1 c1 ∧ (Neg 2 n n' b2 c2 ∨ (Pos 2 n n' b2 c2 ∧ (Neg 3 n n' b3 c3 ∨ Pos 3 n n' b3 c3))))) : Lib.decodeN n b0 b1 b2 b3 = Lib.decodeN n' b0 c1 c2 c3 := by
  unfold Lib.decodeN
  by_cases h0 : b0 < 128
  · rw [if_pos h0, if_pos h0]
  rw [if_neg h0, if_neg h0]
  rcases h with ⟨a1, a2⟩ | ⟨⟨a1, a2, a3, rfl⟩, h⟩
  · simp only [a1, a2, false_and, and_false, if_false]
  have e1 : (1 < n ∧ c1 / 64 = 2) = True := by simp [a1, a2]
  have e2 : (1 < n' ∧ c1 / 64 = 2) = True := by simp [a3, a2]
  simp only [e1, e2]
  rcases h with ⟨a1, a2⟩ | ⟨⟨a1, a2, a3, rfl⟩, h⟩
  · simp only [a1, a2, false_and, and_false, if_false]
  have e3 : (2 < n ∧ c2 / 64 = 2) = True := by simp [a1, a2]
  have e4 : (2 < n' ∧ c2 / 64 = 2) = True := by simp [a3, a2]
  simp only [e3, e4]
  rcases h with ⟨a1, a2⟩ | ⟨a1, a2, a3, rfl⟩
  · simp only [a1, a2, and_false, if_false]
  have e5 : (3 < n ∧ c3 / 64 = 2) = True := by simp [a1, a2]
  have e6 : (3 < n' ∧ c3 / 64 = 2) = True := by simp [a3, a2]
  simp only [e5, e6]
theorem decode_line (l b : List UInt8) (hl : l ≠ []) : Lib.decodeL (l ++ 10 :: b) = Lib.decodeL l := by
  rw [Lib.decodeL_N, Lib.decodeL_N]
  have e0 : (l ++ 10 :: b).getD 0 0 = l.getD 0 0 := by cases l with | nil => exact absurd rfl hl | cons c t => rfl
  rw [e0]
  have hp : 0 < l.length := List.length_pos_iff.2 hl
  have hlen : (l ++ 10 :: b).length = l.length + (b.length + 1) := by rw [List.length_append, List.length_cons]
  have key : ∀ k, k ≤ l.length → Neg k (l ++ 10 :: b).length l.length ((l ++ 10 :: b).getD k 0).toNat (l.getD k 0).toNat ∨ Pos k (l ++ 10 :: b).length l.length ((l ++ 10 :: b).getD k 0).toNat (l.getD k 0).toNat := fun k hk => by
    by_cases h : k < l.length
    · have e : (l ++ 10 :: b).getD k 0 = l.getD k 0 := by rw [List.getD, List.getD, List.getElem?_append_left h]
      rw [e]
      by_cases h2 : (l.getD k 0).toNat / 64 = 2
      · exact .inr ⟨by omega, h2, h, rfl⟩
      · exact .inl ⟨fun h3 => h2 h3.2, fun h3 => h2 h3.2⟩
    · obtain rfl : k = l.length := by omega
      have e : (l ++ 10 :: b).getD l.length 0 = 10 := by rw [List.getD, List.getElem?_append_right (Nat.le_refl _), Nat.sub_self]; rfl
      rw [e]
      exact .inl ⟨fun h4 => absurd h4.2 (by decide), fun h4 => h h4.1⟩
  refine decodeN_same _ _ _ _ _ _ _ _ _ ?_
  rcases key 1 hp with h1 | h1
  · exact .inl h1
  refine .inr ⟨h1, ?_⟩
  have h2 := h1.2.2.1
  rcases key 2 h2 with h3 | h3
  · exact .inl h3
  refine .inr ⟨h3, ?_⟩
  have h4 := h3.2.2.1
  exact key 3 h4
theorem span_line (P : Int → Bool) (hP : P 10 = false) (l b : List UInt8) : spanL P (l ++ 10 :: b) = spanL P l := by
  unfold spanL
  induction l with
  | nil => rw [List.nil_append, List.takeWhile_cons, if_neg (by show ¬ P ((10 : UInt8).toNat : Int) = true; rw [show ((10 : UInt8).toNat : Int) = 10 from rfl, hP]; decide)]; rfl
  | cons c t ih =>
    rw [List.cons_append, List.takeWhile_cons, List.takeWhile_cons]
    split
    · rw [List.length_cons, List.length_cons, ih]
    · rfl
theorem take_line (l b : List UInt8) (n : Nat) (h : n ≤ l.length) : (l ++ 10 :: b).take n = l.take n := List.take_append_of_le_length h
theorem drop_line (l b : List UInt8) (n : Nat) (h : n ≤ l.length) : (l ++ 10 :: b).drop n = l.drop n ++ 10 :: b := List.drop_append_of_le_length h
theorem word_line (k : Int) (l b : List UInt8) : wordL k (l ++ 10 :: b) = wordL k l := by
  unfold wordL
  rw [span_line nameR (by decide), take_line _ _ _ (spanL_le _ _)]
theorem parts_line (l b : List UInt8) : partsL (l ++ 10 :: b) = partsL l := by
  cases l with
  | nil => show partsL (10 :: b) = true; unfold partsL; rfl
  | cons c t => rfl
theorem signs_line (l b : List UInt8) : signsL (l ++ 10 :: b) = signsL l := by
  unfold signsL
  rw [span_line signR (by decide), take_line _ _ _ (spanL_le _ _), drop_line _ _ _ (spanL_le _ _), parts_line]
theorem take2_line (l b : List UInt8) (x y : UInt8) (hx : x ≠ 10) (hy : y ≠ 10) : (l ++ 10 :: b).take 2 = [x, y] ↔ l.take 2 = [x, y] := by
  match l with
  | [] => simp; intro h; exact absurd h.symm hx
  | [c] => simp; intro _ h; exact absurd h.symm hy
  | c :: d :: t => simp
theorem hexRun_line (b : List UInt8) : ∀ (k : Nat) (t : List UInt8) (n : Int), hexRun k (t ++ 10 :: b) n = hexRun k t n
  | 0, t, n => by cases t <;> rfl
  | k + 1, [], n => by
    show hexRun (k + 1) (10 :: b) n = (0, n)
    exact if_neg (by decide)
  | k + 1, c :: t, n => by
    show (if 0 ≤ hexV c.toNat then ((hexRun k (t ++ 10 :: b) (16 * n + hexV c.toNat)).1 + 1, (hexRun k (t ++ 10 :: b) (16 * n + hexV c.toNat)).2) else (0, n)) = (if 0 ≤ hexV c.toNat then ((hexRun k t (16 * n + hexV c.toNat)).1 + 1, (hexRun k t (16 * n + hexV c.toNat)).2) else (0, n))
    rw [hexRun_line b k t]
theorem getD_line (l b : List UInt8) (n : Nat) (h : n < l.length) : (l ++ 10 :: b).getD n 0 = l.getD n 0 := by
  rw [List.getD, List.getD, List.getElem?_append_left h]
theorem escL_line (l b : List UInt8) (h : (escL l).2 ≠ 0) : escL (l ++ 10 :: b) = escL l := by
  cases l with
  | nil => exact absurd rfl h
  | cons c t =>
    revert h
    rw [List.cons_append]
    unfold escL
    dsimp only
    rw [hexRun_line]
    by_cases h1 : c.toNat = 92 ∨ c.toNat = 39
    · rw [if_pos h1, if_pos h1]; intro _; rfl
    rw [if_neg h1, if_neg h1]
    by_cases h2 : c.toNat = 110
    · rw [if_pos h2, if_pos h2]; intro _; rfl
    rw [if_neg h2, if_neg h2]
    by_cases h3 : c.toNat = 116
    · rw [if_pos h3, if_pos h3]; intro _; rfl
    rw [if_neg h3, if_neg h3]
    by_cases h4 : c.toNat = 120
    · rw [if_pos h4, if_pos h4]
      intro h
      by_cases h5 : (hexRun 6 t 0).1 = 0 ∨ t.length ≤ (hexRun 6 t 0).1 ∨ (t.getD (hexRun 6 t 0).1 0).toNat ≠ 92 ∨ 1114111 < (hexRun 6 t 0).2 ∨ (55296 ≤ (hexRun 6 t 0).2 ∧ (hexRun 6 t 0).2 ≤ 57343)
      · rw [if_pos h5] at h; exact absurd rfl h
      · rw [if_neg h5]
        have h6 : ¬ t.length ≤ (hexRun 6 t 0).1 := fun e => h5 (.inr (.inl e))
        rw [getD_line _ _ _ (by omega), List.length_append, if_neg]
        intro h7
        apply h5
        rcases h7 with h7 | h7 | h7
        · exact .inl h7
        · rw [List.length_cons] at h7; omega
        · exact .inr (.inr h7)
    · rw [if_neg h4, if_neg h4]; intro _; rfl
theorem readAt_line (l b out : List UInt8) (a : Nat) : ∀ r, readAt l out a = some r → readAt (l ++ 10 :: b) out a = some r := by
  induction e : l.length using Nat.strongRecOn generalizing l out a with
  | _ n ih =>
    intro r hr
    by_cases hl : l = []
    · subst hl; cases hr
    · have hp : 0 < l.length := List.length_pos_iff.2 hl
      have hw := Lib.decodeL_width l
      have hle := Lib.decodeL_le l hl
      have hl2 : l ++ 10 :: b ≠ [] := by simp
      rw [readAt_step l out a hl] at hr
      rw [readAt_step _ out a hl2, decode_line l b hl]
      have go : ∀ d o2 a2, 0 < d → d ≤ l.length → readAt (l.drop d) o2 a2 = some r → readAt ((l ++ 10 :: b).drop d) o2 a2 = some r := fun d o2 a2 h0 hd h => by
        rw [drop_line _ _ _ hd]
        exact ih _ (by rw [List.length_drop]; omega) _ _ _ rfl r h
      split at hr
      · rw [if_pos (by assumption)]
        by_cases h2 : l.getD 1 0 = 39 ∧ 1 < l.length
        · rw [if_pos h2] at hr
          rw [if_pos ⟨by rw [getD_line _ _ _ h2.2]; exact h2.1, by rw [List.length_append]; omega⟩]
          exact go 2 _ _ (by omega) (by omega) hr
        · rw [if_neg h2] at hr
          rw [if_neg]
          · exact hr
          · intro h3
            by_cases h4 : 1 < l.length
            · rw [getD_line _ _ _ h4] at h3; exact h2 ⟨h3.1, h4⟩
            · have h5 : l.length = 1 := by omega
              obtain ⟨c, rfl⟩ := List.length_eq_one_iff.1 h5
              exact absurd h3.1 (by rw [List.singleton_append, List.getD_cons_succ, List.getD_cons_zero]; decide)
      · rw [if_neg (by assumption)]
        split at hr
        · rw [if_pos (by assumption)]
          by_cases h0 : (escL (l.drop 1)).2 = 0
          · rw [if_pos h0] at hr; cases hr
          · rw [if_neg h0] at hr
            have h3 := escL_le (l.drop 1)
            rw [List.length_drop] at h3
            rw [drop_line l b 1 (by omega), escL_line _ b h0, if_neg h0]
            exact go _ _ _ (by omega) (by omega) hr
        · rw [if_neg (by assumption)]
          split at hr
          · cases hr
          · rw [if_neg (by assumption)]
            exact go _ _ _ hw hle hr
theorem readL_line (l b : List UInt8) (hl : l ≠ []) (r) (h : readL l = some r) : readL (l ++ 10 :: b) = some r := by
  by_cases h0 : l.headD 0 = 39
  · rw [readL_eq l h0] at h
    rw [readL_eq _ (by cases l with | nil => exact absurd rfl hl | cons c t => exact h0), drop_line _ _ _ (List.length_pos_iff.2 hl)]
    exact readAt_line _ _ _ _ _ h
  · rw [readL_no l h0] at h; cases h
theorem close_line (b : List UInt8) : ∀ (l : List UInt8) (k : Nat), closeL l = some k → closeL (l ++ 10 :: b) = some k
  | [], k, h => by cases h
  | c :: t, k, h => by
    unfold closeL at h
    rw [List.cons_append]
    unfold closeL
    split at h
    · rename_i hc
      rw [if_pos ⟨hc.1, by cases t with | nil => exact absurd rfl hc.2.2 | cons d u => exact hc.2.1, by simp⟩]
      exact h
    · rename_i hc
      rw [if_neg]
      · cases h2 : closeL t with
        | none => rw [h2] at h; cases h
        | some m => rw [h2] at h; rw [close_line b t m h2]; exact h
      · intro h3
        apply hc
        cases t with
        | nil => exact absurd h3.2.1 (by simp)
        | cons d u => exact ⟨h3.1, h3.2.1, by simp⟩
theorem runeB_line (l b : List UInt8) : runeB (l ++ 10 :: b) = runeB l := by
  unfold runeB
  by_cases h1 : l.take 2 = [39, 39]
  · rw [if_pos h1, if_pos ((take2_line l b 39 39 (by decide) (by decide)).2 h1)]
  · rw [if_neg h1, if_neg (fun h => h1 ((take2_line l b 39 39 (by decide) (by decide)).1 h))]
    by_cases hl : l = []
    · subst hl
      rw [if_pos (.inl rfl : _ ∨ _), List.nil_append]
      refine if_pos (.inr (.inl ?_))
      rw [Lib.decodeL_ascii 10 b (by decide)]; decide
    · rw [decode_line l b hl]
      have e : (l ++ 10 :: b = []) = False := by simp
      have e2 : (l = []) = False := by simp [hl]
      simp only [e, e2]
theorem runeNum_line (l b : List UInt8) : runeNum (l ++ 10 :: b) = runeNum l := by
  unfold runeNum
  by_cases h1 : l.take 2 = [48, 39]
  · have h2 : 2 ≤ l.length := by
      have := congrArg List.length h1
      rw [List.length_take] at this
      simp only [List.length_cons, List.length_nil] at this
      omega
    rw [if_pos h1, if_pos ((take2_line l b 48 39 (by decide) (by decide)).2 h1), drop_line _ _ _ h2, runeB_line]
  · rw [if_neg h1, if_neg (fun h => h1 ((take2_line l b 48 39 (by decide) (by decide)).1 h))]
theorem number_line (l b : List UInt8) : numberL (l ++ 10 :: b) = numberL l := by
  unfold numberL
  rw [runeNum_line, span_line digR (by decide), take_line _ _ _ (spanL_le _ _)]
theorem lex_line (l b : List UInt8) (hl : l ≠ []) (h : (lexL l).w ≠ 0) : lexL (l ++ 10 :: b) = lexL l := by
  cases l with
  | nil => exact absurd rfl hl
  | cons c t =>
    have e0 : (c :: t) ++ 10 :: b = c :: (t ++ 10 :: b) := rfl
    have ew := fun k => word_line k (c :: t) b
    have es := signs_line (c :: t) b
    have en := number_line (c :: t) b
    have el := span_line lineR (by decide) (c :: t) b
    have e2 := take2_line (c :: t) b 47 42 (by decide) (by decide)
    rw [e0] at ew es en el e2 ⊢
    revert h
    unfold lexL
    dsimp only
    by_cases c5 : cls (c.toNat : Int) = 5
    · rw [if_pos c5, if_pos c5]; intro _; rfl
    rw [if_neg c5, if_neg c5]
    by_cases c1 : cls (c.toNat : Int) = 1
    · rw [if_pos c1, if_pos c1, ew]; intro _; rfl
    rw [if_neg c1, if_neg c1]
    by_cases c2 : cls (c.toNat : Int) = 2
    · rw [if_pos c2, if_pos c2, ew]; intro _; rfl
    rw [if_neg c2, if_neg c2]
    by_cases c3 : cls (c.toNat : Int) = 3
    · rw [if_pos c3, if_pos c3, en]; intro _; rfl
    rw [if_neg c3, if_neg c3]
    by_cases c4 : cls (c.toNat : Int) = 4
    · rw [if_pos c4, if_pos c4]
      by_cases h2 : (c :: t).take 2 = [47, 42]
      · rw [if_pos h2, if_pos (e2.2 h2)]
        unfold remarkL
        intro h
        cases hc : closeL ((c :: t).drop 2) with
        | none => rw [hc] at h; exact absurd rfl h
        | some k =>
          have h3 : 2 ≤ (c :: t).length := by
            have := congrArg List.length h2
            rw [List.length_take] at this
            simp only [List.length_cons, List.length_nil] at this ⊢
            omega
          have h4 := close_line b _ k hc
          rw [← drop_line _ _ _ h3, e0] at h4
          rw [h4]
      · rw [if_neg h2, if_neg (fun h => h2 (e2.1 h)), es]; intro _; rfl
    rw [if_neg c4, if_neg c4]
    by_cases c8 : cls (c.toNat : Int) = 8
    · rw [if_pos c8, if_pos c8]
      intro h
      cases hr : readL (c :: t) with
      | none =>
        have : namedL (quotedL (c :: t)) = lx0 := by unfold quotedL; rw [hr]; unfold namedL; dsimp only; split <;> rfl
        rw [this] at h; exact absurd rfl h
      | some r =>
        have h4 := readL_line (c :: t) b hl r hr
        rw [e0] at h4
        unfold quotedL
        rw [h4, hr]
    rw [if_neg c8, if_neg c8]
    by_cases c6 : cls (c.toNat : Int) = 6 ∨ cls (c.toNat : Int) = 7
    · rw [if_pos c6, if_pos c6]; intro _; rfl
    rw [if_neg c6, if_neg c6, el]
    intro _; rfl
theorem lex_blank (b : UInt8) (t : List UInt8) (h : cls (b.toNat : Int) = 5) : lexL (b :: t) = ⟨0, [], 0, 1⟩ := by
  unfold lexL
  dsimp only
  rw [if_pos h]
theorem cut_blank (b : UInt8) (t : List UInt8) (h : cls (b.toNat : Int) = 5) (o : Nat) (g : Bool) : cutL (b :: t) o g = cutL t (o + 1) false := by
  rw [cutL_step _ _ _ (by simp), lex_blank b t h, if_neg (by decide), if_pos rfl]
  rfl
/-- Two sources, a line's end between. -/
theorem cut_join {l : List UInt8} {o : Nat} {t : Bool} {T : List Tok} (b : List UInt8) (h : cutL l o t = .good T) : cutL (l ++ 10 :: b) o t = (cutL b (o + l.length + 1) false).pre T.dropLast := by
  have hle := lexL_le
  revert h
  refine cut_ind (P := fun l o t T => cutL (l ++ 10 :: b) o t = (cutL b (o + l.length + 1) false).pre T.dropLast) ?_ ?_ ?_ l o t T
  · intro o t
    show cutL (10 :: b) o t = (cutL b (o + 0 + 1) false).pre []
    rw [cut_blank 10 b (by decide), pre_nil]
  · intro l o t T hl hw hk _ h
    have h2 := hle l
    rw [List.length_drop, ← drop_line _ _ _ h2, show o + (lexL l).w + (l.length - (lexL l).w) + 1 = o + l.length + 1 from by omega] at h
    rw [cutL_step _ _ _ (by simp), lex_line l b hl hw, if_neg hw, if_pos hk, h]
  · intro l o t U hl hw hk hc h
    have h2 := hle l
    rw [List.length_drop, ← drop_line _ _ _ h2, show o + (lexL l).w + (l.length - (lexL l).w) + 1 = o + l.length + 1 from by omega] at h
    rw [cutL_step _ _ _ (by simp), lex_line l b hl hw, if_neg hw, if_neg hk, h, pre_pre]
    congr 1
    cases U with
    | nil => exact absurd rfl (cut_ne hc)
    | cons u U => rfl

/-! ### Blanks and remarks ahead -/
def aheadL : Nat → List UInt8
  | 0 => [32]
  | 1 => [10]
  | 2 => [37, 32, 120, 32, 46, 32, 39, 32, 121, 10]
  | 3 => [47, 42, 32, 97, 10, 32, 39, 42, 47]
  | _ => [47, 42, 42, 47, 9]
theorem cut_ahead (k : Nat) (l : List UInt8) : cutL (aheadL k ++ l) 0 false = (cutL l 0 false).sh (aheadL k).length := by
  have h0 := cutL_shift l (aheadL k).length 0 false
  rw [← h0, Nat.zero_add]
  clear h0
  match k with
  | 0 => exact cut_blank 32 l (by decide) 0 false
  | 1 => exact cut_blank 10 l (by decide) 0 false
  | 2 =>
    show cutL (37 :: 32 :: 120 :: 32 :: 46 :: 32 :: 39 :: 32 :: 121 :: 10 :: l) 0 false = cutL l 10 false
    have e : lexL (37 :: 32 :: 120 :: 32 :: 46 :: 32 :: 39 :: 32 :: 121 :: 10 :: l) = ⟨0, [], 0, 9⟩ := rfl
    rw [cutL_step _ _ _ (by simp), e, if_neg (by decide), if_pos rfl]
    exact cut_blank 10 l (by decide) 9 false
  | 3 =>
    show cutL (47 :: 42 :: 32 :: 97 :: 10 :: 32 :: 39 :: 42 :: 47 :: l) 0 false = cutL l 9 false
    have e : lexL (47 :: 42 :: 32 :: 97 :: 10 :: 32 :: 39 :: 42 :: 47 :: l) = ⟨0, [], 0, 9⟩ := by
      have hc : closeL (32 :: 97 :: 10 :: 32 :: 39 :: 42 :: 47 :: l) = some 7 := by simp [closeL]
      have e1 : lexL (47 :: 42 :: 32 :: 97 :: 10 :: 32 :: 39 :: 42 :: 47 :: l) = remarkL (47 :: 42 :: 32 :: 97 :: 10 :: 32 :: 39 :: 42 :: 47 :: l) := rfl
      rw [e1]
      unfold remarkL
      rw [show (47 :: 42 :: 32 :: 97 :: 10 :: 32 :: 39 :: 42 :: 47 :: l).drop 2 = 32 :: 97 :: 10 :: 32 :: 39 :: 42 :: 47 :: l from rfl, hc]
    rw [cutL_step _ _ _ (by simp), e, if_neg (by decide), if_pos rfl]
    rfl
  | k + 4 =>
    show cutL (47 :: 42 :: 42 :: 47 :: 9 :: l) 0 false = cutL l 5 false
    have e : lexL (47 :: 42 :: 42 :: 47 :: 9 :: l) = ⟨0, [], 0, 4⟩ := by
      have hc : closeL (42 :: 47 :: 9 :: l) = some 2 := by simp [closeL]
      have e1 : lexL (47 :: 42 :: 42 :: 47 :: 9 :: l) = remarkL (47 :: 42 :: 42 :: 47 :: 9 :: l) := rfl
      rw [e1]
      unfold remarkL
      rw [show (47 :: 42 :: 42 :: 47 :: 9 :: l).drop 2 = 42 :: 47 :: 9 :: l from rfl, hc]
    rw [cutL_step _ _ _ (by simp), e, if_neg (by decide), if_pos rfl]
    exact cut_blank 9 l (by decide) 4 false

/-! ### Atoms as they are written -/
theorem span_all (P : Int → Bool) (h32 : P 32 = false) (l : List UInt8) (h : l.all (fun b => P (b.toNat : Int)) = true) : spanL P (l ++ [32]) = l.length := by
  unfold spanL
  induction l with
  | nil => rw [List.nil_append, List.takeWhile_cons, if_neg (by show ¬ P ((32 : UInt8).toNat : Int) = true; rw [show ((32 : UInt8).toNat : Int) = 32 from rfl, h32]; decide)]
  | cons b t ih =>
    rw [List.all_cons, Bool.and_eq_true] at h
    rw [List.cons_append, List.takeWhile_cons, if_pos h.1, List.length_cons, List.length_cons, ih h.2]
theorem cut_one (w s : List UInt8) (k : Int) (hk : k ≠ 0) (hw : w ≠ []) (h : lexL (w ++ [32]) = ⟨k, s, 0, w.length⟩) : cutL (w ++ [32]) 0 false = .good [⟨k, s, 0, 0⟩, ⟨9, [], 0, w.length + 1⟩] := by
  rw [cutL_step _ _ _ (by simp), h]
  dsimp only
  have hp : w.length ≠ 0 := fun e => hw (List.eq_nil_of_length_eq_zero e)
  rw [if_neg hp, if_neg hk, List.drop_append_of_le_length (Nat.le_refl _), List.drop_length, List.nil_append]
  have ek : kindL false ⟨k, s, 0, w.length⟩ = k := by unfold kindL; rw [if_neg (by simp)]
  rw [ek, cut_blank 32 [] (by decide), cutL_nil]
  show Out.good _ = _
  rw [Nat.zero_add]; rfl
theorem cut_atom (s : List UInt8) (hc : checkL s = true) (h1 : s ≠ [91, 93]) (h2 : s ≠ [123, 125]) : ∃ k : Int, (k = 1 ∨ k = 2 ∨ k = 3) ∧ cutL (writeL s ++ [32]) 0 false = .good [⟨k, s, 0, 0⟩, ⟨9, [], 0, (writeL s).length + 1⟩] := by
  have hv : Lib.validD s = true := by unfold checkL at hc; rw [Bool.and_eq_true] at hc; exact hc.2
  cases hb : bareL s with
  | false =>
    have e : writeL s = quoteL s := by unfold writeL; rw [if_pos hc, hb]; rfl
    rw [e]
    refine ⟨2, .inr (.inl rfl), cut_one _ _ 2 (by decide) (by unfold quoteL; simp) ?_⟩
    have hr := read_quote s [32] hv (by decide)
    have e2 : quoteL s ++ [32] = 39 :: ((runesL s).flatMap escR ++ [39] ++ [32]) := rfl
    rw [e2] at hr ⊢
    unfold lexL
    dsimp only
    rw [if_neg (by decide), if_neg (by decide), if_neg (by decide), if_neg (by decide), if_neg (by decide), if_pos (by decide)]
    unfold quotedL
    rw [hr]
    unfold namedL
    dsimp only
    rw [if_pos hc]
  | true =>
    have e : writeL s = s := by unfold writeL; rw [if_pos hc, if_pos hb]
    rw [e]
    obtain ⟨_, hne, h3⟩ := bare_parts hb
    have go : (∀ c ∈ runesL s, nameR c = true ∨ signR c = true) → runesL s = s.map (fun b => (b.toNat : Int)) := runes_bytes _ s (Nat.le_refl _) hv
    rcases h3 with h3 | h3 | rfl | rfl | ⟨h4, h5⟩ | h5
    · exact absurd h3 h1
    · exact absurd h3 h2
    · exact ⟨1, .inl rfl, cut_one _ _ 1 (by decide) (by simp) rfl⟩
    · exact ⟨1, .inl rfl, cut_one _ _ 1 (by decide) (by simp) rfl⟩
    · have e2 := go (fun c hc => .inl (List.all_eq_true.1 h5 c hc))
      rw [e2] at h4 h5
      have h6 : s.all (fun b => nameR (b.toNat : Int)) = true := by rw [List.all_map] at h5; exact h5
      have h7 := span_all nameR (by decide) s h6
      refine ⟨1, .inl rfl, cut_one _ _ 1 (by decide) hne ?_⟩
      cases s with
      | nil => exact absurd rfl hne
      | cons b t =>
        have h8 : cls (b.toNat : Int) = 1 := h4
        have e3 : lexL ((b :: t) ++ [32]) = namedL (wordL 1 ((b :: t) ++ [32])) := by
          rw [List.cons_append]
          unfold lexL
          dsimp only
          rw [h8, if_neg (by decide), if_pos rfl]
        rw [e3]
        unfold wordL
        rw [h7, List.take_append_of_le_length (Nat.le_refl _), List.take_length]
        unfold namedL
        dsimp only
        rw [if_pos hc]
    · have e2 := go (fun c hc => .inr (List.all_eq_true.1 h5 c hc))
      rw [e2] at h5
      have h6 : s.all (fun b => signR (b.toNat : Int)) = true := by rw [List.all_map] at h5; exact h5
      have h7 := span_all signR (by decide) s h6
      have hb2 := hb
      unfold bareL at hb2
      simp only [Bool.and_eq_true, Bool.or_eq_true, Bool.not_eq_true', Bool.or_eq_false_iff, decide_eq_true_eq, decide_eq_false_iff_not] at hb2
      obtain ⟨⟨_, ⟨_, n46⟩, n2⟩, _⟩ := hb2
      refine ⟨3, .inr (.inr rfl), cut_one _ _ 3 (by decide) hne ?_⟩
      cases s with
      | nil => exact absurd rfl hne
      | cons b t =>
        have h8 : cls (b.toNat : Int) = 4 := by
          rw [List.all_cons, Bool.and_eq_true] at h6
          have := h6.1
          unfold signR at this
          exact of_decide_eq_true this
        have n3 : ¬ ((b :: t) ++ [32]).take 2 = [47, 42] := by
          cases t with
          | nil => simp
          | cons c u => exact n2
        have e3 : lexL ((b :: t) ++ [32]) = namedL (signsL ((b :: t) ++ [32])) := by
          rw [List.cons_append] at n3 ⊢
          unfold lexL
          dsimp only
          rw [h8, if_neg (by decide), if_neg (by decide), if_neg (by decide), if_neg (by decide), if_pos rfl, if_neg n3]
        rw [e3]
        unfold signsL
        rw [h7, List.take_append_of_le_length (Nat.le_refl _), List.take_length, if_neg (fun h => n46 h.1)]
        unfold namedL
        dsimp only
        rw [if_pos hc]
theorem cut_brackets : cutL (writeL [91, 93] ++ [32]) 0 false = .good [⟨6, [91], 0, 0⟩, ⟨6, [93], 0, 1⟩, ⟨9, [], 0, 3⟩] ∧ cutL (writeL [123, 125] ++ [32]) 0 false = .good [⟨6, [123], 0, 0⟩, ⟨6, [125], 0, 1⟩, ⟨9, [], 0, 3⟩] := by
  have e1 : writeL [91, 93] = [91, 93] := by decide +kernel
  have e2 : writeL [123, 125] = [123, 125] := by decide +kernel
  rw [e1, e2]
  exact ⟨by kernel_rfl, by kernel_rfl⟩
end Go.Proofs.YtglaoacdenecfaaDoor
