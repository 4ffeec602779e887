/-
  Plain mathematics: an atom's text in quotes is read as what it was, whatever stands behind it but a quote; no program in it.
-/
import Derived.Test.YtglaoacdenecfaaDoorCharBackM
namespace Go.Proofs.YtglaoacdenecfaaDoor
open Go.RowKit

theorem escR_split (n : Nat) : ((n = 39 ∨ n = 92 ∨ n = 10 ∨ n = 9) ∧ ∃ b : UInt8, escR n = [92, b] ∧ ∀ t, escL (b :: t) = ((n : Int), 1)) ∨
    (n ≠ 39 ∧ n ≠ 92 ∧ n < 32 ∧ escR n = 92 :: 120 :: (hexL n ++ [92])) ∨ (32 ≤ n ∧ n ≠ 39 ∧ n ≠ 92 ∧ escR n = encL n) := by
  unfold escR
  by_cases h1 : n = 39
  · subst h1
    exact .inl ⟨.inl rfl, 39, by rw [if_pos (.inl rfl)]; rfl, fun t => rfl⟩
  by_cases h2 : n = 92
  · subst h2
    exact .inl ⟨.inr (.inl rfl), 92, by rw [if_pos (.inr rfl)]; rfl, fun t => rfl⟩
  rw [if_neg (by omega)]
  by_cases h3 : n = 10
  · subst h3
    exact .inl ⟨.inr (.inr (.inl rfl)), 110, rfl, fun t => rfl⟩
  rw [if_neg (by omega)]
  by_cases h4 : n = 9
  · subst h4
    exact .inl ⟨.inr (.inr (.inr rfl)), 116, rfl, fun t => rfl⟩
  rw [if_neg (by omega)]
  by_cases h5 : n < 32
  · rw [if_pos (by omega)]
    exact .inr (.inl ⟨h1, h2, h5, rfl⟩)
  · rw [if_neg (by omega)]
    exact .inr (.inr ⟨by omega, h1, h2, rfl⟩)

theorem hexV_hexD : ∀ k : Fin 16, hexV (hexD k.val).toNat = (k.val : Int) := by decide
theorem hexV_D (k : Nat) (h : k < 16) : hexV (hexD k).toNat = (k : Int) := hexV_hexD ⟨k, h⟩
theorem hexV_92 : ¬ 0 ≤ hexV (92 : UInt8).toNat := by decide
theorem hexRun_hexL (n : Nat) (hn : n < 32) (t : List UInt8) : hexRun 6 (hexL n ++ 92 :: t) 0 = ((hexL n).length, (n : Int)) := by
  unfold hexL
  by_cases h : n < 16
  · rw [if_pos h]
    have e := hexV_D n h
    show hexRun 6 (hexD n :: 92 :: t) 0 = (1, (n : Int))
    rw [show hexRun 6 (hexD n :: 92 :: t) 0 = ((hexRun 5 (92 :: t) (16 * 0 + hexV (hexD n).toNat)).1 + 1, (hexRun 5 (92 :: t) (16 * 0 + hexV (hexD n).toNat)).2) from if_pos (by omega)]
    rw [show hexRun 5 (92 :: t) (16 * 0 + hexV (hexD n).toNat) = (0, 16 * 0 + hexV (hexD n).toNat) from if_neg hexV_92, e]
    simp
  · rw [if_neg h]
    have e1 := hexV_D (n / 16) (by omega)
    have e2 := hexV_D (n % 16) (by omega)
    show hexRun 6 (hexD (n / 16) :: hexD (n % 16) :: 92 :: t) 0 = (2, (n : Int))
    rw [show hexRun 6 (hexD (n / 16) :: hexD (n % 16) :: 92 :: t) 0 = ((hexRun 5 (hexD (n % 16) :: 92 :: t) (16 * 0 + hexV (hexD (n / 16)).toNat)).1 + 1, (hexRun 5 (hexD (n % 16) :: 92 :: t) (16 * 0 + hexV (hexD (n / 16)).toNat)).2) from if_pos (by omega)]
    rw [show hexRun 5 (hexD (n % 16) :: 92 :: t) (16 * 0 + hexV (hexD (n / 16)).toNat) = ((hexRun 4 (92 :: t) (16 * (16 * 0 + hexV (hexD (n / 16)).toNat) + hexV (hexD (n % 16)).toNat)).1 + 1, (hexRun 4 (92 :: t) (16 * (16 * 0 + hexV (hexD (n / 16)).toNat) + hexV (hexD (n % 16)).toNat)).2) from if_pos (by omega)]
    rw [show hexRun 4 (92 :: t) (16 * (16 * 0 + hexV (hexD (n / 16)).toNat) + hexV (hexD (n % 16)).toNat) = (0, 16 * (16 * 0 + hexV (hexD (n / 16)).toNat) + hexV (hexD (n % 16)).toNat) from if_neg hexV_92, e1, e2]
    apply Prod.ext
    · rfl
    · show 16 * (16 * 0 + ((n / 16 : Nat) : Int)) + ((n % 16 : Nat) : Int) = (n : Int)
      omega
theorem escL_hex (n : Nat) (hn : n < 32) (t : List UInt8) : escL (120 :: (hexL n ++ 92 :: t)) = ((n : Int), (hexL n).length + 2) := by
  have hr := hexRun_hexL n hn t
  have hlen : 1 ≤ (hexL n).length := by unfold hexL; split <;> simp
  have hg : (hexL n ++ 92 :: t).getD (hexL n).length 0 = 92 := by
    rw [List.getD, List.getElem?_append_right (Nat.le_refl _), Nat.sub_self]
    rfl
  show (if (hexRun 6 (hexL n ++ 92 :: t) 0).1 = 0 ∨ _ then ((0 : Int), (0 : Nat)) else _) = _
  rw [hr]
  dsimp only
  rw [if_neg]
  rw [hg, List.length_append, List.length_cons]
  simp only [show ((92 : UInt8).toNat ≠ 92) = False from by simp, false_or]
  omega

theorem readAt_back (x out : List UInt8) (a : Nat) : readAt (92 :: x) out a = if (escL x).2 = 0 then none else readAt (x.drop (escL x).2) (out ++ encL (escL x).1) (a + (escL x).2 + 1) := by
  rw [readAt_step _ _ _ (by simp), Lib.decodeL_ascii 92 x (by decide)]
  dsimp only
  rw [if_neg (by decide), if_pos (by decide), List.drop_succ_cons, List.drop_zero, List.drop_succ_cons]

/-- One rune in quotes is read as that rune. -/
theorem read_rune (n : Nat) (hs : Scalar n) (t out : List UInt8) (a : Nat) : readAt (escR (n : Int) ++ t) out a = readAt t (out ++ encL (n : Int)) (a + (escR (n : Int)).length) := by
  rcases escR_split n with ⟨h, b, he, hb⟩ | ⟨h1, h2, h3, he⟩ | ⟨h1, h2, h3, he⟩
  · rw [he, List.cons_append, List.cons_append, List.nil_append, readAt_back, hb t]
    dsimp only
    rw [if_neg (by simp), List.drop_succ_cons, List.drop_zero]
    rfl
  · rw [he, List.cons_append, List.cons_append, List.append_assoc, List.singleton_append, readAt_back, escL_hex n h3 t]
    dsimp only
    have hd : (120 :: (hexL n ++ 92 :: t)).drop ((hexL n).length + 2) = t := by
      rw [List.drop_succ_cons, List.drop_append]
      simp
    rw [if_neg (by simp), hd, List.length_cons, List.length_cons, List.length_append, List.length_singleton]
    rfl
  · rw [he]
    have hne : encL (n : Int) ++ t ≠ [] := fun e => by
      have h4 := (encL_length (n : Int)).1
      have h5 := congrArg List.length e
      rw [List.length_append, List.length_nil] at h5
      omega
    rw [readAt_step _ _ _ hne, decodeL_encL hs t]
    dsimp only
    have hn1 : ¬ (n < 32 ∨ (n = 65533 ∧ (encL (n : Int)).length = 1)) := by
      rintro (h | ⟨h, h5⟩)
      · omega
      · rw [encL_of hs, if_neg (by omega), if_neg (by omega), if_pos (by omega)] at h5
        simp at h5
    rw [if_neg h2, if_neg h3, if_neg hn1, List.drop_append]
    simp

theorem read_flat (l rest : List UInt8) (hv : Lib.validD l = true) (hr : rest.headD 0 ≠ 39) (out : List UInt8) (a : Nat) :
    readAt ((runesL l).flatMap escR ++ 39 :: rest) out a = some (out ++ l, a + ((runesL l).flatMap escR).length + 1) := by
  induction h : l.length using Nat.strongRecOn generalizing l out a with
  | _ n ih =>
    by_cases hl : l = []
    · subst hl
      rw [runesL_nil]
      show readAt (39 :: rest) out a = some (out ++ [], a + 0 + 1)
      rw [readAt_step _ _ _ (by simp), Lib.decodeL_ascii 39 rest (by decide)]
      dsimp only
      rw [if_pos (by decide), List.append_nil]
      refine if_neg ?_
      rintro ⟨h1, h2⟩
      apply hr
      cases rest with
      | nil => simp at h2
      | cons b t => exact h1
    · obtain ⟨hb, hv2⟩ := valid_cons hl hv
      obtain ⟨hs, he⟩ := encL_decodeL l hl hb
      have hw := Lib.decodeL_width l
      have hp : 0 < l.length := List.length_pos_iff.2 hl
      rw [runesL_cons l hl, List.flatMap_cons, List.append_assoc, read_rune _ hs, ih _ (by rw [List.length_drop]; omega) (l.drop (Lib.decodeL l).2) hv2 _ _ rfl, he]
      rw [List.length_append, List.append_assoc, List.take_append_drop]
      rw [show ∀ x y z : Nat, x + y + z + 1 = x + (y + z) + 1 from fun x y z => by omega]

/-- What is written in quotes is read as what it was, whatever stands behind it but a quote. -/
theorem read_quote (l behind : List UInt8) (hv : Lib.validD l = true) (hr : behind.headD 0 ≠ 39) : readL (quoteL l ++ behind) = some (l, (quoteL l).length) := by
  have e : quoteL l ++ behind = 39 :: ((runesL l).flatMap escR ++ 39 :: behind) := by
    unfold quoteL
    simp
  rw [e, readL_eq _ rfl, List.drop_one, List.tail_cons, read_flat l behind hv hr]
  unfold quoteL
  congr 1
  rw [List.nil_append, List.length_cons, List.length_append]
  congr 1
  simp
  omega
end Go.Proofs.YtglaoacdenecfaaDoor
