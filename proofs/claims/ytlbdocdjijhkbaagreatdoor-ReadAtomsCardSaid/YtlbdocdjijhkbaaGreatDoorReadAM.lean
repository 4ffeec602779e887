/-
  Plain mathematics for the law ReadAtoms: an atom as it is written is read as that atom; no program in it.
-/
import Derived.Test.YtlbdocdjijhkbaaGreatDoorReadPl
import Derived.Test.YtlbdocdjijhkbaaGreatDoorTokM
namespace Go.Proofs.YtlbdocdjijhkbaaGreatDoor
open Go.RowKit

theorem span_full (P : Int → Bool) (l : List UInt8) (h : l.all (fun b => P (b.toNat : Int)) = true) : spanL P l = l.length := by
  unfold spanL
  induction l with
  | nil => rfl
  | cons b t ih =>
    rw [List.all_cons, Bool.and_eq_true] at h
    rw [List.takeWhile_cons, if_pos h.1, List.length_cons, List.length_cons, ih h.2]
theorem cut_one0 (w s : List UInt8) (k : Int) (hk : k ≠ 0) (hw : w ≠ []) (h : lexL w = ⟨k, s, 0, w.length⟩) : cutL w 0 false = .good [⟨k, s, 0, 0⟩, ⟨9, [], 0, w.length⟩] := by
  rw [cutL_step _ _ _ hw, h]
  dsimp only
  have hp : w.length ≠ 0 := fun e => hw (List.eq_nil_of_length_eq_zero e)
  rw [if_neg hp, if_neg hk, List.drop_length]
  have ek : kindL false ⟨k, s, 0, w.length⟩ = k := by unfold kindL; rw [if_neg (by simp)]
  rw [ek, cutL_nil]
  show Out.good _ = _
  rw [Nat.zero_add]; rfl
theorem cut_atom0 (s : List UInt8) (hc : checkL s = true) (h1 : s ≠ [91, 93]) (h2 : s ≠ [123, 125]) : ∃ k : Int, (k = 1 ∨ k = 2 ∨ k = 3) ∧ cutL (writeL s) 0 false = .good [⟨k, s, 0, 0⟩, ⟨9, [], 0, (writeL s).length⟩] := by
  have hv : Lib.validD s = true := by unfold checkL at hc; rw [Bool.and_eq_true] at hc; exact hc.2
  cases hb : bareL s with
  | false =>
    have e : writeL s = quoteL s := by unfold writeL; rw [if_pos hc, hb]; rfl
    rw [e]
    refine ⟨2, .inr (.inl rfl), cut_one0 _ _ 2 (by decide) (by unfold quoteL; simp) ?_⟩
    have hr := read_quote s [] hv (by decide)
    rw [List.append_nil] at hr
    have e2 : quoteL s = 39 :: ((runesL s).flatMap escR ++ [39]) := rfl
    rw [e2] at hr ⊢
    unfold lexL
    dsimp only
    rw [if_neg (by decide), if_neg (by decide), if_neg (by decide), if_neg (by decide), if_neg (by decide), if_pos (by decide)]
    unfold quotedL
    rw [hr]
    unfold namedL
    dsimp only
    rw [if_pos hc]
  | true =>
    have e : writeL s = s := by unfold writeL; rw [if_pos hc, if_pos hb]
    rw [e]
    obtain ⟨_, hne, h3⟩ := bare_parts hb
    have go : (∀ c ∈ runesL s, nameR c = true ∨ signR c = true) → runesL s = s.map (fun b => (b.toNat : Int)) := runes_bytes _ s (Nat.le_refl _) hv
    rcases h3 with h3 | h3 | rfl | rfl | ⟨h4, h5⟩ | h5
    · exact absurd h3 h1
    · exact absurd h3 h2
    · exact ⟨1, .inl rfl, cut_one0 _ _ 1 (by decide) (by simp) rfl⟩
    · exact ⟨1, .inl rfl, cut_one0 _ _ 1 (by decide) (by simp) rfl⟩
    · have e2 := go (fun c hc => .inl (List.all_eq_true.1 h5 c hc))
      rw [e2] at h4 h5
      have h6 : s.all (fun b => nameR (b.toNat : Int)) = true := by rw [List.all_map] at h5; exact h5
      have h7 := span_full nameR s h6
      refine ⟨1, .inl rfl, cut_one0 _ _ 1 (by decide) hne ?_⟩
      cases s with
      | nil => exact absurd rfl hne
      | cons b t =>
        have h8 : cls (b.toNat : Int) = 1 := h4
        have e3 : lexL (b :: t) = namedL (wordL 1 (b :: t)) := by
          unfold lexL
          dsimp only
          rw [h8, if_neg (by decide), if_pos rfl]
        rw [e3]
        unfold wordL
        rw [h7, List.take_length]
        unfold namedL
        dsimp only
        rw [if_pos hc]
    · have e2 := go (fun c hc => .inr (List.all_eq_true.1 h5 c hc))
      rw [e2] at h5
      have h6 : s.all (fun b => signR (b.toNat : Int)) = true := by rw [List.all_map] at h5; exact h5
      have h7 := span_full signR s h6
      have hb2 := hb
      unfold bareL at hb2
      simp only [Bool.and_eq_true, Bool.or_eq_true, Bool.not_eq_true', Bool.or_eq_false_iff, decide_eq_true_eq, decide_eq_false_iff_not] at hb2
      obtain ⟨⟨_, ⟨_, n46⟩, n2⟩, _⟩ := hb2
      refine ⟨3, .inr (.inr rfl), cut_one0 _ _ 3 (by decide) hne ?_⟩
      cases s with
      | nil => exact absurd rfl hne
      | cons b t =>
        have h8 : cls (b.toNat : Int) = 4 := by
          rw [List.all_cons, Bool.and_eq_true] at h6
          have := h6.1
          unfold signR at this
          exact of_decide_eq_true this
        have n3 : ¬ (b :: t).take 2 = [47, 42] := by
          cases t with
          | nil => simp
          | cons c u => exact n2
        have e3 : lexL (b :: t) = namedL (signsL (b :: t)) := by
          unfold lexL
          dsimp only
          rw [h8, if_neg (by decide), if_neg (by decide), if_neg (by decide), if_neg (by decide), if_pos rfl, if_neg n3]
        rw [e3]
        unfold signsL
        rw [h7, List.take_length, if_neg (fun h => n46 h.1)]
        unfold namedL
        dsimp only
        rw [if_pos hc]
/-- A lone atom's token. -/
theorem atom_alone (k : Int) (s : List UInt8) (n : Nat) (hk : k = 1 ∨ k = 2 ∨ k = 3) : queryT [⟨k, s, 0, 0⟩, ⟨9, [], 0, n⟩] = .ok (atomT s, []) := by
  have hb : beginR (termR 1) 1200 [⟨k, s, 0, 0⟩, ⟨9, [], 0, n⟩] [] = .ok (atomT s, 0) [⟨9, [], 0, n⟩] [] := by
    unfold beginR
    have ha : (⟨k, s, 0, 0⟩ : Tok).isAtom = true := by rcases hk with rfl | rfl | rfl <;> rfl
    rw [fstT_cons, if_pos ha]
    unfold namedR
    rw [List.tail_cons, fstT_cons, fstT_cons, if_neg (by show ¬ (9 : Int) = 7; decide), if_neg (by intro h; exact absurd h.2.2.1 (by show ¬ (9 : Int) = 5; decide))]
    split
    · rfl
    · rw [if_pos (by rfl)]
  have ht : termR 2 1200 [⟨k, s, 0, 0⟩, ⟨9, [], 0, n⟩] [] = .ok (atomT s) [⟨9, [], 0, n⟩] [] := by
    unfold termR
    rw [hb]
    rfl
  unfold queryT wholeR
  rw [show ([⟨k, s, 0, 0⟩, ⟨9, [], 0, n⟩] : List Tok).length = 2 from rfl, ht]
  dsimp only
  rw [if_neg (fun c => by cases c.2), if_neg (by show ¬ 60 < 1; decide)]
  rfl
theorem query_atom (s : List UInt8) (hc : checkL s = true) (hl : (writeL s).length ≤ 4096) : queryL (writeL s) = .ok (atomT s, []) := by
  by_cases h1 : s = [91, 93]
  · subst h1
    rw [show writeL [91, 93] = [91, 93] from by decide +kernel]
    kernel_rfl
  by_cases h2 : s = [123, 125]
  · subst h2
    rw [show writeL [123, 125] = [123, 125] from by decide +kernel]
    kernel_rfl
  obtain ⟨k, hk, h3⟩ := cut_atom0 s hc h1 h2
  unfold queryL cutThen
  rw [if_neg (by omega), h3]
  exact atom_alone k s _ hk
end Go.Proofs.YtlbdocdjijhkbaaGreatDoor
