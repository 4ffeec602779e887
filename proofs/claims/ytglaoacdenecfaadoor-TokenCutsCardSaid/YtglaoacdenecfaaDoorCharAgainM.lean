/-
  Plain mathematics: what is read is valid, and lies within the text; no program in it.
-/
import Derived.Test.YtglaoacdenecfaaDoorCharBackN
namespace Go.Proofs.YtglaoacdenecfaaDoor
open Go.RowKit

theorem not_bad_enc {c : Nat} (h : Scalar c) : ¬ (c = 65533 ∧ (encL (c : Int)).length = 1) := by
  rintro ⟨h1, h2⟩
  subst h1
  rw [encL_of h, if_neg (by omega), if_neg (by omega), if_pos (by omega)] at h2
  simp at h2
theorem encL_ne (c : Int) (t : List UInt8) : encL c ++ t ≠ [] := fun e => by
  have h4 := (encL_length c).1
  have h5 := congrArg List.length e
  rw [List.length_append, List.length_nil] at h5
  omega
theorem valid_enc {c : Nat} (h : Scalar c) (t : List UInt8) (ht : Lib.validD t = true) : Lib.validD (encL (c : Int) ++ t) = true := by
  rw [valid_step _ (encL_ne _ _), decodeL_encL h t]
  dsimp only
  rw [if_neg (not_bad_enc h), List.drop_append]
  simpa using ht
theorem valid_append (a b : List UInt8) (ha : Lib.validD a = true) (hb : Lib.validD b = true) : Lib.validD (a ++ b) = true := by
  induction h : a.length using Nat.strongRecOn generalizing a with
  | _ n ih =>
    by_cases hl : a = []
    · subst hl; exact hb
    · obtain ⟨hbad, hv2⟩ := valid_cons hl ha
      obtain ⟨hs, he⟩ := encL_decodeL a hl hbad
      have hw := Lib.decodeL_width a
      have hp : 0 < a.length := List.length_pos_iff.2 hl
      have hi := ih _ (by rw [List.length_drop]; omega) (a.drop (Lib.decodeL a).2) hv2 rfl
      have e : a ++ b = encL ((Lib.decodeL a).1 : Int) ++ (a.drop (Lib.decodeL a).2 ++ b) := by
        rw [he, ← List.append_assoc, List.take_append_drop]
      rw [e]
      exact valid_enc hs _ hi
theorem valid_snoc (a : List UInt8) {c : Nat} (ha : Lib.validD a = true) (h : Scalar c) : Lib.validD (a ++ encL (c : Int)) = true := by
  have := valid_enc h [] rfl
  rw [List.append_nil] at this
  exact valid_append a _ ha this

theorem esc_scalar (l : List UInt8) (h : (escL l).2 ≠ 0) : ∃ c : Nat, (escL l).1 = (c : Int) ∧ Scalar c := by
  cases l with
  | nil => exact absurd rfl h
  | cons b t =>
    have h0 := hexRun_nonneg 6 t 0 (by decide)
    have hb := b.toNat_lt
    revert h
    unfold escL
    dsimp only
    split
    · intro _; exact ⟨b.toNat, rfl, .inl (by omega)⟩
    · split
      · intro _; exact ⟨10, rfl, .inl (by decide)⟩
      · split
        · intro _; exact ⟨9, rfl, .inl (by decide)⟩
        · split
          · split
            · intro h; exact absurd rfl h
            · rename_i hc
              intro _
              refine ⟨(hexRun 6 t 0).2.toNat, by show (hexRun 6 t 0).2 = _; omega, ?_⟩
              unfold Scalar
              omega
          · intro h; exact absurd rfl h

theorem read_within (l out : List UInt8) (a : Nat) (t : List UInt8) (n : Nat) (ho : Lib.validD out = true) (h : readAt l out a = some (t, n)) : Lib.validD t = true ∧ a + 1 ≤ n ∧ n ≤ a + l.length := by
  induction hl : l.length using Nat.strongRecOn generalizing l out a with
  | _ m ih =>
    by_cases hne : l = []
    · subst hne; cases h
    · have hp : 0 < l.length := List.length_pos_iff.2 hne
      have hw := Lib.decodeL_width l
      have hw2 := Lib.decodeL_le l hne
      have go : ∀ k o b, 1 ≤ k → k ≤ l.length → b = a + k → Lib.validD o = true → readAt (l.drop k) o b = some (t, n) → Lib.validD t = true ∧ a + 1 ≤ n ∧ n ≤ a + m := fun k o b hk1 hk2 hb hv hr => by
        have hd : (l.drop k).length = l.length - k := List.length_drop
        have h9 := ih _ (by omega) (l.drop k) o b hv hr rfl
        exact ⟨h9.1, by omega, by omega⟩
      rw [readAt_step l out a hne] at h
      split at h
      · split at h
        · rename_i h2
          exact go 2 _ _ (by omega) (by omega) rfl (valid_snoc out (c := 39) ho (.inl (by decide))) h
        · simp only [Option.some.injEq, Prod.mk.injEq] at h
          obtain ⟨rfl, rfl⟩ := h
          exact ⟨ho, by omega, by omega⟩
      · split at h
        · split at h
          · cases h
          · rename_i h2
            obtain ⟨c, hc, hs⟩ := esc_scalar (l.drop 1) h2
            have hle := escL_le (l.drop 1)
            rw [List.length_drop] at hle
            rw [hc] at h
            exact go _ _ _ (by omega) (by omega) (by omega) (valid_snoc out ho hs) h
        · split at h
          · cases h
          · rename_i h3
            have hbad : ¬ ((Lib.decodeL l).1 = 65533 ∧ (Lib.decodeL l).2 = 1) := fun h4 => h3 (.inr h4)
            obtain ⟨hs, _⟩ := encL_decodeL l hne hbad
            exact go _ _ _ hw hw2 rfl (valid_snoc out ho hs) h
theorem readL_within (l t : List UInt8) (n : Nat) (h : readL l = some (t, n)) : Lib.validD t = true ∧ 2 ≤ n ∧ n ≤ l.length := by
  by_cases hd : l.headD 0 = 39
  · rw [readL_eq l hd] at h
    have hp : 0 < l.length := by
      cases l with
      | nil => cases hd
      | cons b t => exact Nat.succ_pos _
    have := read_within _ _ _ _ _ rfl h
    rw [List.length_drop] at this
    exact ⟨this.1, by omega, by omega⟩
  · rw [readL_no l hd] at h
    cases h

theorem read_grow (l out : List UInt8) (a : Nat) (t : List UInt8) (n : Nat) (h : readAt l out a = some (t, n)) : t.length ≤ out.length + 4 * l.length := by
  induction hl : l.length using Nat.strongRecOn generalizing l out a with
  | _ m ih =>
    by_cases hne : l = []
    · subst hne; cases h
    · have hp : 0 < l.length := List.length_pos_iff.2 hne
      have hw := Lib.decodeL_width l
      have go : ∀ k x b, 1 ≤ k → x.length ≤ 4 → readAt (l.drop k) (out ++ x) b = some (t, n) → t.length ≤ out.length + 4 * m := fun k x b hk hx hr => by
        have hd : (l.drop k).length = l.length - k := List.length_drop
        have h9 := ih _ (by omega) (l.drop k) _ b hr rfl
        rw [List.length_append] at h9
        omega
      rw [readAt_step l out a hne] at h
      split at h
      · split at h
        · exact go 2 [39] _ (by omega) (by decide) h
        · simp only [Option.some.injEq, Prod.mk.injEq] at h
          obtain ⟨rfl, rfl⟩ := h
          omega
      · split at h
        · split at h
          · cases h
          · exact go _ _ _ (by omega) (encL_length _).2 h
        · split at h
          · cases h
          · exact go _ _ _ hw (encL_length _).2 h
theorem readL_grow (l t : List UInt8) (n : Nat) (h : readL l = some (t, n)) : t.length ≤ 4 * l.length := by
  by_cases hd : l.headD 0 = 39
  · rw [readL_eq l hd] at h
    have h9 := read_grow _ _ _ _ _ h
    rw [List.length_drop, List.length_nil] at h9
    omega
  · rw [readL_no l hd] at h
    cases h
end Go.Proofs.YtglaoacdenecfaaDoor
