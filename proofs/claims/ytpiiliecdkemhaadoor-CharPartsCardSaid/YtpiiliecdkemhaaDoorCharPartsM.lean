/-
  Plain mathematics: what may stand behind a bare atom; no program in it.
-/
import Derived.Test.YtpiiliecdkemhaaDoorCharAgainM
namespace Go.Proofs.YtpiiliecdkemhaaDoor
open Go.RowKit

theorem cls_out (c : Int) (h : c < 0 ∨ 126 < c) : cls c = 0 := by
  unfold cls
  rw [if_neg (by omega), if_neg (by omega), if_neg (by omega), if_neg (by omega), if_neg (by omega), if_neg (by omega), if_neg (by omega), if_neg (by omega)]
/-- What string(c) is the bytes of. -/
theorem enc_norm (c : Int) : ∃ n : Nat, Scalar n ∧ encL c = encL (n : Int) ∧ cls c = cls (n : Int) ∧ (c = 42 ↔ n = 42) := by
  by_cases hv : Utf8.valid c = true
  · have h := hv
    unfold Utf8.valid at h
    simp at h
    refine ⟨c.toNat, by unfold Scalar; omega, ?_, ?_, by omega⟩
    · rw [show ((c.toNat : Nat) : Int) = c by omega]
    · rw [show ((c.toNat : Nat) : Int) = c by omega]
  · have h := hv
    unfold Utf8.valid at h
    simp at h
    refine ⟨65533, .inr ⟨by decide, by decide⟩, ?_, ?_, by omega⟩
    · have hv2 : Utf8.valid ((65533 : Nat) : Int) = true := by decide
      unfold encL Utf8.encode
      dsimp only
      rw [if_neg hv, if_pos hv2]
      rfl
    · rw [cls_out c (by omega), cls_out _ (by omega)]
theorem runes_append (a b : List UInt8) (ha : Lib.validD a = true) : runesL (a ++ b) = runesL a ++ runesL b := by
  induction h : a.length using Nat.strongRecOn generalizing a with
  | _ n ih =>
    by_cases hl : a = []
    · subst hl; rfl
    · obtain ⟨hbad, hv2⟩ := valid_cons hl ha
      obtain ⟨hs, he⟩ := encL_decodeL a hl hbad
      have hw := Lib.decodeL_width a
      have hw2 := Lib.decodeL_le a hl
      have hp : 0 < a.length := List.length_pos_iff.2 hl
      have hi := ih _ (by rw [List.length_drop]; omega) (a.drop (Lib.decodeL a).2) hv2 rfl
      have e : a ++ b = encL ((Lib.decodeL a).1 : Int) ++ (a.drop (Lib.decodeL a).2 ++ b) := by
        rw [he, ← List.append_assoc, List.take_append_drop]
      have hd := decodeL_encL hs (a.drop (Lib.decodeL a).2 ++ b)
      rw [e, runesL_cons _ (encL_ne _ _), hd]
      dsimp only
      rw [List.drop_append, List.drop_length, Nat.sub_self, List.drop_zero, List.nil_append, hi, runesL_cons a hl]
      rfl
theorem runes_enc {n : Nat} (h : Scalar n) : runesL (encL (n : Int)) = [(n : Int)] := by
  have hd := decodeL_encL h []
  have hne := encL_ne (n : Int) []
  rw [List.append_nil] at hd hne
  rw [runesL_cons _ hne, hd]
  dsimp only
  rw [List.drop_length]
  rfl
theorem enc_head42 {n : Nat} (h : Scalar n) (t : List UInt8) (hh : encL (n : Int) = 42 :: t) : n = 42 := by
  have hd := decodeL_encL h []
  rw [List.append_nil, hh, Lib.decodeL_ascii 42 t (by decide)] at hd
  exact (Prod.mk.inj hd).1.symm

theorem take2_split (l x : List UInt8) (h0 : l ≠ []) (h2 : l.take 2 ≠ [47, 42]) (hx : x ≠ []) (e : (l ++ x).take 2 = [47, 42]) : l = [47] ∧ ∃ t, x = 42 :: t := by
  match l, h0 with
  | [b], _ =>
    cases x with
    | nil => exact absurd rfl hx
    | cons y t =>
      simp at e
      obtain ⟨rfl, rfl⟩ := e
      exact ⟨rfl, t, rfl⟩
  | b1 :: b2 :: t, _ => exact absurd (by simpa using e) h2
theorem two_split (l x : List UInt8) (a b : UInt8) (h0 : l ≠ []) (hx : x ≠ []) (e : l ++ x = [a, b]) : l = [a] := by
  match l, h0 with
  | [c], _ =>
    simp at e
    rw [e.1]
  | c1 :: c2 :: t, _ =>
    simp at e
    exact absurd e.2.2.2 hx
/-- The kinds of bare texts. -/
theorem bare_kinds {l : List UInt8} (h : bareL l = true) : checkL l = true ∧ l ≠ [] ∧ l ≠ [46] ∧ l.take 2 ≠ [47, 42] ∧
    (l = [91, 93] ∨ l = [123, 125] ∨ l = [33] ∨ l = [59] ∨ (cls ((runesL l).headD 0) = 1 ∧ (runesL l).all nameR = true) ∨ (runesL l).all signR = true) := by
  unfold bareL at h
  simp only [Bool.and_eq_true, Bool.or_eq_true, Bool.not_eq_true', Bool.or_eq_false_iff, decide_eq_true_eq, decide_eq_false_iff_not] at h
  obtain ⟨⟨h1, ⟨h2, h3⟩, h4⟩, h5⟩ := h
  refine ⟨h1, h2, h3, h4, ?_⟩
  rcases h5 with ((((h5 | h5) | h5) | h5) | h5) | h5
  · exact .inl h5
  · exact .inr (.inl h5)
  · exact .inr (.inr (.inl h5))
  · exact .inr (.inr (.inr (.inl h5)))
  · exact .inr (.inr (.inr (.inr (.inl h5))))
  · exact .inr (.inr (.inr (.inr (.inr h5))))

/-- What stands behind a bare atom: the document's words. -/
def partsX (l : List UInt8) (c : Int) : Bool :=
  if l = [47] ∧ c = 42 then false
  else if cls ((runesL l).headD 0) = 1 then nameR c
  else if cls ((runesL l).headD 0) = 4 then signR c
  else false

theorem bare_restB {l : List UInt8} (hc : checkL l = true) (h0 : l ≠ []) (h1 : l ≠ [46]) (h2 : l.take 2 ≠ [47, 42]) (h3 : l ≠ [91, 93]) (h4 : l ≠ [123, 125]) (h5 : l ≠ [33]) (h6 : l ≠ [59]) :
    bareL l = ((decide (cls ((runesL l).headD 0) = 1) && (runesL l).all nameR) || (runesL l).all signR) := by
  unfold bareL
  rw [hc, decide_eq_false h0, decide_eq_false h1, decide_eq_false h2, decide_eq_false h3, decide_eq_false h4, decide_eq_false h5, decide_eq_false h6]
  simp
theorem cls1 : cls 91 = 7 ∧ cls 123 = 7 ∧ cls 33 = 6 ∧ cls 59 = 6 := by decide
set_option maxRecDepth 10000 in
theorem parts_bare (l : List UInt8) (c : Int) (hb : bareL l = true) (hlen : l.length ≤ 250) : bareL (l ++ encL c) = partsX l c := by
  obtain ⟨n, hs, henc, hcls, h42⟩ := enc_norm c
  obtain ⟨hck, h0, h1, h2, hk⟩ := bare_kinds hb
  have hv : Lib.validD l = true := by unfold checkL at hck; rw [Bool.and_eq_true] at hck; exact hck.2
  have hel := encL_length (n : Int)
  have hp : 0 < l.length := List.length_pos_iff.2 h0
  have hnR : nameR c = nameR (n : Int) := by unfold nameR; rw [hcls]
  have hsR : signR c = signR (n : Int) := by unfold signR; rw [hcls]
  have hL : (l ++ encL (n : Int)).length = l.length + (encL (n : Int)).length := List.length_append
  have hr := runes_append l (encL (n : Int)) hv
  rw [runes_enc hs] at hr
  obtain ⟨r0, rt, hrs⟩ : ∃ r0 rt, runesL l = r0 :: rt := ⟨_, _, runesL_cons l h0⟩
  have hck2 : checkL (l ++ encL (n : Int)) = true := by
    unfold checkL
    rw [Bool.and_eq_true, decide_eq_true_eq]
    exact ⟨by omega, valid_append l _ hv (by have := valid_enc hs [] rfl; rw [List.append_nil] at this; exact this)⟩
  rw [henc]
  unfold partsX
  rw [hnR, hsR]
  by_cases hcm : l = [47] ∧ c = 42
  · rw [if_pos hcm]
    obtain ⟨rfl, hc⟩ := hcm
    have hn : n = 42 := h42.1 hc
    subst hn
    decide +kernel
  rw [if_neg hcm]
  have hxne : encL (n : Int) ≠ [] := fun e => by rw [e] at hel; simp at hel
  have g2 : (l ++ encL (n : Int)).take 2 ≠ [47, 42] := fun e => by
    obtain ⟨e1, t, e2⟩ := take2_split l _ h0 h2 hxne e
    exact hcm ⟨e1, h42.2 (enc_head42 hs t e2)⟩
  have one : ∀ b : UInt8, cls (b.toNat : Int) = 7 → b.toNat < 128 → l ≠ [b] := fun b hc hb2 e => by
    have hrb : runesL l = [(b.toNat : Int)] := by
      rw [e, runesL_cons _ (by simp), Lib.decodeL_ascii b [] hb2]
      rfl
    rw [hrb] at hk
    rcases hk with h | h | h | h | ⟨h, _⟩ | h
    · rw [e] at h; cases h
    · rw [e] at h; cases h
    · rw [e] at h; cases h; revert hc; decide
    · rw [e] at h; cases h; revert hc; decide
    · simp only [List.headD_cons] at h; omega
    · simp [signR] at h; omega
  have two : ∀ x y : UInt8, cls (x.toNat : Int) = 7 → x.toNat < 128 → l ++ encL (n : Int) ≠ [x, y] := fun x y hc hx e => one x hc hx (two_split l _ x y h0 hxne e)
  have lone : ∀ x : UInt8, l ++ encL (n : Int) ≠ [x] := fun x e => by
    have hle := congrArg List.length e
    rw [hL] at hle
    simp at hle
    omega
  have hh1 : (runesL l).headD 0 = r0 := by rw [hrs]; rfl
  have hh2 : (runesL (l ++ encL (n : Int))).headD 0 = r0 := by rw [hr, hrs]; rfl
  rw [bare_restB hck2 (fun e => h0 (List.append_eq_nil_iff.1 e).1) (lone 46) g2 (two 91 93 (by decide) (by decide)) (two 123 125 (by decide) (by decide)) (lone 33) (lone 59), hh1, hh2, hr, hrs]
  simp only [List.cons_append, List.all_cons, List.all_append, List.all_nil, Bool.and_true]
  rw [hh1, hrs] at hk
  simp only [List.all_cons, Bool.and_eq_true] at hk
  have hsp : ∀ (x : UInt8) (t : List UInt8), l = x :: t → x.toNat < 128 → r0 = (x.toNat : Int) := fun x t e hx => by
    have h9 := runesL_cons l h0
    rw [hrs, e, Lib.decodeL_ascii x t hx] at h9
    exact (List.cons.inj h9).1
  by_cases f1 : cls r0 = 1
  · rw [if_pos f1]
    have hns : signR r0 = false := by unfold signR; rw [decide_eq_false_iff_not]; omega
    have hall : nameR r0 = true ∧ rt.all nameR = true := by
      rcases hk with h | h | h | h | h | h
      · rw [hsp 91 _ h (by decide)] at f1; exact absurd f1 (by decide)
      · rw [hsp 123 _ h (by decide)] at f1; exact absurd f1 (by decide)
      · rw [hsp 33 _ h (by decide)] at f1; exact absurd f1 (by decide)
      · rw [hsp 59 _ h (by decide)] at f1; exact absurd f1 (by decide)
      · exact h.2
      · rw [hns] at h; cases h.1
    rw [decide_eq_true f1, hall.1, hall.2, hns]
    simp
  · rw [if_neg f1, decide_eq_false f1]
    by_cases f4 : cls r0 = 4
    · rw [if_pos f4]
      have hall : signR r0 = true ∧ rt.all signR = true := by
        rcases hk with h | h | h | h | h | h
        · rw [hsp 91 _ h (by decide)] at f4; exact absurd f4 (by decide)
        · rw [hsp 123 _ h (by decide)] at f4; exact absurd f4 (by decide)
        · rw [hsp 33 _ h (by decide)] at f4; exact absurd f4 (by decide)
        · rw [hsp 59 _ h (by decide)] at f4; exact absurd f4 (by decide)
        · exact absurd h.1 f1
        · exact h
      rw [hall.1, hall.2]
      simp
    · rw [if_neg f4]
      have hns : signR r0 = false := by unfold signR; rw [decide_eq_false_iff_not]; exact f4
      rw [hns]
      simp
end Go.Proofs.YtpiiliecdkemhaaDoor
