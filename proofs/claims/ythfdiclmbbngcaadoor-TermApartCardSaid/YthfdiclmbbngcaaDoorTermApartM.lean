/-
  Plain mathematics for the texts of terms: two terms that may be have the same text just if they are the same.
-/
import Derived.Test.YthfdiclmbbngcaaDoorTermTokM
import Derived.Test.YthfdiclmbbngcaaDoorTermText
import Derived.Test.YthfdiclmbbngcaaDoorTermModelA
namespace Go.Proofs.YthfdiclmbbngcaaDoor
open Go.RowKit

/-- Nothing, or what begins with a closing bracket or a comma. -/
def Stops (r : List UInt8) : Prop := r = [] ∨ ∃ b t, r = b :: t ∧ (b.toNat = 41 ∨ b.toNat = 44)
theorem Stops.ends {r : List UInt8} (h : Stops r) : Ends r := by
  rcases h with h | ⟨b, t, h, hb⟩
  · exact .inl h
  · refine .inr ⟨b, t, h, ?_⟩
    unfold endB
    rw [decide_eq_true_eq]; omega
theorem Stops.no40 {x : List UInt8} (h : Stops (40 :: x)) : False := by
  rcases h with h | ⟨b, t, h, hb⟩
  · cases h
  · injection h with h _
    subst h
    exact absurd hb (by decide)
theorem may_more {t : Tm} (h : t.may = true) : (t.kind = 2 → checkL t.name.data.toList = true) ∧ (t.kind = 4 → checkL t.name.data.toList = true ∧ 1 ≤ t.args.length) := by
  rw [Tm.may_eq] at h
  unfold mayK at h
  refine ⟨fun hk => ?_, fun hk => ?_⟩
  · rw [hk, if_neg (by decide), if_pos rfl] at h
    simp only [Bool.and_eq_true, decide_eq_true_eq] at h
    exact h.2.1
  · rw [hk, if_neg (by decide), if_neg (by decide), if_neg (by decide), if_pos rfl] at h
    simp only [Bool.and_eq_true, decide_eq_true_eq] at h
    exact ⟨h.2.1, h.2.2.1⟩
/-- A term's first token, and what stands behind it. -/
def Tm.tk (t : Tm) : Tk := if t.kind = 1 then .var t.n else if t.kind = 3 then .num t.n else .atom t.name.data.toList
def Tm.behind (t : Tm) : List UInt8 := if t.kind = 4 then 40 :: ((Tm.commas t.args).drop 1 ++ [41]) else []
theorem txt_split {t : Tm} (h : t.may = true) : t.txt = t.tk.txt ++ t.behind := by
  rw [t.txt_eq]
  unfold txtK Tm.tk Tm.behind
  rcases may_parts h with ⟨hk, _⟩ | ⟨hk, _⟩ | ⟨hk, _⟩ | ⟨hk, _⟩
  · rw [if_pos hk, if_pos hk, if_neg (by omega), List.append_nil]; rfl
  · rw [if_neg (by omega), if_neg (by omega), if_pos hk, if_neg (by omega), if_neg (by omega), if_neg (by omega), List.append_nil]; rfl
  · rw [if_neg (by omega), if_pos hk, if_neg (by omega), if_pos hk, if_neg (by omega), List.append_nil]; rfl
  · rw [if_neg (by omega), if_neg (by omega), if_neg (by omega), if_neg (by omega), if_neg (by omega), if_pos hk]; rfl
theorem tk_ok {t : Tm} (h : t.may = true) (hn : t.n64) : t.tk.ok := by
  have h1 := ((Tm.n64_eq t).1 hn).1
  have h2 := may_more h
  unfold Tm.tk
  rcases may_parts h with ⟨hk, _⟩ | ⟨hk, _⟩ | ⟨hk, _⟩ | ⟨hk, _⟩
  · rw [if_pos hk]; exact h1
  · rw [if_neg (by omega), if_neg (by omega)]; exact h2.1 hk
  · rw [if_neg (by omega), if_pos hk]; exact h1
  · rw [if_neg (by omega), if_neg (by omega)]; exact (h2.2 hk).1
theorem behind_ends (t : Tm) {r : List UInt8} (hr : Stops r) : Ends (t.behind ++ r) := by
  unfold Tm.behind
  split
  · exact .inr ⟨40, _, rfl, by decide⟩
  · exact hr.ends
theorem stops_commas (l : List Tm) (u : List UInt8) : Stops (Tm.commas l ++ 41 :: u) := by
  cases l with
  | nil => exact .inr ⟨41, u, rfl, .inl (by decide)⟩
  | cons t l => exact .inr ⟨44, _, rfl, .inr (by decide)⟩
theorem commas_drop {l : List Tm} (h : 1 ≤ l.length) : Tm.commas l = 44 :: (Tm.commas l).drop 1 := by
  cases l with
  | nil => simp at h
  | cons t l => rfl
def ApartAt (m : Nat) : Prop := ∀ (a b : Tm) (u v : List UInt8), a.size ≤ m → a.may = true → b.may = true → a.n64 → b.n64 → Stops u → Stops v → a.txt ++ u = b.txt ++ v → a = b ∧ u = v
theorem n64s_cons {t : Tm} {l : List Tm} (h : Tm.n64s (t :: l)) : t.n64 ∧ Tm.n64s l := h
theorem lists_apart {m : Nat} (H : ApartAt m) : ∀ (l l' : List Tm) (u v : List UInt8), Tm.sizes l ≤ m → Tm.mays l = true → Tm.mays l' = true → Tm.n64s l → Tm.n64s l' → Tm.commas l ++ 41 :: u = Tm.commas l' ++ 41 :: v → l = l' ∧ u = v
  | [], [], u, v, _, _, _, _, _, h => by
    have h' : 41 :: u = 41 :: v := h
    injection h' with _ h'
    exact ⟨rfl, h'⟩
  | [], t :: l, u, v, _, _, _, _, _, h => by
    have h' : 41 :: u = 44 :: ((t.txt ++ Tm.commas l) ++ 41 :: v) := h
    injection h' with h' _
    exact absurd h' (by decide)
  | t :: l, [], u, v, _, _, _, _, _, h => by
    have h' : 44 :: ((t.txt ++ Tm.commas l) ++ 41 :: u) = 41 :: v := h
    injection h' with h' _
    exact absurd h' (by decide)
  | t :: l, t' :: l', u, v, hs, hm, hm', hn, hn', h => by
    have h' : 44 :: ((t.txt ++ Tm.commas l) ++ 41 :: u) = 44 :: ((t'.txt ++ Tm.commas l') ++ 41 :: v) := h
    injection h' with _ h'
    rw [List.append_assoc, List.append_assoc] at h'
    rw [Tm.sizes_cons] at hs
    obtain ⟨m1, m2⟩ := mays_cons hm
    obtain ⟨m1', m2'⟩ := mays_cons hm'
    obtain ⟨n1, n2⟩ := n64s_cons hn
    obtain ⟨n1', n2'⟩ := n64s_cons hn'
    obtain ⟨e1, e2⟩ := H t t' _ _ (by omega) m1 m1' n1 n1' (stops_commas l u) (stops_commas l' v) h'
    obtain ⟨e3, e4⟩ := lists_apart H l l' u v (by omega) m2 m2' n2 n2' e2
    exact ⟨by rw [e1, e3], e4⟩
theorem apart_all (m : Nat) : ApartAt m := by
  induction m with
  | zero => intro a b u v h; have := a.size_pos; omega
  | succ m ih =>
    intro a b u v hs ma mb na nb hu hv h
    rw [txt_split ma, txt_split mb, List.append_assoc, List.append_assoc] at h
    obtain ⟨h1, h2⟩ := Tk.cut (tk_ok ma na) (tk_ok mb nb) (behind_ends a hu) (behind_ends b hv) h
    have h3 := Tk.tell (tk_ok ma na) (tk_ok mb nb) h1
    have n1 := (Tm.n64_eq a).1 na
    have n2 := (Tm.n64_eq b).1 nb
    have hsz := a.size_eq
    unfold Tm.tk at h3
    unfold Tm.behind at h2
    rcases may_parts ma with ⟨ka, sa, la⟩ | ⟨ka, xa, la⟩ | ⟨ka, sa, la⟩ | ⟨ka, xa, la⟩
    · rw [if_pos ka] at h3
      rcases may_parts mb with ⟨kb, sb, lb⟩ | ⟨kb, xb, lb⟩ | ⟨kb, sb, lb⟩ | ⟨kb, xb, lb⟩
      · rw [if_pos kb] at h3
        rw [if_neg (by omega), if_neg (by omega)] at h2
        injection h3 with h3
        exact ⟨Tm.ext5 (by rw [ka, kb]) (nil_name sa sb) h3 (by rw [la, lb]), h2⟩
      · rw [if_neg (by omega), if_neg (by omega)] at h3; cases h3
      · rw [if_neg (by omega), if_pos kb] at h3; cases h3
      · rw [if_neg (by omega), if_neg (by omega)] at h3; cases h3
    · rw [if_neg (by omega), if_neg (by omega)] at h3
      rcases may_parts mb with ⟨kb, sb, lb⟩ | ⟨kb, xb, lb⟩ | ⟨kb, sb, lb⟩ | ⟨kb, xb, lb⟩
      · rw [if_pos kb] at h3; cases h3
      · rw [if_neg (by omega), if_neg (by omega)] at h3
        rw [if_neg (by omega), if_neg (by omega)] at h2
        injection h3 with h3
        exact ⟨Tm.ext5 (by rw [ka, kb]) (name_ext h3) (by rw [xa, xb]) (by rw [la, lb]), h2⟩
      · rw [if_neg (by omega), if_pos kb] at h3; cases h3
      · rw [if_neg (by omega), if_pos kb] at h2
        have h2' : u = 40 :: (((Tm.commas b.args).drop 1 ++ [41]) ++ v) := h2
        rw [h2'] at hu
        exact (Stops.no40 hu).elim
    · rw [if_neg (by omega), if_pos ka] at h3
      rcases may_parts mb with ⟨kb, sb, lb⟩ | ⟨kb, xb, lb⟩ | ⟨kb, sb, lb⟩ | ⟨kb, xb, lb⟩
      · rw [if_pos kb] at h3; cases h3
      · rw [if_neg (by omega), if_neg (by omega)] at h3; cases h3
      · rw [if_neg (by omega), if_pos kb] at h3
        rw [if_neg (by omega), if_neg (by omega)] at h2
        injection h3 with h3
        exact ⟨Tm.ext5 (by rw [ka, kb]) (nil_name sa sb) h3 (by rw [la, lb]), h2⟩
      · rw [if_neg (by omega), if_neg (by omega)] at h3; cases h3
    · rw [if_neg (by omega), if_neg (by omega)] at h3
      rcases may_parts mb with ⟨kb, sb, lb⟩ | ⟨kb, xb, lb⟩ | ⟨kb, sb, lb⟩ | ⟨kb, xb, lb⟩
      · rw [if_pos kb] at h3; cases h3
      · rw [if_pos ka, if_neg (by omega)] at h2
        have h2' : 40 :: (((Tm.commas a.args).drop 1 ++ [41]) ++ u) = v := h2
        rw [← h2'] at hv
        exact (Stops.no40 hv).elim
      · rw [if_neg (by omega), if_pos kb] at h3; cases h3
      · rw [if_neg (by omega), if_neg (by omega)] at h3
        rw [if_pos ka, if_pos kb] at h2
        injection h3 with h3
        have h4 : 40 :: (((Tm.commas a.args).drop 1 ++ [41]) ++ u) = 40 :: (((Tm.commas b.args).drop 1 ++ [41]) ++ v) := h2
        injection h4 with _ h4
        rw [List.append_assoc, List.append_assoc] at h4
        have h5 : Tm.commas a.args ++ 41 :: u = Tm.commas b.args ++ 41 :: v := by
          rw [commas_drop ((may_more ma).2 ka).2, commas_drop ((may_more mb).2 kb).2]
          exact congrArg (List.cons 44) h4
        obtain ⟨e1, e2⟩ := lists_apart ih a.args b.args u v (by omega) la lb n1.2 n2.2 h5
        exact ⟨Tm.ext5 (by rw [ka, kb]) (name_ext h3) (by rw [xa, xb]) e1, e2⟩
/-- Same text, same term. -/
theorem txt_apart {a b : Tm} (ma : a.may = true) (mb : b.may = true) (na : a.n64) (nb : b.n64) (h : a.txt = b.txt) : a = b :=
  (apart_all a.size a b [] [] (Nat.le_refl _) ma mb na nb (.inl rfl) (.inl rfl) (by rw [h])).1
end Go.Proofs.YthfdiclmbbngcaaDoor
