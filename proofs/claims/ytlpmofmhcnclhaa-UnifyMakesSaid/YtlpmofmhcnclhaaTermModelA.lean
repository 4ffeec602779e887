/-
  Joined texts: TermOrdM, TermTurnM.
-/
import Derived.Test.YtlpmofmhcnclhaaTermCmp
import Derived.Test.YtlpmofmhcnclhaaTermMay
import Derived.Test.YtlpmofmhcnclhaaTermVariant
import Derived.Test.YtlpmofmhcnclhaaTermMk

/-
  Plain mathematics: the standard order of terms that may be is one: 0 just if they are the same, turned round it is turned round, and it goes on from two to three.
-/
namespace Go.Proofs.Ytlpmofmhcnclhaa
open Go.RowKit

theorem cmpV_anti (a b : Int) : cmpV b a = -cmpV a b := by unfold cmpV; split <;> split <;> (try split) <;> omega
theorem cmpV_zero {a b : Int} (h : cmpV a b = 0) : a = b := by unfold cmpV at h; split at h <;> (try split at h) <;> omega
theorem cmpV_self (a : Int) : cmpV a a = 0 := by unfold cmpV; rw [if_neg (by omega), if_neg (by omega)]
theorem cmpV_le {a b : Int} : cmpV a b ≤ 0 ↔ a ≤ b := by unfold cmpV; split <;> (try split) <;> omega
theorem cmpV_range (a b : Int) : -1 ≤ cmpV a b ∧ cmpV a b ≤ 1 := by unfold cmpV; split <;> (try split) <;> omega
theorem textV_self (a : List UInt8) : textV a a = 0 := by unfold textV; rw [if_neg (List.lt_irrefl a), if_pos rfl]
theorem textV_zero {a b : List UInt8} (h : textV a b = 0) : a = b := by
  unfold textV at h
  split at h
  · omega
  · split at h
    · assumption
    · omega
theorem textV_range (a b : List UInt8) : -1 ≤ textV a b ∧ textV a b ≤ 1 := by unfold textV; split <;> (try split) <;> omega
theorem textV_le {a b : List UInt8} : textV a b ≤ 0 ↔ a ≤ b := by
  unfold textV
  constructor
  · intro h
    split at h
    · exact List.le_of_lt (by assumption)
    · split at h
      · next he => subst he; exact List.le_refl _
      · omega
  · intro h
    split
    · omega
    · split
      · omega
      · next h1 h2 => exact absurd (List.le_antisymm h (List.not_lt.1 h1)) h2
theorem textV_anti (a b : List UInt8) : textV b a = -textV a b := by
  by_cases h : a = b
  · subst h; rw [textV_self]; rfl
  · by_cases h1 : a < b
    · have h2 : ¬ b < a := fun h3 => List.lt_irrefl a (List.lt_trans h1 h3)
      unfold textV
      rw [if_pos h1, if_neg h2, if_neg (fun e => h e.symm)]; rfl
    · have h2 : b < a := by
        rcases Classical.em (b < a) with h3 | h3
        · exact h3
        · exact absurd (List.le_antisymm (List.not_lt.1 h3) (List.not_lt.1 h1)) h
      unfold textV
      rw [if_pos h2, if_neg h1, if_neg h]
theorem may_parts {t : Tm} (h : t.may = true) : (t.kind = 1 ∧ t.name.data.toList = [] ∧ t.args = []) ∨ (t.kind = 2 ∧ t.n = 0 ∧ t.args = []) ∨ (t.kind = 3 ∧ t.name.data.toList = [] ∧ t.args = []) ∨ (t.kind = 4 ∧ t.n = 0 ∧ Tm.mays t.args = true) := by
  rw [t.may_eq] at h
  unfold mayK at h
  split at h
  · next h1 =>
    rw [Bool.and_eq_true, Bool.and_eq_true, decide_eq_true_eq, decide_eq_true_eq, decide_eq_true_eq] at h
    exact .inl ⟨h1, h.2.1, List.eq_nil_of_length_eq_zero h.2.2⟩
  split at h
  · next h1 =>
    rw [Bool.and_eq_true, Bool.and_eq_true, decide_eq_true_eq, decide_eq_true_eq] at h
    exact .inr (.inl ⟨h1, h.1, List.eq_nil_of_length_eq_zero h.2.2⟩)
  split at h
  · next h1 =>
    rw [Bool.and_eq_true, decide_eq_true_eq, decide_eq_true_eq] at h
    exact .inr (.inr (.inl ⟨h1, h.1, List.eq_nil_of_length_eq_zero h.2⟩))
  split at h
  · next h1 =>
    rw [Bool.and_eq_true, Bool.and_eq_true, Bool.and_eq_true, Bool.and_eq_true, decide_eq_true_eq] at h
    exact .inr (.inr (.inr ⟨h1, h.1, h.2.2.2.2⟩))
  · cases h
theorem rank_of {t : Tm} (h : t.may = true) : (t.kind = 1 ∧ rankV t.kind = 0) ∨ (t.kind = 2 ∧ rankV t.kind = 2) ∨ (t.kind = 3 ∧ rankV t.kind = 1) ∨ (t.kind = 4 ∧ rankV t.kind = 3) := by
  rcases may_parts h with ⟨h, _⟩ | ⟨h, _⟩ | ⟨h, _⟩ | ⟨h, _⟩
  · exact .inl ⟨h, by rw [h]; rfl⟩
  · exact .inr (.inl ⟨h, by rw [h]; rfl⟩)
  · exact .inr (.inr (.inl ⟨h, by rw [h]; rfl⟩))
  · exact .inr (.inr (.inr ⟨h, by rw [h]; rfl⟩))
theorem name_ext {a b : ByteArray} (h : a.data.toList = b.data.toList) : a = b := ByteArray.ext (Array.toList_inj.mp h)
/-- What is shown of all terms up to a size. -/
def OrdAt (n : Nat) : Prop := ∀ a b c : Tm, a.size ≤ n → a.may = true → b.may = true → c.may = true →
  (-1 ≤ a.cmp b ∧ a.cmp b ≤ 1) ∧ b.cmp a = -a.cmp b ∧ (a.cmp b = 0 → a = b) ∧ (a.cmp b ≤ 0 → b.cmp c ≤ 0 → a.cmp c ≤ 0)
theorem mays_cons {t : Tm} {l : List Tm} (h : Tm.mays (t :: l) = true) : t.may = true ∧ Tm.mays l = true := by
  have h1 : (t.may && Tm.mays l) = true := h
  rw [Bool.and_eq_true] at h1
  exact h1
theorem cmps_cons (t t' : Tm) (l l' : List Tm) : Tm.cmps (t :: l) (t' :: l') = if t.cmp t' ≠ 0 then t.cmp t' else Tm.cmps l l' := by rw [Tm.cmps]
theorem cmps_ord {n : Nat} (H : OrdAt n) : ∀ (l m : List Tm), l.length = m.length → (∀ t ∈ l, t.size ≤ n) → Tm.mays l = true → Tm.mays m = true →
    (-1 ≤ Tm.cmps l m ∧ Tm.cmps l m ≤ 1) ∧ Tm.cmps m l = -Tm.cmps l m ∧ (Tm.cmps l m = 0 → l = m)
  | [], [], _, _, _, _ => by rw [Tm.cmps]; exact ⟨by omega, by omega, fun _ => rfl⟩
  | [], _ :: _, h, _, _, _ => by cases h
  | _ :: _, [], h, _, _, _ => by cases h
  | t :: l, t' :: m, h, hs, h1, h2 => by
    obtain ⟨a1, a2⟩ := mays_cons h1
    obtain ⟨b1, b2⟩ := mays_cons h2
    obtain ⟨r1, r2, r3, _⟩ := H t t' t (hs t (by simp)) a1 b1 a1
    obtain ⟨s1, s2, s3⟩ := cmps_ord H l m (by simpa using h) (fun x hx => hs x (by simp [hx])) a2 b2
    rw [cmps_cons, cmps_cons, r2]
    by_cases h0 : t.cmp t' = 0
    · rw [h0, if_neg (by simp), if_neg (by simp)]
      exact ⟨s1, s2, fun hz => by rw [r3 h0, s3 hz]⟩
    · rw [if_pos h0, if_pos (by omega)]
      exact ⟨r1, rfl, fun hz => absurd hz h0⟩
theorem cmps_trans {n : Nat} (H : OrdAt n) : ∀ (l m r : List Tm), l.length = m.length → m.length = r.length → (∀ t ∈ l, t.size ≤ n) → Tm.mays l = true → Tm.mays m = true → Tm.mays r = true →
    Tm.cmps l m ≤ 0 → Tm.cmps m r ≤ 0 → Tm.cmps l r ≤ 0
  | [], [], [], _, _, _, _, _, _, _, _ => by rw [Tm.cmps]; omega
  | [], _ :: _, _, h, _, _, _, _, _, _, _ => by cases h
  | _ :: _, [], _, h, _, _, _, _, _, _, _ => by cases h
  | [], [], _ :: _, _, h, _, _, _, _, _, _ => by cases h
  | _ :: _, _ :: _, [], _, h, _, _, _, _, _, _ => by cases h
  | t :: l, t' :: m, t'' :: r, hl1, hl2, hs, h1, h2, h3, c1, c2 => by
    obtain ⟨a1, a2⟩ := mays_cons h1
    obtain ⟨b1, b2⟩ := mays_cons h2
    obtain ⟨d1, d2⟩ := mays_cons h3
    obtain ⟨_, r2, r3, r4⟩ := H t t' t'' (hs t (by simp)) a1 b1 d1
    obtain ⟨_, q2, q3, _⟩ := H t t'' t' (hs t (by simp)) a1 d1 b1
    rw [cmps_cons] at c1 c2 ⊢
    have c2' : t'.cmp t'' ≤ 0 := by
      by_cases h0 : t'.cmp t'' = 0
      · omega
      · rw [if_pos h0] at c2; exact c2
    by_cases h0 : t.cmp t' = 0
    · have e := r3 h0
      subst e
      rw [if_neg (by simpa using h0)] at c1
      by_cases h5 : t.cmp t'' = 0
      · rw [if_neg (by simpa using h5)] at c2 ⊢
        exact cmps_trans H l m r (by simpa using hl1) (by simpa using hl2) (fun x hx => hs x (by simp [hx])) a2 b2 d2 c1 c2
      · rw [if_pos h5]; exact c2'
    · rw [if_pos h0] at c1
      have h6 := r4 c1 c2'
      by_cases h5 : t.cmp t'' = 0
      · have e := q3 h5
        subst e
        omega
      · rw [if_pos h5]; exact h6
/-- Of two terms of kind 4. -/
theorem cmp_four {a b : Tm} (ha : a.kind = 4) (hb : b.kind = 4) : a.cmp b = if a.args.length ≠ b.args.length then cmpV a.args.length b.args.length else if textV a.name.data.toList b.name.data.toList ≠ 0 then textV a.name.data.toList b.name.data.toList else Tm.cmps a.args b.args := by
  rw [Tm.cmp_eq, if_neg (by rw [ha, hb]; simp), if_neg (by rw [ha]; decide), if_neg (by rw [ha]; decide)]
theorem cmp_kinds {a b : Tm} (h : a.kind ≠ b.kind) : a.cmp b = cmpV (rankV a.kind) (rankV b.kind) := by rw [Tm.cmp_eq, if_pos h]
theorem cmp_num {a b : Tm} (h : a.kind = b.kind) (h1 : a.kind = 1 ∨ a.kind = 3) : a.cmp b = cmpV a.n b.n := by rw [Tm.cmp_eq, if_neg (by simpa using h), if_pos h1]
theorem cmp_atom {a b : Tm} (h : a.kind = b.kind) (h1 : a.kind = 2) : a.cmp b = textV a.name.data.toList b.name.data.toList := by rw [Tm.cmp_eq, if_neg (by simpa using h), if_neg (by omega), if_pos h1]
theorem nil_name {a b : ByteArray} (h1 : a.data.toList = []) (h2 : b.data.toList = []) : a = b := name_ext (h1.trans h2.symm)
theorem Tm.ext5 {a b : Tm} (h0 : a.kind = b.kind) (h1 : a.name = b.name) (h2 : a.n = b.n) (h3 : a.args = b.args) : a = b := by
  cases a; cases b; cases h0; cases h1; cases h2; cases h3; rfl
theorem text_trans {a b c : List UInt8} (h1 : textV a b ≤ 0) (h2 : textV b c ≤ 0) : textV a c ≤ 0 := textV_le.2 (List.le_trans (textV_le.1 h1) (textV_le.1 h2))
theorem ord_all (n : Nat) : OrdAt n := by
  induction n with
  | zero => intro a b c h; have := a.size_pos; omega
  | succ n H =>
    intro a b c hs ha hb hc
    have hsz := a.size_eq
    have hargs : ∀ t ∈ a.args, t.size ≤ n := fun t ht => by have := Tm.mem_size ht; omega
    have ra := rank_of ha
    have rb := rank_of hb
    have rc := rank_of hc
    have first : (-1 ≤ a.cmp b ∧ a.cmp b ≤ 1) ∧ b.cmp a = -a.cmp b ∧ (a.cmp b = 0 → a = b) := by
      by_cases hk : a.kind = b.kind
      · rcases may_parts ha with ⟨k, p1, p2⟩ | ⟨k, p1, p2⟩ | ⟨k, p1, p2⟩ | ⟨k, p1, p2⟩
        · rcases may_parts hb with ⟨k', q1, q2⟩ | ⟨k', _⟩ | ⟨k', _⟩ | ⟨k', _⟩
          · rw [cmp_num hk (.inl k), cmp_num hk.symm (.inl k'), cmpV_anti a.n]
            exact ⟨cmpV_range _ _, rfl, fun h => Tm.ext5 hk (nil_name p1 q1) (cmpV_zero h) (p2.trans q2.symm)⟩
          · omega
          · omega
          · omega
        · rcases may_parts hb with ⟨k', _⟩ | ⟨k', q1, q2⟩ | ⟨k', _⟩ | ⟨k', _⟩
          · omega
          · rw [cmp_atom hk k, cmp_atom hk.symm k', textV_anti a.name.data.toList]
            exact ⟨textV_range _ _, rfl, fun h => Tm.ext5 hk (name_ext (textV_zero h)) (p1.trans q1.symm) (p2.trans q2.symm)⟩
          · omega
          · omega
        · rcases may_parts hb with ⟨k', _⟩ | ⟨k', _⟩ | ⟨k', q1, q2⟩ | ⟨k', _⟩
          · omega
          · omega
          · rw [cmp_num hk (.inr k), cmp_num hk.symm (.inr k'), cmpV_anti a.n]
            exact ⟨cmpV_range _ _, rfl, fun h => Tm.ext5 hk (nil_name p1 q1) (cmpV_zero h) (p2.trans q2.symm)⟩
          · omega
        · rcases may_parts hb with ⟨k', _⟩ | ⟨k', _⟩ | ⟨k', _⟩ | ⟨k', q1, q2⟩
          · omega
          · omega
          · omega
          · rw [cmp_four k k', cmp_four k' k]
            by_cases hl : a.args.length = b.args.length
            · obtain ⟨s1, s2, s3⟩ := cmps_ord H a.args b.args hl hargs p2 q2
              rw [if_neg (show ¬ a.args.length ≠ b.args.length by simpa using hl), if_neg (show ¬ b.args.length ≠ a.args.length by simpa using hl.symm), textV_anti a.name.data.toList]
              by_cases ht : textV a.name.data.toList b.name.data.toList = 0
              · rw [ht, if_neg (show ¬ (0 : Int) ≠ 0 by simp), if_neg (show ¬ -(0 : Int) ≠ 0 by simp)]
                exact ⟨s1, s2, fun h => Tm.ext5 hk (name_ext (textV_zero ht)) (p1.trans q1.symm) (s3 h)⟩
              · rw [if_pos ht, if_pos (by omega)]
                exact ⟨textV_range _ _, rfl, fun h => absurd h ht⟩
            · rw [if_pos hl, if_pos (fun e => hl e.symm), cmpV_anti (a.args.length : Int)]
              exact ⟨cmpV_range _ _, rfl, fun h => absurd (cmpV_zero h) (by omega)⟩
      · rw [cmp_kinds hk, cmp_kinds (fun e => hk e.symm), cmpV_anti (rankV a.kind)]
        exact ⟨cmpV_range _ _, rfl, fun h => absurd (cmpV_zero h) (by omega)⟩
    refine ⟨first.1, first.2.1, first.2.2, fun h1 h2 => ?_⟩
    have bc : rankV b.kind ≤ rankV c.kind := by
      by_cases hk : b.kind = c.kind
      · rw [hk]; exact Int.le_refl _
      · rw [cmp_kinds hk] at h2; exact cmpV_le.1 h2
    by_cases hab : a.kind = b.kind
    · by_cases hbc : b.kind = c.kind
      · have hac : a.kind = c.kind := hab.trans hbc
        rcases may_parts ha with ⟨k, p1, p2⟩ | ⟨k, p1, p2⟩ | ⟨k, p1, p2⟩ | ⟨k, p1, p2⟩
        · rw [cmp_num hab (.inl k)] at h1
          rw [cmp_num hbc (.inl (by omega))] at h2
          rw [cmp_num hac (.inl k)]
          have g1 := cmpV_le.1 h1
          have g2 := cmpV_le.1 h2
          exact cmpV_le.2 (by omega)
        · rw [cmp_atom hab k] at h1
          rw [cmp_atom hbc (by omega)] at h2
          rw [cmp_atom hac k]
          exact text_trans h1 h2
        · rw [cmp_num hab (.inr k)] at h1
          rw [cmp_num hbc (.inr (by omega))] at h2
          rw [cmp_num hac (.inr k)]
          have g1 := cmpV_le.1 h1
          have g2 := cmpV_le.1 h2
          exact cmpV_le.2 (by omega)
        · rcases may_parts hb with ⟨k', _⟩ | ⟨k', _⟩ | ⟨k', _⟩ | ⟨k', q1, q2⟩
          · omega
          · omega
          · omega
          rcases may_parts hc with ⟨k'', _⟩ | ⟨k'', _⟩ | ⟨k'', _⟩ | ⟨k'', s1, s2⟩
          · omega
          · omega
          · omega
          rw [cmp_four k k'] at h1
          rw [cmp_four k' k''] at h2
          rw [cmp_four k k'']
          have l1 : a.args.length ≤ b.args.length := by
            by_cases hl : a.args.length = b.args.length
            · omega
            · rw [if_pos hl] at h1; have := cmpV_le.1 h1; omega
          have l2 : b.args.length ≤ c.args.length := by
            by_cases hl : b.args.length = c.args.length
            · omega
            · rw [if_pos hl] at h2; have := cmpV_le.1 h2; omega
          by_cases hl : a.args.length = c.args.length
          · rw [if_neg (by simpa using hl)]
            have e1 : a.args.length = b.args.length := by omega
            have e2 : b.args.length = c.args.length := by omega
            rw [if_neg (by simpa using e1)] at h1
            rw [if_neg (by simpa using e2)] at h2
            have t1 : textV a.name.data.toList b.name.data.toList ≤ 0 := by
              by_cases ht : textV a.name.data.toList b.name.data.toList = 0
              · omega
              · rw [if_pos ht] at h1; exact h1
            have t2 : textV b.name.data.toList c.name.data.toList ≤ 0 := by
              by_cases ht : textV b.name.data.toList c.name.data.toList = 0
              · omega
              · rw [if_pos ht] at h2; exact h2
            have t3 := text_trans t1 t2
            by_cases ht : textV a.name.data.toList c.name.data.toList = 0
            · rw [if_neg (by simpa using ht)]
              have en := textV_zero ht
              have t4 : textV a.name.data.toList b.name.data.toList = 0 := by
                rw [← en, textV_anti a.name.data.toList] at t2
                omega
              have en2 := textV_zero t4
              have t5 : textV b.name.data.toList c.name.data.toList = 0 := by rw [← en2, ← en, textV_self]
              rw [if_neg (by simpa using t4)] at h1
              rw [if_neg (by simpa using t5)] at h2
              exact cmps_trans H a.args b.args c.args e1 e2 hargs p2 q2 s2 h1 h2
            · rw [if_pos ht]; exact t3
          · rw [if_pos hl]; exact cmpV_le.2 (by omega)
      · have hac : a.kind ≠ c.kind := fun e => hbc (hab.symm.trans e)
        rw [cmp_kinds hac, hab]
        exact cmpV_le.2 bc
    · rw [cmp_kinds hab] at h1
      have g1 := cmpV_le.1 h1
      have hac : a.kind ≠ c.kind := fun e => by rw [← e] at bc; omega
      rw [cmp_kinds hac]
      exact cmpV_le.2 (by omega)
/-- The order, of terms that may be. -/
theorem cmp_range {a b : Tm} (ha : a.may = true) (hb : b.may = true) : -1 ≤ a.cmp b ∧ a.cmp b ≤ 1 := (ord_all a.size a b a (Nat.le_refl _) ha hb ha).1
theorem cmp_turn {a b : Tm} (ha : a.may = true) (hb : b.may = true) : b.cmp a = -a.cmp b := (ord_all a.size a b a (Nat.le_refl _) ha hb ha).2.1
theorem cmp_zero {a b : Tm} (ha : a.may = true) (hb : b.may = true) (h : a.cmp b = 0) : a = b := (ord_all a.size a b a (Nat.le_refl _) ha hb ha).2.2.1 h
theorem cmp_goes {a b c : Tm} (ha : a.may = true) (hb : b.may = true) (hc : c.may = true) (h1 : a.cmp b ≤ 0) (h2 : b.cmp c ≤ 0) : a.cmp c ≤ 0 := (ord_all a.size a b c (Nat.le_refl _) ha hb hc).2.2.2 h1 h2
theorem cmp_self {a : Tm} (ha : a.may = true) : a.cmp a = 0 := by have := cmp_turn ha ha; omega
end Go.Proofs.Ytlpmofmhcnclhaa

/-
  Plain mathematics: terms whose variables are shifted: their places, their variables, that they are variants; variants turned round, and from two to three.
-/
namespace Go.Proofs.Ytlpmofmhcnclhaa
open Go.RowKit

theorem add64_inj {a b c : Int} (ha : In64 a) (hb : In64 b) (h : add64 a c = add64 b c) : a = b := by
  unfold add64 wrap64 at h
  unfold In64 at ha hb
  omega
theorem add64_back {a c d : Int} (ha : In64 a) (hd : d = wrap64 (-c)) : add64 (add64 a c) d = a := by
  subst hd
  unfold add64 wrap64
  unfold In64 at ha
  omega
theorem add64_sub {a c : Int} (hc : In64 c) : wrap64 (add64 a c - a) = c := by
  unfold add64 wrap64
  unfold In64 at hc
  omega
mutual
theorem Tm.shift_places (c : Int) : ∀ t : Tm, (t.shift c).places = t.places.map (fun n => add64 n c)
  | .mk k s n l => by
    show (if k = 1 then [if k = 1 then add64 n c else n] else []) ++ Tm.placess (Tm.shifts c l) = ((if k = 1 then [n] else []) ++ Tm.placess l).map _
    rw [Tm.shifts_places c l, List.map_append]
    by_cases h : k = 1
    · rw [if_pos h, if_pos h, if_pos h]; rfl
    · rw [if_neg h, if_neg h]; rfl
theorem Tm.shifts_places (c : Int) : ∀ l : List Tm, Tm.placess (Tm.shifts c l) = (Tm.placess l).map (fun n => add64 n c)
  | [] => rfl
  | t :: l => by
    show (t.shift c).places ++ Tm.placess (Tm.shifts c l) = (t.places ++ Tm.placess l).map _
    rw [Tm.shift_places c t, Tm.shifts_places c l, List.map_append]
end
mutual
theorem Tm.shift_bare (c : Int) : ∀ t : Tm, (t.shift c).bare = t.bare
  | .mk k s n l => by
    show Tm.mk k s (if k = 1 then 0 else if k = 1 then add64 n c else n) (Tm.bares (Tm.shifts c l)) = Tm.mk k s (if k = 1 then 0 else n) (Tm.bares l)
    rw [Tm.shifts_bare c l]
    by_cases h : k = 1
    · rw [if_pos h, if_pos h]
    · rw [if_neg h, if_neg h, if_neg h]
theorem Tm.shifts_bare (c : Int) : ∀ l : List Tm, Tm.bares (Tm.shifts c l) = Tm.bares l
  | [] => rfl
  | t :: l => by
    show (t.shift c).bare :: Tm.bares (Tm.shifts c l) = t.bare :: Tm.bares l
    rw [Tm.shift_bare c t, Tm.shifts_bare c l]
end
mutual
theorem Tm.shift_size (c : Int) : ∀ t : Tm, (t.shift c).size = t.size ∧ (t.shift c).deep = t.deep
  | .mk k s n l => by
    have h := Tm.shifts_size c l
    exact ⟨by show 1 + Tm.sizes (Tm.shifts c l) = 1 + Tm.sizes l; rw [h.1], by show Tm.deeps (Tm.shifts c l) + 1 = Tm.deeps l + 1; rw [h.2]⟩
theorem Tm.shifts_size (c : Int) : ∀ l : List Tm, Tm.sizes (Tm.shifts c l) = Tm.sizes l ∧ Tm.deeps (Tm.shifts c l) = Tm.deeps l
  | [] => ⟨rfl, rfl⟩
  | t :: l => by
    have h1 := Tm.shift_size c t
    have h2 := Tm.shifts_size c l
    exact ⟨by show (t.shift c).size + Tm.sizes (Tm.shifts c l) = t.size + Tm.sizes l; rw [h1.1, h2.1], by show max (t.shift c).deep (Tm.deeps (Tm.shifts c l)) = max t.deep (Tm.deeps l); rw [h1.2, h2.2]⟩
end
mutual
theorem Tm.shift_back (c d : Int) (hd : d = wrap64 (-c)) : ∀ t : Tm, t.n64 → (t.shift c).shift d = t
  | .mk k s n l, h => by
    show Tm.mk k s (if k = 1 then add64 (if k = 1 then add64 n c else n) d else if k = 1 then add64 n c else n) (Tm.shifts d (Tm.shifts c l)) = _
    rw [Tm.shifts_back c d hd l h.2]
    by_cases hk : k = 1
    · rw [if_pos hk, if_pos hk, add64_back h.1 hd]
    · rw [if_neg hk, if_neg hk]
theorem Tm.shifts_back (c d : Int) (hd : d = wrap64 (-c)) : ∀ l : List Tm, Tm.n64s l → Tm.shifts d (Tm.shifts c l) = l
  | [], _ => rfl
  | t :: l, h => by
    show (t.shift c).shift d :: Tm.shifts d (Tm.shifts c l) = _
    rw [Tm.shift_back c d hd t h.1, Tm.shifts_back c d hd l h.2]
end
mutual
theorem Tm.places_in : ∀ t : Tm, t.n64 → ∀ x ∈ t.places, In64 x
  | .mk k s n l, h, x, hx => by
    have hx' : x ∈ (if k = 1 then [n] else []) ++ Tm.placess l := hx
    rcases List.mem_append.1 hx' with hx | hx
    · by_cases hk : k = 1
      · rw [if_pos hk] at hx
        rw [List.mem_singleton.1 hx]; exact h.1
      · rw [if_neg hk] at hx; cases hx
    · exact Tm.placess_in l h.2 x hx
theorem Tm.placess_in : ∀ l : List Tm, Tm.n64s l → ∀ x ∈ Tm.placess l, In64 x
  | [], _, x, hx => by cases hx
  | t :: l, h, x, hx => by
    have hx' : x ∈ t.places ++ Tm.placess l := hx
    rcases List.mem_append.1 hx' with hx | hx
    · exact Tm.places_in t h.1 x hx
    · exact Tm.placess_in l h.2 x hx
end
theorem getD_map (f : Int → Int) (l : List Int) (i : Nat) (h : i < l.length) : (l.map f).getD i 0 = f (l.getD i 0) := by
  rw [List.getD, List.getD, List.getElem?_map, List.getElem?_eq_getElem h]; rfl
theorem getD_mem (l : List Int) (i : Nat) (h : i < l.length) : l.getD i 0 ∈ l := by
  rw [List.getD, List.getElem?_eq_getElem h]; exact List.getElem_mem h
theorem variant_shift (t : Tm) (c : Int) (h : t.n64) : t.variant (t.shift c) = true := by
  refine variant_true (t.shift_bare c).symm ?_
  intro i k hk hi
  rw [Tm.shift_places, getD_map _ _ _ hi, getD_map _ _ _ (by omega)]
  exact ⟨fun e => by rw [e], fun e => add64_inj (Tm.places_in t h _ (getD_mem _ _ hi)) (Tm.places_in t h _ (getD_mem _ _ (by omega))) e⟩
theorem variant_iff (a b : Tm) : a.variant b = true ↔ a.bare = b.bare ∧ pairs a.places b.places := by unfold Tm.variant; simp
theorem variant_turn (a b : Tm) : a.variant b = b.variant a := by
  rw [Bool.eq_iff_iff, variant_iff, variant_iff]
  constructor
  · rintro ⟨h1, h2⟩
    exact ⟨h1.symm, fun i k hk hi => (h2 i k hk (by rw [Tm.bare_places h1]; exact hi)).symm⟩
  · rintro ⟨h1, h2⟩
    exact ⟨h1.symm, fun i k hk hi => (h2 i k hk (by rw [Tm.bare_places h1]; exact hi)).symm⟩
theorem variant_goes {a b c : Tm} (h1 : a.variant b = true) (h2 : b.variant c = true) : a.variant c = true := by
  rw [variant_iff] at h1 h2 ⊢
  exact ⟨h1.1.trans h2.1, fun i k hk hi => (h1.2 i k hk hi).trans (h2.2 i k hk (by rw [← Tm.bare_places h1.1]; exact hi))⟩
theorem hasL_map {l : List Int} {n c : Int} (hl : ∀ x ∈ l, In64 x) (hn : In64 n) : hasL (l.map (fun x => add64 x c)) (add64 n c) = hasL l n := by
  unfold hasL
  induction l with
  | nil => rfl
  | cons x l ih =>
    rw [List.map_cons, List.any_cons, List.any_cons, ih (fun y hy => hl y (by simp [hy]))]
    congr 1
    rw [Bool.eq_iff_iff]
    simp only [beq_iff_eq]
    exact ⟨fun e => add64_inj (hl x (by simp)) hn e, fun e => by rw [e]⟩
theorem once_map (c : Int) : ∀ (l out : List Int), (∀ x ∈ l, In64 x) → (∀ x ∈ out, In64 x) → onceGo (out.map (fun x => add64 x c)) (l.map (fun x => add64 x c)) = (onceGo out l).map (fun x => add64 x c)
  | [], out, _, _ => rfl
  | n :: l, out, hl, ho => by
    show (if hasL (out.map (fun x => add64 x c)) (add64 n c) then _ else _) = (if hasL out n then onceGo out l else onceGo (out ++ [n]) l).map _
    rw [hasL_map ho (hl n (by simp))]
    by_cases h : hasL out n = true
    · rw [if_pos h, if_pos h]
      exact once_map c l out (fun x hx => hl x (by simp [hx])) ho
    · rw [if_neg h, if_neg h]
      have := once_map c l (out ++ [n]) (fun x hx => hl x (by simp [hx])) (fun x hx => by
        rcases List.mem_append.1 hx with h1 | h1
        · exact ho x h1
        · rw [List.mem_singleton.1 h1]; exact hl n (by simp))
      rw [List.map_append] at this
      exact this
theorem vars_shift (t : Tm) (c : Int) (h : t.n64) : (t.shift c).vars = t.vars.map (fun x => add64 x c) := by
  unfold Tm.vars once
  rw [Tm.shift_places]
  exact once_map c t.places [] (Tm.places_in t h) (fun x hx => by cases hx)
theorem onceGo_ne : ∀ (l out : List Int), out ≠ [] → onceGo out l ≠ []
  | [], out, h => h
  | n :: l, out, h => by
    show (if hasL out n then onceGo out l else onceGo (out ++ [n]) l) ≠ []
    split
    · exact onceGo_ne l out h
    · exact onceGo_ne l (out ++ [n]) (by simp)
theorem vars_nil {t : Tm} (h : t.vars = []) : t.places = [] := by
  unfold Tm.vars once at h
  cases hp : t.places with
  | nil => rfl
  | cons n l =>
    rw [hp] at h
    exact absurd h (onceGo_ne l [n] (by simp))
mutual
theorem Tm.shift_none (c : Int) : ∀ t : Tm, t.places = [] → t.shift c = t
  | .mk k s n l, h => by
    have h' : (if k = 1 then [n] else []) ++ Tm.placess l = [] := h
    have hk : k ≠ 1 := fun e => by rw [if_pos e] at h'; cases h'
    rw [if_neg hk, List.nil_append] at h'
    show Tm.mk k s (if k = 1 then add64 n c else n) (Tm.shifts c l) = _
    rw [if_neg hk, Tm.shifts_none c l h']
theorem Tm.shifts_none (c : Int) : ∀ l : List Tm, Tm.placess l = [] → Tm.shifts c l = l
  | [], _ => rfl
  | t :: l, h => by
    have h' : t.places ++ Tm.placess l = [] := h
    have h2 := List.append_eq_nil_iff.1 h'
    show t.shift c :: Tm.shifts c l = _
    rw [Tm.shift_none c t h2.1, Tm.shifts_none c l h2.2]
end
end Go.Proofs.Ytlpmofmhcnclhaa
