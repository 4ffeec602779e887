/-
  Bindings, plain: what a variable is bound to, terms walked, resolved, shifted; what follows of these.
-/
import Derived.Test.YtpmohibhdnmjlaaTermVs
import Derived.Test.YtpmohibhdnmjlaaTermMay
import Derived.Test.YtpmohibhdnmjlaaTermMk
namespace Go.Proofs.Ytpmohibhdnmjlaa
open Go.RowKit

/-- What a variable is bound to: the last binding of it. -/
def lookL : List (Int × Tm) → Int → Option Tm
  | [], _ => none
  | (k, x) :: l, v => match lookL l v with
    | some y => some y
    | none => if k = v then some x else none
def zeroT : Tm := .mk 0 ⟨#[]⟩ 0 []
/-- A walk: the term, the error, how many steps there were; so many bindings may be followed. -/
def walkF (bs : List (Int × Tm)) : Nat → Nat → Tm → Tm × Int × Nat
  | 0, n, _ => (zeroT, 140, n)
  | f + 1, n, t => if t.kind = 1 then
      match lookL bs t.n with
      | none => (t, 0, n)
      | some x => if n < 2000 then walkF bs f (n + 1) x else (zeroT, 140, n + 1)
    else (t, 0, n)
def walkL (bs : List (Int × Tm)) (n : Nat) (t : Tm) : Tm × Int × Nat := walkF bs (2001 - n) n t
def meetL (bs : List (Int × Tm)) (n : Nat) (t : Tm) : Tm × Int × Nat := if n < 2000 then walkL bs (n + 1) t else (zeroT, 140, n + 1)
/-- Terms resolved, one behind the other, up to the first error. -/
def resList (f : Nat → Tm → Tm × Int × Nat) : Nat → List Tm → List Tm × Int × Nat
  | n, [] => ([], 0, n)
  | n, a :: l =>
    if (f n a).2.1 ≠ 0 then ([], (f n a).2.1, (f n a).2.2)
    else if (resList f (f n a).2.2 l).2.1 ≠ 0 then ([], (resList f (f n a).2.2 l).2.1, (resList f (f n a).2.2 l).2.2)
    else ((f n a).1 :: (resList f (f n a).2.2 l).1, 0, (resList f (f n a).2.2 l).2.2)
/-- A term resolved that may have d levels; of a term too deep its bindings are not followed. -/
def resD (bs : List (Int × Tm)) : Nat → Nat → Tm → Tm × Int × Nat
  | 0, n, _ => if n < 2000 then (zeroT, 3, n + 1) else (zeroT, 140, n + 1)
  | d + 1, n, t =>
    if (meetL bs n t).2.1 ≠ 0 then (zeroT, (meetL bs n t).2.1, (meetL bs n t).2.2)
    else if (resList (resD bs d) (meetL bs n t).2.2 (meetL bs n t).1.args).2.1 ≠ 0 then
      (zeroT, (resList (resD bs d) (meetL bs n t).2.2 (meetL bs n t).1.args).2.1, (resList (resD bs d) (meetL bs n t).2.2 (meetL bs n t).1.args).2.2)
    else (.mk (meetL bs n t).1.kind (meetL bs n t).1.name (meetL bs n t).1.n (resList (resD bs d) (meetL bs n t).2.2 (meetL bs n t).1.args).1, 0, (resList (resD bs d) (meetL bs n t).2.2 (meetL bs n t).1.args).2.2)

/-! A walk's steps. -/
theorem walk_stop {bs : List (Int × Tm)} {n : Nat} {t : Tm} (hn : n ≤ 2000) (h : t.kind ≠ 1 ∨ lookL bs t.n = none) : walkL bs n t = (t, 0, n) := by
  unfold walkL
  obtain ⟨f, hf⟩ : ∃ f, 2001 - n = f + 1 := ⟨2000 - n, by omega⟩
  rw [hf]
  unfold walkF
  by_cases hk : t.kind = 1
  · rw [if_pos hk]
    rcases h with h | h
    · exact absurd hk h
    · rw [h]
  · rw [if_neg hk]
theorem walk_step {bs : List (Int × Tm)} {n : Nat} {t x : Tm} (hn : n < 2000) (hk : t.kind = 1) (h : lookL bs t.n = some x) : walkL bs n t = walkL bs (n + 1) x := by
  unfold walkL
  obtain ⟨f, hf⟩ : ∃ f, 2001 - n = f + 1 := ⟨2000 - n, by omega⟩
  have hf2 : 2001 - (n + 1) = f := by omega
  rw [hf, hf2]
  show (if t.kind = 1 then match lookL bs t.n with | none => (t, 0, n) | some x => if n < 2000 then walkF bs f (n + 1) x else (zeroT, 140, n + 1) else (t, 0, n)) = _
  rw [if_pos hk, h]
  dsimp only
  rw [if_pos hn]
theorem walk_over {bs : List (Int × Tm)} {t x : Tm} (hk : t.kind = 1) (h : lookL bs t.n = some x) : walkL bs 2000 t = (zeroT, 140, 2001) := by
  show (if t.kind = 1 then match lookL bs t.n with | none => (t, 0, 2000) | some x => if 2000 < 2000 then walkF bs 0 2001 x else (zeroT, 140, 2001) else (t, 0, 2000)) = _
  rw [if_pos hk, h]
  rfl
/-- What a walk answers: a term that is no bound variable, or an error and no term; how many steps. -/
theorem walkF_out (bs : List (Int × Tm)) : ∀ (f n : Nat) (t : Tm), n ≤ 2000 → 2001 - n ≤ f →
    ((walkF bs f n t).2.1 = 0 ∧ ((walkF bs f n t).1.kind = 1 → lookL bs (walkF bs f n t).1.n = none) ∧ n ≤ (walkF bs f n t).2.2 ∧ (walkF bs f n t).2.2 ≤ 2000) ∨
    ((walkF bs f n t).2.1 = 140 ∧ (walkF bs f n t).1 = zeroT ∧ (walkF bs f n t).2.2 = 2001)
  | 0, n, t, h, hf => by omega
  | f + 1, n, t, h, hf => by
    unfold walkF
    by_cases hk : t.kind = 1
    · rw [if_pos hk]
      cases hx : lookL bs t.n with
      | none => exact .inl ⟨rfl, fun _ => hx, Nat.le_refl _, h⟩
      | some x =>
        dsimp only
        by_cases hn : n < 2000
        · rw [if_pos hn]
          rcases walkF_out bs f (n + 1) x (by omega) (by omega) with ⟨h1, h2, h3, h4⟩ | h1
          · exact .inl ⟨h1, h2, by omega, h4⟩
          · exact .inr h1
        · rw [if_neg hn]
          exact .inr ⟨rfl, rfl, by show n + 1 = 2001; omega⟩
    · rw [if_neg hk]
      exact .inl ⟨rfl, fun e => absurd e hk, Nat.le_refl _, h⟩
theorem meet_out (bs : List (Int × Tm)) (n : Nat) (t : Tm) (hn : n ≤ 2000) :
    ((meetL bs n t).2.1 = 0 ∧ ((meetL bs n t).1.kind = 1 → lookL bs (meetL bs n t).1.n = none) ∧ n + 1 ≤ (meetL bs n t).2.2 ∧ (meetL bs n t).2.2 ≤ 2000) ∨
    ((meetL bs n t).2.1 = 140 ∧ (meetL bs n t).1 = zeroT ∧ (meetL bs n t).2.2 = 2001) := by
  unfold meetL
  by_cases h : n < 2000
  · rw [if_pos h]; exact walkF_out bs _ (n + 1) t (by omega) (Nat.le_refl _)
  · rw [if_neg h]; exact .inr ⟨rfl, rfl, by show n + 1 = 2001; omega⟩
theorem meet_stop {bs : List (Int × Tm)} {n : Nat} {t : Tm} (hn : n < 2000) (h : t.kind ≠ 1 ∨ lookL bs t.n = none) : meetL bs n t = (t, 0, n + 1) := by
  unfold meetL
  rw [if_pos hn, walk_stop (by omega) h]
/-- The rows' form: what is still to do behind the first k. -/
def resCat (rs : List Tm) (q : List Tm × Int × Nat) : List Tm × Int × Nat := if q.2.1 ≠ 0 then ([], q.2.1, q.2.2) else (rs ++ q.1, 0, q.2.2)
theorem resList_cat (f : Nat → Tm → Tm × Int × Nat) (n : Nat) (a : Tm) (l : List Tm) (h : (f n a).2.1 = 0) : resList f n (a :: l) = resCat [(f n a).1] (resList f (f n a).2.2 l) := by
  show (if (f n a).2.1 ≠ 0 then _ else _) = _
  rw [if_neg (by rw [h]; nofun)]
  rfl
theorem resList_bad (f : Nat → Tm → Tm × Int × Nat) (n : Nat) (a : Tm) (l : List Tm) (h : (f n a).2.1 ≠ 0) : resList f n (a :: l) = ([], (f n a).2.1, (f n a).2.2) := by
  show (if (f n a).2.1 ≠ 0 then _ else _) = _
  rw [if_pos h]
theorem resCat_cat (rs : List Tm) (x : Tm) (q : List Tm × Int × Nat) : resCat rs (resCat [x] q) = resCat (rs ++ [x]) q := by
  unfold resCat
  by_cases h : q.2.1 ≠ 0
  · rw [if_pos h, if_pos h, if_pos h]
  · rw [if_neg h, if_neg h, if_neg (by nofun)]
    show (rs ++ ([x] ++ q.1), _, _) = _
    rw [List.append_assoc]
theorem resCat_nil (q : List Tm × Int × Nat) (h : q.2.1 ≠ 0 → q.1 = []) : resCat [] q = q := by
  unfold resCat
  by_cases h0 : q.2.1 ≠ 0
  · rw [if_pos h0, ← h h0]
  · rw [if_neg h0]
    obtain ⟨a, b, c⟩ := q
    have : b = 0 := by simpa using h0
    subst this
    rfl
theorem resList_none (f : Nat → Tm → Tm × Int × Nat) : ∀ (l : List Tm) (n : Nat), (resList f n l).2.1 ≠ 0 → (resList f n l).1 = []
  | [], n, h => absurd rfl h
  | a :: l, n, h => by
    by_cases h1 : (f n a).2.1 ≠ 0
    · rw [resList_bad f n a l h1]
    · have h1 : (f n a).2.1 = 0 := by simpa using h1
      rw [resList_cat f n a l h1] at h ⊢
      unfold resCat at h ⊢
      by_cases h2 : (resList f (f n a).2.2 l).2.1 ≠ 0
      · rw [if_pos h2]
      · rw [if_neg h2] at h; exact absurd rfl h

theorem places_mk (k : Int) (s : ByteArray) (n : Int) (l : List Tm) : (Tm.mk k s n l).places = (if k = 1 then [n] else []) ++ l.flatMap Tm.places := Tm.places_eq _
/-- What resolving answers. -/
def ResOk (bs : List (Int × Tm)) (d n : Nat) (r : Tm × Int × Nat) : Prop :=
  (r.2.1 = 0 ∧ (∀ v ∈ r.1.places, lookL bs v = none) ∧ r.1.deep ≤ d ∧ n + r.1.size ≤ r.2.2 ∧ r.2.2 ≤ 2000) ∨ (r.2.1 ≠ 0 ∧ r.1 = zeroT ∧ (r.2.1 = 3 ∨ r.2.1 = 140))
theorem resList_out (bs : List (Int × Tm)) (d : Nat) (f : Nat → Tm → Tm × Int × Nat) (hf : ∀ n t, n ≤ 2000 → ResOk bs d n (f n t)) : ∀ (l : List Tm) (n : Nat), n ≤ 2000 →
    ((resList f n l).2.1 = 0 ∧ (∀ v ∈ (resList f n l).1.flatMap Tm.places, lookL bs v = none) ∧ Tm.deeps (resList f n l).1 ≤ d ∧ n + Tm.sizes (resList f n l).1 ≤ (resList f n l).2.2 ∧ (resList f n l).2.2 ≤ 2000 ∧ (resList f n l).1.length = l.length) ∨
    ((resList f n l).2.1 = 3 ∨ (resList f n l).2.1 = 140)
  | [], n, hn => .inl ⟨rfl, (fun v h => by cases h), Nat.zero_le _, Nat.le_refl _, hn, rfl⟩
  | a :: l, n, hn => by
    rcases hf n a hn with ⟨h1, h2, h3, h4, h5⟩ | ⟨h1, h2, h3⟩
    · rw [resList_cat f n a l h1]
      rcases resList_out bs d f hf l (f n a).2.2 h5 with ⟨k1, k2, k3, k4, k5, k6⟩ | k1
      · unfold resCat
        rw [if_neg (by rw [k1]; nofun)]
        refine .inl ⟨rfl, fun v hv => ?_, ?_, ?_, k5, by show ([_] ++ _).length = _; rw [List.length_append, k6, List.length_cons]; show 1 + l.length = l.length + 1; omega⟩
        · have hv : v ∈ ((f n a).1 :: (resList f (f n a).2.2 l).1).flatMap Tm.places := hv
          rw [List.flatMap_cons] at hv
          rcases List.mem_append.1 hv with hv | hv
          · exact h2 v hv
          · exact k2 v hv
        · show max (f n a).1.deep (Tm.deeps (resList f (f n a).2.2 l).1) ≤ d; omega
        · show n + ((f n a).1.size + Tm.sizes (resList f (f n a).2.2 l).1) ≤ _; dsimp only; omega
      · unfold resCat
        rw [if_pos (by rcases k1 with k1 | k1 <;> rw [k1] <;> nofun)]
        exact .inr k1
    · rw [resList_bad f n a l h1]; exact .inr h3
theorem resD_out (bs : List (Int × Tm)) : ∀ (d n : Nat) (t : Tm), n ≤ 2000 → ResOk bs d n (resD bs d n t)
  | 0, n, t, hn => by
    unfold resD
    by_cases h : n < 2000
    · rw [if_pos h]; exact .inr ⟨by show (3 : Int) ≠ 0; decide, rfl, .inl rfl⟩
    · rw [if_neg h]; exact .inr ⟨by show (140 : Int) ≠ 0; decide, rfl, .inr rfl⟩
  | d + 1, n, t, hn => by
    unfold resD
    rcases meet_out bs n t hn with ⟨h1, h2, h3, h4⟩ | ⟨h1, _⟩
    · rw [if_neg (by rw [h1]; nofun)]
      rcases resList_out bs d (resD bs d) (fun n t hn => resD_out bs d n t hn) (meetL bs n t).1.args (meetL bs n t).2.2 h4 with ⟨k1, k2, k3, k4, k5, _⟩ | k1
      · rw [if_neg (by rw [k1]; nofun)]
        refine .inl ⟨rfl, fun v hv => ?_, ?_, ?_, k5⟩
        · have hv : v ∈ (Tm.mk _ _ _ _).places := hv
          rw [places_mk] at hv
          rcases List.mem_append.1 hv with hv | hv
          · by_cases hk : (meetL bs n t).1.kind = 1
            · rw [if_pos hk] at hv
              rw [List.mem_singleton.1 hv]; exact h2 hk
            · rw [if_neg hk] at hv; cases hv
          · exact k2 v hv
        · rw [Tm.deep_eq]; show Tm.deeps (resList _ _ _).1 + 1 ≤ d + 1; omega
        · rw [Tm.size_eq]; show n + (1 + Tm.sizes (resList _ _ _).1) ≤ (resList _ _ _).2.2; omega
      · rw [if_pos (by rcases k1 with k1 | k1 <;> rw [k1] <;> nofun)]
        exact .inr ⟨by rcases k1 with k1 | k1 <;> (show (resList _ _ _).2.1 ≠ 0; rw [k1]; decide), rfl, k1⟩
    · rw [if_pos (by rw [h1]; nofun)]; exact .inr ⟨by show (meetL bs n t).2.1 ≠ 0; rw [h1]; decide, rfl, .inr h1⟩

/-- A term without bound variables is resolved as itself. -/
theorem resD_self (bs : List (Int × Tm)) : ∀ (d n : Nat) (t : Tm), n + t.size ≤ 2000 → t.deep ≤ d → (∀ v ∈ t.places, lookL bs v = none) → resD bs d n t = (t, 0, n + t.size)
  | 0, n, t, h, hd, _ => by rw [Tm.deep_eq] at hd; omega
  | d + 1, n, t, h, hd, hv => by
    have hsz := t.size_eq
    have hm : meetL bs n t = (t, 0, n + 1) := meet_stop (by omega) (by
      by_cases hk : t.kind = 1
      · exact .inr (hv _ (by rw [Tm.places_eq, if_pos hk]; simp))
      · exact .inl hk)
    have hl : ∀ (l : List Tm) (n : Nat), n + Tm.sizes l ≤ 2000 → Tm.deeps l ≤ d → (∀ v ∈ l.flatMap Tm.places, lookL bs v = none) → resList (resD bs d) n l = (l, 0, n + Tm.sizes l) := by
      intro l
      induction l with
      | nil => intro n _ _ _; rfl
      | cons a l ih =>
        intro n h1 h2 h3
        rw [Tm.sizes_cons] at h1
        have h2' : max a.deep (Tm.deeps l) ≤ d := h2
        rw [List.flatMap_cons] at h3
        have ha := resD_self bs d n a (by omega) (by omega) (fun v hv => h3 v (List.mem_append_left _ hv))
        rw [resList_cat _ _ _ _ (by rw [ha]), ha, ih (n + a.size) (by omega) (by omega) fun v hv => h3 v (List.mem_append_right _ hv)]
        unfold resCat
        rw [if_neg (by nofun)]
        show (a :: l, (0 : Int), n + a.size + Tm.sizes l) = _
        rw [Tm.sizes_cons, Nat.add_assoc]
    rw [Tm.deep_eq] at hd
    unfold resD
    rw [hm]
    dsimp only
    rw [if_neg (by nofun), hl t.args (n + 1) (by omega) (by omega) fun v hv' => hv v (by rw [Tm.places_eq]; exact List.mem_append_right _ hv')]
    dsimp only
    rw [if_neg (by nofun), ← t.eta, hsz, Nat.add_assoc]

/-! Which binding counts. -/
theorem lookL_snoc (bs : List (Int × Tm)) (v : Int) (t : Tm) (w : Int) : lookL (bs ++ [(v, t)]) w = if v = w then some t else lookL bs w := by
  induction bs with
  | nil => rfl
  | cons b bs ih =>
    obtain ⟨k, x⟩ := b
    show (match lookL (bs ++ [(v, t)]) w with | some y => some y | none => if k = w then some x else none) = _
    rw [ih]
    by_cases h : v = w
    · rw [if_pos h, if_pos h]
    · rw [if_neg h, if_neg h]; rfl
theorem lookL_mem {bs : List (Int × Tm)} {v : Int} {t : Tm} (h : lookL bs v = some t) : (v, t) ∈ bs := by
  induction bs with
  | nil => cases h
  | cons b bs ih =>
    obtain ⟨k, x⟩ := b
    have h' : (match lookL bs v with | some y => some y | none => if k = v then some x else none) = some t := h
    cases hl : lookL bs v with
    | some y => rw [hl] at h' ih; exact .tail _ (ih h')
    | none =>
      rw [hl] at h'
      dsimp only at h'
      by_cases hk : k = v
      · rw [if_pos hk] at h'; injection h' with h'; subst hk h'; exact .head _
      · rw [if_neg hk] at h'; cases h'
theorem lookL_none {bs : List (Int × Tm)} {v : Int} (h : ∀ b ∈ bs, b.1 ≠ v) : lookL bs v = none := by
  cases hl : lookL bs v with
  | none => rfl
  | some t => exact absurd rfl (h _ (lookL_mem hl))
/-- From the k-th on: what is found ahead of it is not the answer if there is one behind it. -/
theorem lookL_drop {bs : List (Int × Tm)} {v : Int} (k : Nat) (hk : k < bs.length) (h : bs[k].1 = v) (hn : ∀ j (hj : j < bs.length), k < j → bs[j].1 ≠ v) : lookL bs v = some bs[k].2 := by
  induction bs generalizing k with
  | nil => cases hk
  | cons b bs ih =>
    obtain ⟨q, x⟩ := b
    show (match lookL bs v with | some y => some y | none => if q = v then some x else none) = _
    cases k with
    | zero =>
      rw [lookL_none fun b hb => by
        obtain ⟨j, hj, rfl⟩ := List.mem_iff_getElem.1 hb
        exact hn (j + 1) (by simpa using hj) (by omega)]
      have h : q = v := h
      dsimp only
      rw [if_pos h]; rfl
    | succ k =>
      rw [ih k (by simpa using hk) (by simpa using h) fun j hj hjk => (show bs[j].1 ≠ v from hn (j + 1) (by simpa using hj) (by omega))]
      rfl

/-! Shifted. -/
def shiftB (c : Int) (bs : List (Int × Tm)) : List (Int × Tm) := bs.map fun b => (b.1 + c, b.2.shift c)
theorem lookL_shift (c : Int) (bs : List (Int × Tm)) (v : Int) (hv : In64 v) (hc : 0 ≤ c ∧ c ≤ 1000000) (hb : ∀ b ∈ bs, -1000000 ≤ b.1 ∧ b.1 ≤ 1000000) : lookL (shiftB c bs) (add64 v c) = (lookL bs v).map (Tm.shift c) := by
  induction bs with
  | nil => rfl
  | cons b bs ih =>
    obtain ⟨k, x⟩ := b
    have hk : -1000000 ≤ k ∧ k ≤ 1000000 := hb _ (.head _)
    show (match lookL (shiftB c bs) (add64 v c) with | some y => some y | none => if k + c = add64 v c then some (x.shift c) else none) = Option.map _ (match lookL bs v with | some y => some y | none => if k = v then some x else none)
    rw [ih fun b hb' => hb b (.tail _ hb')]
    cases lookL bs v with
    | some y => rfl
    | none =>
      dsimp only [Option.map]
      have e : k + c = add64 v c ↔ k = v := by
        unfold add64 wrap64
        unfold In64 at hv
        omega
      by_cases h : k = v
      · rw [if_pos (e.2 h), if_pos h]
      · rw [if_neg fun h' => h (e.1 h'), if_neg h]
theorem Tm.shift_kind (c : Int) (t : Tm) : (t.shift c).kind = t.kind := by cases t; rfl
theorem Tm.shift_name (c : Int) (t : Tm) : (t.shift c).name = t.name := by cases t; rfl
theorem Tm.shift_argsE (c : Int) (t : Tm) : (t.shift c).args = t.args.map (Tm.shift c) := by rw [Tm.shift_eq]; rfl
theorem Tm.shift_nE (c : Int) (t : Tm) : (t.shift c).n = if t.kind = 1 then add64 t.n c else t.n := by rw [Tm.shift_eq]; rfl
theorem shiftS_size (c : Int) : ∀ (m : Nat) (t : Tm), t.size ≤ m → (t.shift c).size = t.size
  | 0, t, h => by have := t.size_pos; omega
  | m + 1, t, h => by
    have hl : ∀ l : List Tm, Tm.sizes l ≤ m → Tm.sizes (l.map (Tm.shift c)) = Tm.sizes l := by
      intro l
      induction l with
      | nil => intro _; rfl
      | cons a l ih =>
        intro h
        rw [Tm.sizes_cons] at h
        have := a.size_pos
        rw [List.map_cons, Tm.sizes_cons, Tm.sizes_cons, shiftS_size c m a (by omega), ih (by omega)]
    have hs := t.size_eq
    rw [Tm.size_eq, Tm.shift_argsE, hl t.args (by omega), hs]
theorem zero_shift (c : Int) : zeroT.shift c = zeroT := rfl
theorem zero64 : zeroT.n64 := ⟨⟨by decide, by decide⟩, trivial⟩
/-- All numbers of 64 bits. -/
def Bds64 (bs : List (Int × Tm)) : Prop := ∀ b ∈ bs, b.2.n64
theorem walkF_shift (c : Int) (bs : List (Int × Tm)) (hc : 0 ≤ c ∧ c ≤ 1000000) (hb : ∀ b ∈ bs, -1000000 ≤ b.1 ∧ b.1 ≤ 1000000) (h64 : Bds64 bs) : ∀ (f n : Nat) (t : Tm), t.n64 → walkF (shiftB c bs) f n (t.shift c) = ((walkF bs f n t).1.shift c, (walkF bs f n t).2.1, (walkF bs f n t).2.2) ∧ (walkF bs f n t).1.n64
  | 0, n, t, ht => ⟨by unfold walkF; rfl, by unfold walkF; exact zero64⟩
  | f + 1, n, t, ht => by
    unfold walkF
    rw [Tm.shift_kind]
    by_cases hk : t.kind = 1
    · rw [if_pos hk, if_pos hk, Tm.shift_nE, if_pos hk, lookL_shift c bs t.n ((Tm.n64_eq t).1 ht).1 hc hb]
      cases hl : lookL bs t.n with
      | none => exact ⟨rfl, ht⟩
      | some x =>
        have hx : x.n64 := h64 _ (lookL_mem hl)
        dsimp only [Option.map]
        by_cases hn : n < 2000
        · rw [if_pos hn, if_pos hn]; exact walkF_shift c bs hc hb h64 f (n + 1) x hx
        · rw [if_neg hn, if_neg hn]; exact ⟨rfl, zero64⟩
    · rw [if_neg hk, if_neg hk]; exact ⟨rfl, ht⟩
theorem meet_shift (c : Int) (bs : List (Int × Tm)) (hc : 0 ≤ c ∧ c ≤ 1000000) (hb : ∀ b ∈ bs, -1000000 ≤ b.1 ∧ b.1 ≤ 1000000) (h64 : Bds64 bs) (n : Nat) (t : Tm) (ht : t.n64) : meetL (shiftB c bs) n (t.shift c) = ((meetL bs n t).1.shift c, (meetL bs n t).2.1, (meetL bs n t).2.2) ∧ (meetL bs n t).1.n64 := by
  unfold meetL
  by_cases h : n < 2000
  · rw [if_pos h, if_pos h]; exact walkF_shift c bs hc hb h64 _ _ t ht
  · rw [if_neg h, if_neg h]; exact ⟨rfl, zero64⟩
theorem resList_shift (c : Int) (f g : Nat → Tm → Tm × Int × Nat) (h : ∀ n t, t.n64 → f n (t.shift c) = ((g n t).1.shift c, (g n t).2.1, (g n t).2.2)) : ∀ (l : List Tm) (n : Nat), Tm.n64s l → resList f n (l.map (Tm.shift c)) = ((resList g n l).1.map (Tm.shift c), (resList g n l).2.1, (resList g n l).2.2)
  | [], n, _ => rfl
  | a :: l, n, hl => by
    have ha := h n a hl.1
    rw [List.map_cons]
    by_cases h1 : (g n a).2.1 ≠ 0
    · rw [resList_bad g n a l h1, resList_bad f n _ _ (by rw [ha]; exact h1), ha]; rfl
    · have h1 : (g n a).2.1 = 0 := by simpa using h1
      rw [resList_cat g n a l h1, resList_cat f n _ _ (by rw [ha]; exact h1), ha]
      dsimp only
      rw [resList_shift c f g h l _ hl.2]
      unfold resCat
      dsimp only
      by_cases h2 : (resList g (g n a).2.2 l).2.1 ≠ 0
      · rw [if_pos h2, if_pos h2]; rfl
      · rw [if_neg h2, if_neg h2]; rfl
theorem resD_shift (c : Int) (bs : List (Int × Tm)) (hc : 0 ≤ c ∧ c ≤ 1000000) (hb : ∀ b ∈ bs, -1000000 ≤ b.1 ∧ b.1 ≤ 1000000) (h64 : Bds64 bs) : ∀ (d n : Nat) (t : Tm), t.n64 → resD (shiftB c bs) d n (t.shift c) = ((resD bs d n t).1.shift c, (resD bs d n t).2.1, (resD bs d n t).2.2)
  | 0, n, t, ht => by
    unfold resD
    by_cases h : n < 2000
    · simp only [if_pos h]; rfl
    · simp only [if_neg h]; rfl
  | d + 1, n, t, ht => by
    obtain ⟨hm, h6⟩ := meet_shift c bs hc hb h64 n t ht
    unfold resD
    rw [hm]
    dsimp only
    rw [Tm.shift_argsE, Tm.shift_kind, Tm.shift_name, Tm.shift_nE, resList_shift c _ (resD bs d) (fun n t ht => resD_shift c bs hc hb h64 d n t ht) _ _ ((Tm.n64_eq _).1 h6).2]
    dsimp only
    by_cases h : (meetL bs n t).2.1 ≠ 0
    · simp only [if_pos h]; rfl
    · simp only [if_neg h]
      by_cases h2 : (resList (resD bs d) (meetL bs n t).2.2 (meetL bs n t).1.args).2.1 ≠ 0
      · simp only [if_pos h2]; rfl
      · simp only [if_neg h2]
        show _ = (Tm.shift c (Tm.mk _ _ _ _), _, _)
        rw [Tm.shift_eq]
        rfl
end Go.Proofs.Ytpmohibhdnmjlaa
