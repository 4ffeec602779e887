/-
  Joined texts: UniM, UniN, UniR, UniQ.
-/
import Derived.Test.YtlpmofmhcnclhaaSubM
import Derived.Test.YtlpmofmhcnclhaaTermModelA

/-
  Unifying, plain: pairs of terms made one, one behind the other.
-/
namespace Go.Proofs.Ytlpmofmhcnclhaa
open Go.RowKit

abbrev Bds := List (Int × Tm)
/-- What two terms that were met come to. -/
inductive UStep where
  | same
  | bind (v : Int) (t : Tm)
  | args
  | clash
def ustep (x y : Tm) : UStep :=
  if x.kind = 1 ∧ y.kind = 1 ∧ x.n = y.n then .same
  else if y.kind = 1 ∧ (x.kind ≠ 1 ∨ x.n < y.n) then .bind y.n x
  else if x.kind = 1 then .bind x.n y
  else if x.kind ≠ y.kind ∨ x.name ≠ y.name ∨ x.n ≠ y.n ∨ x.args.length ≠ y.args.length then .clash
  else .args
/-- What is still to do behind two terms that were met. -/
def uniS (k : Bds → Nat → List (Tm × Tm) → Option Bds × Int × Nat) (bs : Bds) (x y : Tm) (n : Nat) (L : List (Tm × Tm)) : Option Bds × Int × Nat :=
  match ustep x y with
  | .same => k bs n L
  | .bind v t => k (bs ++ [(v, t)]) n L
  | .args => k bs n (List.zip x.args y.args ++ L)
  | .clash => (none, 0, n)
/-- Pairs made one: the bindings (none: they can't be one, or an error), the error, how many steps; so many rounds at most. -/
def uniL : Nat → Bds → Nat → List (Tm × Tm) → Option Bds × Int × Nat
  | 0, _, n, _ => (none, 140, n)
  | _ + 1, bs, n, [] => (some bs, 0, n)
  | f + 1, bs, n, (x, y) :: L =>
    if (meetL bs n x).2.1 ≠ 0 then (none, (meetL bs n x).2.1, (meetL bs n x).2.2)
    else if (meetL bs (meetL bs n x).2.2 y).2.1 ≠ 0 then (none, (meetL bs (meetL bs n x).2.2 y).2.1, (meetL bs (meetL bs n x).2.2 y).2.2)
    else uniS (uniL f) bs (meetL bs n x).1 (meetL bs (meetL bs n x).2.2 y).1 (meetL bs (meetL bs n x).2.2 y).2.2 L
def uni (bs : Bds) (n : Nat) (L : List (Tm × Tm)) : Option Bds × Int × Nat := uniL (2002 - n) bs n L
theorem uniS_congr {k k' : Bds → Nat → List (Tm × Tm) → Option Bds × Int × Nat} {bs : Bds} {x y : Tm} {n : Nat} {L : List (Tm × Tm)} (h : ∀ b L, k b n L = k' b n L) : uniS k bs x y n L = uniS k' bs x y n L := by
  unfold uniS
  cases ustep x y with
  | same => exact h _ _
  | bind v t => exact h _ _
  | args => exact h _ _
  | clash => rfl
theorem uniL_fuel : ∀ (f g : Nat) (bs : Bds) (n : Nat) (L : List (Tm × Tm)), n ≤ 2000 → 2002 - n ≤ f → 2002 - n ≤ g → uniL f bs n L = uniL g bs n L
  | 0, _, _, n, _, hn, hf, _ => by omega
  | _ + 1, 0, _, n, _, hn, _, hg => by omega
  | f + 1, g + 1, bs, n, [], _, _, _ => rfl
  | f + 1, g + 1, bs, n, (x, y) :: L, hn, hf, hg => by
    unfold uniL
    rcases meet_out bs n x hn with ⟨h1, _, h3, h4⟩ | ⟨h1, _⟩
    · have a1 : ¬ ((meetL bs n x).2.1 ≠ 0) := by rw [h1]; nofun
      simp only [if_neg a1]
      rcases meet_out bs (meetL bs n x).2.2 y h4 with ⟨k1, _, k3, k4⟩ | ⟨k1, _⟩
      · have a2 : ¬ ((meetL bs (meetL bs n x).2.2 y).2.1 ≠ 0) := by rw [k1]; nofun
        simp only [if_neg a2]
        exact uniS_congr fun b L => uniL_fuel f g b _ L k4 (by omega) (by omega)
      · have a2 : (meetL bs (meetL bs n x).2.2 y).2.1 ≠ 0 := by rw [k1]; nofun
        simp only [if_pos a2]
    · have a1 : (meetL bs n x).2.1 ≠ 0 := by rw [h1]; nofun
      simp only [if_pos a1]
theorem uni_nil (bs : Bds) (n : Nat) (hn : n ≤ 2000) : uni bs n [] = (some bs, 0, n) := by
  unfold uni
  obtain ⟨f, hf⟩ : ∃ f, 2002 - n = f + 1 := ⟨2001 - n, by omega⟩
  rw [hf]; rfl
theorem uni_cons (bs : Bds) (n : Nat) (x y : Tm) (L : List (Tm × Tm)) (hn : n ≤ 2000) : uni bs n ((x, y) :: L) =
    if (meetL bs n x).2.1 ≠ 0 then (none, (meetL bs n x).2.1, (meetL bs n x).2.2)
    else if (meetL bs (meetL bs n x).2.2 y).2.1 ≠ 0 then (none, (meetL bs (meetL bs n x).2.2 y).2.1, (meetL bs (meetL bs n x).2.2 y).2.2)
    else uniS uni bs (meetL bs n x).1 (meetL bs (meetL bs n x).2.2 y).1 (meetL bs (meetL bs n x).2.2 y).2.2 L := by
  show uniL (2002 - n) bs n _ = _
  obtain ⟨f, hf⟩ : ∃ f, 2002 - n = f + 1 := ⟨2001 - n, by omega⟩
  rw [hf]
  unfold uniL
  rcases meet_out bs n x hn with ⟨h1, _, h3, h4⟩ | ⟨h1, _⟩
  · have a1 : ¬ ((meetL bs n x).2.1 ≠ 0) := by rw [h1]; nofun
    simp only [if_neg a1]
    rcases meet_out bs (meetL bs n x).2.2 y h4 with ⟨k1, _, k3, k4⟩ | ⟨k1, _⟩
    · have a2 : ¬ ((meetL bs (meetL bs n x).2.2 y).2.1 ≠ 0) := by rw [k1]; nofun
      simp only [if_neg a2]
      exact uniS_congr fun b L => uniL_fuel f _ b _ L k4 (by omega) (Nat.le_refl _)
    · have a2 : (meetL bs (meetL bs n x).2.2 y).2.1 ≠ 0 := by rw [k1]; nofun
      simp only [if_pos a2]
  · have a1 : (meetL bs n x).2.1 ≠ 0 := by rw [h1]; nofun
    simp only [if_pos a1]
/-- A pair met: both terms, how many steps; or not. -/
theorem uni_ways (bs : Bds) (n : Nat) (x y : Tm) (hn : n ≤ 2000) :
    (∃ x' y' n1 n2, meetL bs n x = (x', 0, n1) ∧ meetL bs n1 y = (y', 0, n2) ∧ n1 ≤ 2000 ∧ n + 2 ≤ n2 ∧ n2 ≤ 2000 ∧ ∀ L, uni bs n ((x, y) :: L) = uniS uni bs x' y' n2 L) ∨
    (((meetL bs n x).2.1 ≠ 0 ∨ (meetL bs (meetL bs n x).2.2 y).2.1 ≠ 0) ∧ ∀ L, uni bs n ((x, y) :: L) = (none, 140, 2001)) := by
  rcases meet_out bs n x hn with ⟨h1, _, h3, h4⟩ | ⟨h1, _, h3⟩
  · rcases meet_out bs (meetL bs n x).2.2 y h4 with ⟨k1, _, k3, k4⟩ | ⟨k1, _, k3⟩
    · refine .inl ⟨(meetL bs n x).1, (meetL bs (meetL bs n x).2.2 y).1, (meetL bs n x).2.2, (meetL bs (meetL bs n x).2.2 y).2.2, ?_, ?_, h4, by omega, k4, fun L => ?_⟩
      · rw [← h1]
      · rw [← k1]
      · rw [uni_cons bs n x y L hn, if_neg (by rw [h1]; nofun), if_neg (by rw [k1]; nofun)]
    · refine .inr ⟨.inr (by rw [k1]; nofun), fun L => ?_⟩
      rw [uni_cons bs n x y L hn, if_neg (by rw [h1]; nofun), if_pos (by rw [k1]; nofun), k1, k3]
  · refine .inr ⟨.inl (by rw [h1]; nofun), fun L => ?_⟩
    rw [uni_cons bs n x y L hn, if_pos (by rw [h1]; nofun), h1, h3]
/-- Behind one another. -/
def uniT (r : Option Bds × Int × Nat) (L : List (Tm × Tm)) : Option Bds × Int × Nat := match r with | (some b, _, n) => uni b n L | (none, e, n) => (none, e, n)
theorem uni_append : ∀ (m : Nat) (bs : Bds) (n : Nat) (L1 L2 : List (Tm × Tm)), 2002 - n ≤ m → n ≤ 2000 → uni bs n (L1 ++ L2) = uniT (uni bs n L1) L2
  | 0, _, n, _, _, hm, hn => by omega
  | m + 1, bs, n, [], L2, hm, hn => by rw [List.nil_append, uni_nil bs n hn]; rfl
  | m + 1, bs, n, (x, y) :: L1, L2, hm, hn => by
    rw [List.cons_append]
    rcases uni_ways bs n x y hn with ⟨x', y', n1, n2, _, _, _, h2, h3, h4⟩ | ⟨_, h⟩
    · rw [h4, h4]
      unfold uniS
      cases ustep x' y' with
      | same => exact uni_append m bs n2 L1 L2 (by omega) h3
      | bind v t => exact uni_append m (bs ++ [(v, t)]) n2 L1 L2 (by omega) h3
      | args =>
        dsimp only
        rw [← List.append_assoc]
        exact uni_append m bs n2 (List.zip x'.args y'.args ++ L1) L2 (by omega) h3
      | clash => rfl
    · rw [h, h]; rfl
theorem uni_after (bs : Bds) (n : Nat) (L1 L2 : List (Tm × Tm)) (hn : n ≤ 2000) : uni bs n (L1 ++ L2) = uniT (uni bs n L1) L2 := uni_append _ bs n L1 L2 (Nat.le_refl _) hn
/-- What comes out of it. -/
theorem uni_out : ∀ (m : Nat) (bs : Bds) (n : Nat) (L : List (Tm × Tm)), 2002 - n ≤ m → n ≤ 2000 →
    (∃ l n', uni bs n L = (some l, 0, n') ∧ n ≤ n' ∧ n' ≤ 2000) ∨ (∃ n', uni bs n L = (none, 0, n') ∧ n ≤ n' ∧ n' ≤ 2000) ∨ uni bs n L = (none, 140, 2001)
  | 0, _, n, _, hm, hn => by omega
  | m + 1, bs, n, [], hm, hn => .inl ⟨bs, n, uni_nil bs n hn, Nat.le_refl _, hn⟩
  | m + 1, bs, n, (x, y) :: L, hm, hn => by
    rcases uni_ways bs n x y hn with ⟨x', y', n1, n2, _, _, _, h2, h3, h4⟩ | ⟨_, h⟩
    · rw [h4]
      have key : ∀ b L', (∃ l n', uni b n2 L' = (some l, 0, n') ∧ n ≤ n' ∧ n' ≤ 2000) ∨ (∃ n', uni b n2 L' = (none, 0, n') ∧ n ≤ n' ∧ n' ≤ 2000) ∨ uni b n2 L' = (none, 140, 2001) := fun b L' => by
        rcases uni_out m b n2 L' (by omega) h3 with ⟨l, n', a, b, c⟩ | ⟨n', a, b, c⟩ | a
        · exact .inl ⟨l, n', a, by omega, c⟩
        · exact .inr (.inl ⟨n', a, by omega, c⟩)
        · exact .inr (.inr a)
      unfold uniS
      cases ustep x' y' with
      | same => exact key _ _
      | bind v t => exact key _ _
      | args => exact key _ _
      | clash => exact .inr (.inl ⟨n2, rfl, by omega, h3⟩)
    · exact .inr (.inr (h L))

/-! Walks without a count. -/
inductive Wlk (bs : Bds) : Tm → Tm → Prop where
  | stop (t : Tm) : (t.kind = 1 → lookL bs t.n = none) → Wlk bs t t
  | step (t x z : Tm) : t.kind = 1 → lookL bs t.n = some x → Wlk bs x z → Wlk bs t z
theorem walkF_wlk {bs : Bds} : ∀ (f n : Nat) (t : Tm), (walkF bs f n t).2.1 = 0 → Wlk bs t (walkF bs f n t).1
  | 0, n, t, h => by unfold walkF at h; cases h
  | f + 1, n, t, h => by
    unfold walkF at h ⊢
    by_cases hk : t.kind = 1
    · rw [if_pos hk] at h ⊢
      cases hx : lookL bs t.n with
      | none => exact .stop t fun _ => hx
      | some x =>
        rw [hx] at h
        dsimp only at h ⊢
        by_cases hn : n < 2000
        · rw [if_pos hn] at h ⊢
          exact .step t x _ hk hx (walkF_wlk f (n + 1) x h)
        · rw [if_neg hn] at h; cases h
    · rw [if_neg hk]; exact .stop t fun e => absurd e hk
theorem meet_wlk {bs : Bds} {n : Nat} {t : Tm} (h : (meetL bs n t).2.1 = 0) : Wlk bs t (meetL bs n t).1 := by
  unfold meetL at h ⊢
  by_cases hn : n < 2000
  · rw [if_pos hn] at h ⊢; exact walkF_wlk _ _ t h
  · rw [if_neg hn] at h; cases h
theorem Wlk.one {bs : Bds} {t a b : Tm} (h : Wlk bs t a) (k : Wlk bs t b) : a = b := by
  induction h with
  | stop t ht =>
    cases k with
    | stop => rfl
    | step _ x _ h1 h2 _ => rw [ht h1] at h2; cases h2
  | step t x z h1 h2 _ ih =>
    cases k with
    | stop _ ht => rw [ht h1] at h2; cases h2
    | step _ x' _ _ k2 k3 =>
      rw [h2] at k2
      injection k2 with k2
      subst k2
      exact ih k3
theorem Wlk.end {bs : Bds} {t a : Tm} (h : Wlk bs t a) : a.kind = 1 → lookL bs a.n = none := by
  induction h with
  | stop t ht => exact ht
  | step _ _ _ _ _ _ ih => exact ih
theorem Wlk.self {bs : Bds} {t a : Tm} (h : Wlk bs t a) : Wlk bs a a := .stop a h.end
/-- All bindings stay what they are. -/
def Exts (b l : Bds) : Prop := ∀ u t, lookL b u = some t → lookL l u = some t
/-- A walk goes on where it ended. -/
theorem Wlk.more {b l : Bds} {t a z : Tm} (h : Wlk b t a) (he : Exts b l) (k : Wlk l t z) : Wlk l a z := by
  induction h with
  | stop => exact k
  | step t x a h1 h2 _ ih =>
    refine ih ?_
    cases k with
    | stop _ ht => rw [he _ _ h2] at ht; cases ht h1
    | step _ x' _ _ k2 k3 =>
      rw [he _ _ h2] at k2
      injection k2 with k2
      subst k2
      exact k3
end Go.Proofs.Ytlpmofmhcnclhaa

/-
  Unifying, plain: which is first does not matter; a term with itself; what was made one is one.
-/
namespace Go.Proofs.Ytlpmofmhcnclhaa
open Go.RowKit

/-! Which is first. -/
theorem walkF_count {bs : Bds} : ∀ (f n : Nat) (t t' : Tm) (n1 : Nat), n ≤ 2000 → 2001 - n ≤ f → walkF bs f n t = (t', 0, n1) → n ≤ n1 ∧ ∀ (m g : Nat), m + (n1 - n) ≤ 2000 → 2001 - m ≤ g → walkF bs g m t = (t', 0, m + (n1 - n))
  | 0, n, t, t', n1, hn, hf, h => by omega
  | f + 1, n, t, t', n1, hn, hf, h => by
    unfold walkF at h
    by_cases hk : t.kind = 1
    · rw [if_pos hk] at h
      cases hx : lookL bs t.n with
      | none =>
        rw [hx] at h
        dsimp only at h
        injection h with h1 h2
        injection h2 with _ h2
        subst h1 h2
        refine ⟨Nat.le_refl _, fun m g hm hg => ?_⟩
        obtain ⟨g', rfl⟩ : ∃ g', g = g' + 1 := ⟨g - 1, by omega⟩
        unfold walkF
        rw [if_pos hk, hx, Nat.sub_self]; rfl
      | some x =>
        rw [hx] at h
        dsimp only at h
        by_cases hn2 : n < 2000
        · rw [if_pos hn2] at h
          obtain ⟨h1, h2⟩ := walkF_count f (n + 1) x t' n1 (by omega) (by omega) h
          refine ⟨by omega, fun m g hm hg => ?_⟩
          obtain ⟨g', rfl⟩ : ∃ g', g = g' + 1 := ⟨g - 1, by omega⟩
          unfold walkF
          rw [if_pos hk, hx]
          dsimp only
          rw [if_pos (by omega), h2 (m + 1) g' (by omega) (by omega), show m + 1 + (n1 - (n + 1)) = m + (n1 - n) by omega]
        · rw [if_neg hn2] at h; cases h
    · rw [if_neg hk] at h
      injection h with h1 h2
      injection h2 with _ h2
      subst h1 h2
      refine ⟨Nat.le_refl _, fun m g hm hg => ?_⟩
      obtain ⟨g', rfl⟩ : ∃ g', g = g' + 1 := ⟨g - 1, by omega⟩
      unfold walkF
      rw [if_neg hk, Nat.sub_self]; rfl
theorem meet_count {bs : Bds} {n n1 : Nat} {t t' : Tm} (h : meetL bs n t = (t', 0, n1)) : n + 1 ≤ n1 ∧ ∀ m, m + (n1 - n) ≤ 2000 → meetL bs m t = (t', 0, m + (n1 - n)) := by
  unfold meetL at h
  by_cases hn : n < 2000
  · rw [if_pos hn] at h
    obtain ⟨h1, h2⟩ := walkF_count _ (n + 1) t t' n1 (by omega) (Nat.le_refl _) h
    refine ⟨h1, fun m hm => ?_⟩
    unfold meetL
    rw [if_pos (by omega)]
    have := h2 (m + 1) (2001 - (m + 1)) (by omega) (Nat.le_refl _)
    unfold walkL
    rw [this, show m + 1 + (n1 - (n + 1)) = m + (n1 - n) by omega]
  · rw [if_neg hn] at h; cases h
def swapP (p : Tm × Tm) : Tm × Tm := (p.2, p.1)
theorem ustep_same {x y : Tm} (hx : x.kind = 1) (hy : y.kind = 1) (h : x.n = y.n) : ustep x y = .same := by
  unfold ustep; rw [if_pos ⟨hx, hy, h⟩]
theorem ustep_right {x y : Tm} (hy : y.kind = 1) (h : x.kind ≠ 1 ∨ x.n < y.n) : ustep x y = .bind y.n x := by
  unfold ustep
  rw [if_neg (show ¬ (x.kind = 1 ∧ y.kind = 1 ∧ x.n = y.n) from fun k => h.elim (fun e => e k.1) (fun e => by have := k.2.2; omega)), if_pos ⟨hy, h⟩]
theorem ustep_left {x y : Tm} (hx : x.kind = 1) (h : y.kind ≠ 1 ∨ y.n < x.n) : ustep x y = .bind x.n y := by
  unfold ustep
  rw [if_neg (show ¬ (x.kind = 1 ∧ y.kind = 1 ∧ x.n = y.n) from fun k => h.elim (fun e => e k.2.1) (fun e => by have := k.2.2; omega)),
    if_neg (show ¬ (y.kind = 1 ∧ (x.kind ≠ 1 ∨ x.n < y.n)) from fun k => h.elim (fun e => e k.1) (fun e => k.2.elim (fun q => q hx) (fun q => by omega))), if_pos hx]
def clashP (x y : Tm) : Prop := x.kind ≠ y.kind ∨ x.name ≠ y.name ∨ x.n ≠ y.n ∨ x.args.length ≠ y.args.length
theorem clash_turn {x y : Tm} (h : clashP x y) : clashP y x := Or.imp Ne.symm (Or.imp Ne.symm (Or.imp Ne.symm Ne.symm)) h
theorem ustep_clash {x y : Tm} (hx : x.kind ≠ 1) (hy : y.kind ≠ 1) (h : clashP x y) : ustep x y = .clash := by
  unfold ustep
  rw [if_neg (show ¬ (x.kind = 1 ∧ y.kind = 1 ∧ x.n = y.n) from fun k => hx k.1), if_neg (show ¬ (y.kind = 1 ∧ (x.kind ≠ 1 ∨ x.n < y.n)) from fun k => hy k.1), if_neg hx]; exact if_pos h
theorem ustep_args {x y : Tm} (hx : x.kind ≠ 1) (hy : y.kind ≠ 1) (h : ¬ clashP x y) : ustep x y = .args := by
  unfold ustep
  rw [if_neg (show ¬ (x.kind = 1 ∧ y.kind = 1 ∧ x.n = y.n) from fun k => hx k.1), if_neg (show ¬ (y.kind = 1 ∧ (x.kind ≠ 1 ∨ x.n < y.n)) from fun k => hy k.1), if_neg hx]; exact if_neg h
theorem ustep_bind {x' y' : Tm} {v : Int} {t : Tm} (e : ustep x' y' = .bind v t) : (y'.kind = 1 ∧ y'.n = v ∧ x' = t) ∨ (x'.kind = 1 ∧ x'.n = v ∧ y' = t) := by
  unfold ustep at e
  split at e
  · cases e
  split at e
  · rename_i hc; injection e with e1 e2; exact .inl ⟨hc.1, e1, e2⟩
  split at e
  · rename_i hc; injection e with e1 e2; exact .inr ⟨hc, e1, e2⟩
  split at e <;> cases e
theorem ustep_turn (x y : Tm) : (∃ v t, ustep x y = .bind v t ∧ ustep y x = .bind v t) ∨ (ustep x y = .same ∧ ustep y x = .same) ∨ (ustep x y = .args ∧ ustep y x = .args) ∨ (ustep x y = .clash ∧ ustep y x = .clash) := by
  by_cases hx : x.kind = 1 <;> by_cases hy : y.kind = 1
  · by_cases h1 : x.n = y.n
    · exact .inr (.inl ⟨ustep_same hx hy h1, ustep_same hy hx h1.symm⟩)
    · by_cases h2 : x.n < y.n
      · exact .inl ⟨_, _, ustep_right hy (.inr h2), ustep_left hy (.inr h2)⟩
      · exact .inl ⟨_, _, ustep_left hx (.inr (by omega)), ustep_right hx (.inr (by omega))⟩
  · exact .inl ⟨_, _, ustep_left hx (.inl hy), ustep_right hx (.inl hy)⟩
  · exact .inl ⟨_, _, ustep_right hy (.inl hx), ustep_left hy (.inl hx)⟩
  · by_cases hc : clashP x y
    · exact .inr (.inr (.inr ⟨ustep_clash hx hy hc, ustep_clash hy hx (clash_turn hc)⟩))
    · exact .inr (.inr (.inl ⟨ustep_args hx hy hc, ustep_args hy hx fun h => hc (clash_turn h)⟩))
theorem zip_swap : ∀ (l m : List Tm), List.zip m l = (List.zip l m).map swapP
  | [], [] => rfl
  | [], _ :: _ => rfl
  | _ :: _, [] => rfl
  | a :: l, b :: m => by rw [List.zip_cons_cons, List.zip_cons_cons, List.map_cons, zip_swap l m]; rfl
theorem uni_ways_turn {bs : Bds} {n : Nat} {x y x' y' : Tm} {n1 n2 : Nat} (h1 : meetL bs n x = (x', 0, n1)) (h2 : meetL bs n1 y = (y', 0, n2)) (h3 : n2 ≤ 2000) : ∃ n1', meetL bs n y = (y', 0, n1') ∧ meetL bs n1' x = (x', 0, n2) := by
  obtain ⟨a1, a2⟩ := meet_count h1
  obtain ⟨b1, b2⟩ := meet_count h2
  refine ⟨n + (n2 - n1), b2 n (by omega), ?_⟩
  have := a2 (n + (n2 - n1)) (by omega)
  rw [this, show n + (n2 - n1) + (n1 - n) = n2 by omega]
theorem uni_met {bs : Bds} {n n1 n2 : Nat} {x y x' y' : Tm} (hn : n ≤ 2000) (h1 : meetL bs n x = (x', 0, n1)) (h2 : meetL bs n1 y = (y', 0, n2)) (L : List (Tm × Tm)) : uni bs n ((x, y) :: L) = uniS uni bs x' y' n2 L := by
  rw [uni_cons bs n x y L hn, h1]
  dsimp only
  rw [if_neg (by nofun), h2, if_neg (by nofun)]
theorem uni_turn : ∀ (m : Nat) (bs : Bds) (n : Nat) (L : List (Tm × Tm)), 2002 - n ≤ m → n ≤ 2000 → uni bs n (L.map swapP) = uni bs n L
  | 0, _, n, _, hm, hn => by omega
  | m + 1, bs, n, [], hm, hn => rfl
  | m + 1, bs, n, (x, y) :: L, hm, hn => by
    show uni bs n ((y, x) :: L.map swapP) = _
    rcases uni_ways bs n x y hn with ⟨x', y', n1, n2, a1, a2, _, h2, h3, h4⟩ | ⟨hno, h⟩
    · obtain ⟨n1', b1, b2⟩ := uni_ways_turn a1 a2 h3
      rw [h4, uni_met hn b1 b2]
      unfold uniS
      rcases ustep_turn x' y' with ⟨v, t, e1, e2⟩ | ⟨e1, e2⟩ | ⟨e1, e2⟩ | ⟨e1, e2⟩ <;> rw [e1, e2]
      · exact uni_turn m _ n2 L (by omega) h3
      · exact uni_turn m _ n2 L (by omega) h3
      · dsimp only
        rw [zip_swap x'.args y'.args, ← List.map_append]
        exact uni_turn m _ n2 _ (by omega) h3
    · rw [h]
      rcases uni_ways bs n y x hn with ⟨y', x', n1, n2, a1, a2, _, h2, h3, h4⟩ | ⟨_, h'⟩
      · obtain ⟨n1', b1, b2⟩ := uni_ways_turn a1 a2 h3
        rw [b1] at hno
        dsimp only at hno
        rw [b2] at hno
        rcases hno with e | e <;> exact absurd rfl e
      · exact h' _

/-! A term with itself. -/
theorem ustep_self (x : Tm) : ustep x x = .same ∨ ustep x x = .args := by
  by_cases h : x.kind = 1
  · exact .inl (ustep_same h h rfl)
  · exact .inr (ustep_args h h fun e => by rcases e with e | e | e | e <;> exact e rfl)
theorem zip_self (l : List Tm) : ∀ p ∈ List.zip l l, p.1 = p.2 := by
  induction l with
  | nil => intro p hp; cases hp
  | cons a l ih =>
    intro p hp
    rw [List.zip_cons_cons] at hp
    rcases List.mem_cons.1 hp with rfl | hp
    · rfl
    · exact ih p hp
theorem uni_self : ∀ (m : Nat) (bs : Bds) (n : Nat) (L : List (Tm × Tm)), 2002 - n ≤ m → n ≤ 2000 → (∀ p ∈ L, p.1 = p.2) → (∃ n', uni bs n L = (some bs, 0, n')) ∨ uni bs n L = (none, 140, 2001)
  | 0, _, n, _, hm, hn, _ => by omega
  | m + 1, bs, n, [], hm, hn, _ => .inl ⟨n, uni_nil bs n hn⟩
  | m + 1, bs, n, (x, y) :: L, hm, hn, hL => by
    obtain rfl : x = y := hL (x, y) (.head _)
    have hL' : ∀ p ∈ L, p.1 = p.2 := fun p hp => hL p (.tail _ hp)
    rcases uni_ways bs n x x hn with ⟨x', y', n1, n2, a1, a2, _, h2, h3, h4⟩ | ⟨_, h⟩
    · have w1 := meet_wlk (bs := bs) (n := n) (t := x) (by rw [a1])
      have w2 := meet_wlk (bs := bs) (n := n1) (t := x) (by rw [a2])
      rw [a1] at w1
      rw [a2] at w2
      obtain rfl : x' = y' := w1.one w2
      rw [h4]
      unfold uniS
      rcases ustep_self x' with e | e <;> rw [e]
      · exact uni_self m bs n2 L (by omega) h3 hL'
      · refine uni_self m bs n2 _ (by omega) h3 fun p hp => ?_
        rcases List.mem_append.1 hp with hp | hp
        · exact zip_self _ p hp
        · exact hL' p hp
    · exact .inr (h L)

/-! What was made one is one. -/
/-- Terms that are the same under bindings, so many levels deep. -/
def EqK (l : Bds) : Nat → Tm → Tm → Prop
  | 0, _, _ => True
  | k + 1, x, y => ∀ z1 z2, Wlk l x z1 → Wlk l y z2 → z1 = z2 ∨ (z1.kind ≠ 1 ∧ z1.kind = z2.kind ∧ z1.name = z2.name ∧ z1.n = z2.n ∧ z1.args.length = z2.args.length ∧ ∀ p ∈ List.zip z1.args z2.args, EqK l k p.1 p.2)
theorem EqK.refl (l : Bds) : ∀ (k : Nat) (x : Tm), EqK l k x x
  | 0, _ => trivial
  | _ + 1, _ => fun _ _ h1 h2 => .inl (h1.one h2)
/-- What is bound stays so; the bindings' terms and the pairs' may be. -/
def MayB (b : Bds) : Prop := ∀ p ∈ b, p.2.may = true
def MayP (L : List (Tm × Tm)) : Prop := ∀ p ∈ L, p.1.may = true ∧ p.2.may = true
theorem Wlk.may {b : Bds} {t z : Tm} (h : Wlk b t z) (hb : MayB b) : t.may = true → z.may = true := by
  induction h with
  | stop => exact id
  | step t x z _ h2 _ ih => exact fun _ => ih (hb _ (lookL_mem h2))
theorem mays_mem {l : List Tm} (h : Tm.mays l = true) : ∀ a ∈ l, a.may = true := by
  induction l with
  | nil => intro a ha; cases ha
  | cons t l ih =>
    intro a ha
    obtain ⟨h1, h2⟩ := mays_cons h
    rcases List.mem_cons.1 ha with rfl | ha
    · exact h1
    · exact ih h2 a ha
theorem may_args {t : Tm} (h : t.may = true) : ∀ a ∈ t.args, a.may = true := by
  rcases may_parts h with ⟨_, _, e⟩ | ⟨_, _, e⟩ | ⟨_, _, e⟩ | ⟨_, _, e⟩
  · rw [e]; intro a ha; cases ha
  · rw [e]; intro a ha; cases ha
  · rw [e]; intro a ha; cases ha
  · exact mays_mem e
theorem may_var {x y : Tm} (hx : x.may = true) (hy : y.may = true) (h1 : x.kind = 1) (h2 : y.kind = 1) (hn : x.n = y.n) : x = y := by
  rcases may_parts hx with ⟨_, a, b⟩ | ⟨k, _⟩ | ⟨k, _⟩ | ⟨k, _⟩
  · rcases may_parts hy with ⟨_, c, d⟩ | ⟨k, _⟩ | ⟨k, _⟩ | ⟨k, _⟩
    · exact Tm.ext5 (h1.trans h2.symm) (nil_name a c) hn (b.trans d.symm)
    all_goals omega
  all_goals omega
theorem zip_mem {l m : List Tm} {p : Tm × Tm} (h : p ∈ List.zip l m) : p.1 ∈ l ∧ p.2 ∈ m := List.of_mem_zip h
theorem MayP.zip {x y : Tm} {L : List (Tm × Tm)} (hx : x.may = true) (hy : y.may = true) (hL : MayP L) : MayP (List.zip x.args y.args ++ L) := fun p hp => by
  rcases List.mem_append.1 hp with hp | hp
  · exact ⟨may_args hx _ (zip_mem hp).1, may_args hy _ (zip_mem hp).2⟩
  · exact hL p hp
theorem Exts.refl (b : Bds) : Exts b b := fun _ _ h => h
theorem Exts.trans {a b c : Bds} (h : Exts a b) (k : Exts b c) : Exts a c := fun u t e => k u t (h u t e)
theorem Exts.snoc {b : Bds} {v : Int} {t : Tm} (h : lookL b v = none) : Exts b (b ++ [(v, t)]) := fun u s e => by
  rw [lookL_snoc]
  by_cases hv : v = u
  · subst hv; rw [h] at e; cases e
  · rw [if_neg hv]; exact e
theorem Wlk.var {l : Bds} {x z t : Tm} (h : Wlk l x z) (hk : x.kind = 1) (hl : lookL l x.n = some t) : Wlk l t z := by
  cases h with
  | stop _ ht => rw [ht hk] at hl; cases hl
  | step _ x' _ _ k2 k3 =>
    rw [hl] at k2
    injection k2 with k2
    subst k2
    exact k3
theorem Wlk.nonvar {l : Bds} {x z : Tm} (h : Wlk l x z) (hk : x.kind ≠ 1) : z = x := by
  cases h with
  | stop => rfl
  | step _ _ _ k1 _ _ => exact absurd k1 hk
theorem uni_one : ∀ (m : Nat) (bs l : Bds) (n n' : Nat) (L : List (Tm × Tm)), 2002 - n ≤ m → n ≤ 2000 → MayB bs → MayP L → uni bs n L = (some l, 0, n') → Exts bs l ∧ MayB l ∧ ∀ p ∈ L, ∀ k, EqK l k p.1 p.2
  | 0, _, _, n, _, _, hm, hn, _, _, _ => by omega
  | m + 1, bs, l, n, n', [], hm, hn, hb, hL, h => by
    rw [uni_nil bs n hn] at h
    injection h with h _
    injection h with h
    subst h
    exact ⟨Exts.refl _, hb, fun p hp => by cases hp⟩
  | m + 1, bs, l, n, n', (x, y) :: L, hm, hn, hb, hL, h => by
    have hL' : MayP L := fun p hp => hL p (.tail _ hp)
    obtain ⟨hxm, hym⟩ := hL (x, y) (.head _)
    rcases uni_ways bs n x y hn with ⟨x', y', n1, n2, a1, a2, _, h2, h3, h4⟩ | ⟨_, h'⟩
    · have w1 := meet_wlk (bs := bs) (n := n) (t := x) (by rw [a1])
      have w2 := meet_wlk (bs := bs) (n := n1) (t := y) (by rw [a2])
      rw [a1] at w1
      rw [a2] at w2
      dsimp only at w1 w2
      have mx := w1.may hb hxm
      have my := w2.may hb hym
      rw [h4] at h
      -- what a binding comes to
      have hbind : ∀ (v : Int) (u t : Tm), u.kind = 1 → u.n = v → lookL bs v = none → t.may = true → uni (bs ++ [(v, t)]) n2 L = (some l, 0, n') → Exts bs l ∧ MayB l ∧ (∀ p ∈ L, ∀ k, EqK l k p.1 p.2) ∧ ∀ z, Wlk l u z → Wlk l t z := fun v u t hu hv hl ht hh => by
        have hb' : MayB (bs ++ [(v, t)]) := fun p hp => by
          rcases List.mem_append.1 hp with hp | hp
          · exact hb p hp
          · rw [List.mem_singleton.1 hp]; exact ht
        obtain ⟨q1, q2, q3⟩ := uni_one m _ l n2 n' L (by omega) h3 hb' hL' hh
        refine ⟨(Exts.snoc hl).trans q1, q2, q3, fun z hz => hz.var hu (q1 _ _ (by rw [hv, lookL_snoc, if_pos rfl]))⟩
      unfold uniS at h
      cases e : ustep x' y' with
      | same =>
        rw [e] at h
        obtain ⟨q1, q2, q3⟩ := uni_one m bs l n2 n' L (by omega) h3 hb hL' h
        refine ⟨q1, q2, fun p hp k => ?_⟩
        rcases List.mem_cons.1 hp with rfl | hp
        · cases k with
          | zero => trivial
          | succ k =>
            intro z1 z2 k1 k2
            obtain rfl : x' = y' := by
              unfold ustep at e
              by_cases hc : x'.kind = 1 ∧ y'.kind = 1 ∧ x'.n = y'.n
              · exact may_var mx my hc.1 hc.2.1 hc.2.2
              · rw [if_neg hc] at e
                split at e
                · cases e
                split at e
                · cases e
                split at e <;> cases e
            exact .inl ((w1.more q1 k1).one (w2.more q1 k2))
        · exact q3 p hp k
      | bind v t =>
        rw [e] at h
        have hway := ustep_bind e
        rcases hway with ⟨c1, c2, rfl⟩ | ⟨c1, c2, rfl⟩
        · obtain ⟨q1, q2, q3, q4⟩ := hbind v y' x' c1 c2 (c2 ▸ w2.end c1) mx h
          refine ⟨q1, q2, fun p hp k => ?_⟩
          rcases List.mem_cons.1 hp with rfl | hp
          · cases k with
            | zero => trivial
            | succ k => intro z1 z2 k1 k2; exact .inl ((w1.more q1 k1).one (q4 _ (w2.more q1 k2)))
          · exact q3 p hp k
        · obtain ⟨q1, q2, q3, q4⟩ := hbind v x' y' c1 c2 (c2 ▸ w1.end c1) my h
          refine ⟨q1, q2, fun p hp k => ?_⟩
          rcases List.mem_cons.1 hp with rfl | hp
          · cases k with
            | zero => trivial
            | succ k => intro z1 z2 k1 k2; exact .inl ((q4 _ (w1.more q1 k1)).one (w2.more q1 k2))
          · exact q3 p hp k
      | args =>
        rw [e] at h
        obtain ⟨q1, q2, q3⟩ := uni_one m bs l n2 n' _ (by omega) h3 hb (hL'.zip mx my) h
        refine ⟨q1, q2, fun p hp k => ?_⟩
        rcases List.mem_cons.1 hp with rfl | hp
        · cases k with
          | zero => trivial
          | succ k =>
            intro z1 z2 k1 k2
            have hc : x'.kind ≠ 1 ∧ y'.kind ≠ 1 ∧ x'.kind = y'.kind ∧ x'.name = y'.name ∧ x'.n = y'.n ∧ x'.args.length = y'.args.length := by
              unfold ustep at e
              split at e
              · cases e
              split at e
              · cases e
              rename_i c1
              split at e
              · cases e
              rename_i c2
              split at e
              · cases e
              rename_i c3
              refine ⟨c2, fun hy => c1 ⟨hy, .inl c2⟩, Decidable.byContradiction fun hh => c3 (.inl hh), Decidable.byContradiction fun hh => c3 (.inr (.inl hh)), Decidable.byContradiction fun hh => c3 (.inr (.inr (.inl hh))), Decidable.byContradiction fun hh => c3 (.inr (.inr (.inr hh)))⟩
            obtain ⟨c1, c2, c3, c4, c5, c6⟩ := hc
            have r1 := (w1.more q1 k1).nonvar c1
            have r2 := (w2.more q1 k2).nonvar c2
            subst r1 r2
            exact .inr ⟨c1, c3, c4, c5, c6, fun p hp => q3 p (List.mem_append_left _ hp) k⟩
        · exact q3 p (List.mem_append_right _ hp) k
      | clash => rw [e] at h; cases h
    · rw [h'] at h; cases h
/-- Made one again: nothing is bound any more. -/
theorem uni_again {l : Bds} : ∀ (m : Nat) (n : Nat) (L : List (Tm × Tm)), 2002 - n ≤ m → n ≤ 2000 → (∀ p ∈ L, ∀ k, EqK l k p.1 p.2) → (∃ n', uni l n L = (some l, 0, n')) ∨ uni l n L = (none, 140, 2001)
  | 0, n, _, hm, hn, _ => by omega
  | m + 1, n, [], hm, hn, _ => .inl ⟨n, uni_nil l n hn⟩
  | m + 1, n, (x, y) :: L, hm, hn, hL => by
    have hL' : ∀ p ∈ L, ∀ k, EqK l k p.1 p.2 := fun p hp => hL p (.tail _ hp)
    have hxy := hL (x, y) (.head _)
    rcases uni_ways l n x y hn with ⟨x', y', n1, n2, a1, a2, _, h2, h3, h4⟩ | ⟨_, h⟩
    · have w1 := meet_wlk (bs := l) (n := n) (t := x) (by rw [a1])
      have w2 := meet_wlk (bs := l) (n := n1) (t := y) (by rw [a2])
      rw [a1] at w1
      rw [a2] at w2
      dsimp only at w1 w2
      rw [h4]
      by_cases heq : x' = y'
      · subst heq
        unfold uniS
        rcases ustep_self x' with e | e <;> rw [e]
        · exact uni_again m n2 L (by omega) h3 hL'
        · refine uni_again m n2 _ (by omega) h3 fun p hp k => ?_
          rcases List.mem_append.1 hp with hp | hp
          · rw [zip_self _ p hp]; exact EqK.refl l k _
          · exact hL' p hp k
      · have hk : ∀ k, x'.kind ≠ 1 ∧ x'.kind = y'.kind ∧ x'.name = y'.name ∧ x'.n = y'.n ∧ x'.args.length = y'.args.length ∧ ∀ p ∈ List.zip x'.args y'.args, EqK l k p.1 p.2 := fun k => (hxy (k + 1) x' y' w1 w2).resolve_left heq
        obtain ⟨c1, c2, c3, c4, c5, _⟩ := hk 0
        have e : ustep x' y' = .args := by
          refine ustep_args c1 (fun h => c1 (c2.trans h)) fun h => ?_
          rcases h with h | h | h | h
          · exact h c2
          · exact h c3
          · exact h c4
          · exact h c5
        unfold uniS
        rw [e]
        refine uni_again m n2 _ (by omega) h3 fun p hp k => ?_
        rcases List.mem_append.1 hp with hp | hp
        · exact (hk k).2.2.2.2.2 p hp
        · exact hL' p hp k
    · exact .inr (h L)

/-! New bindings are of variables that were not bound. -/
theorem uni_news : ∀ (m : Nat) (bs l : Bds) (n n' : Nat) (L : List (Tm × Tm)), 2002 - n ≤ m → n ≤ 2000 → uni bs n L = (some l, 0, n') → ∃ news : Bds, l = bs ++ news ∧ ∀ i (hi : i < news.length), lookL (bs ++ news.take i) news[i].1 = none
  | 0, _, _, n, _, _, hm, hn, _ => by omega
  | m + 1, bs, l, n, n', [], hm, hn, h => by
    rw [uni_nil bs n hn] at h
    injection h with h _
    injection h with h
    exact ⟨[], by rw [List.append_nil, h], fun i hi => by cases hi⟩
  | m + 1, bs, l, n, n', (x, y) :: L, hm, hn, h => by
    rcases uni_ways bs n x y hn with ⟨x', y', n1, n2, a1, a2, _, h2, h3, h4⟩ | ⟨_, h'⟩
    · have w1 := meet_wlk (bs := bs) (n := n) (t := x) (by rw [a1])
      have w2 := meet_wlk (bs := bs) (n := n1) (t := y) (by rw [a2])
      rw [a1] at w1
      rw [a2] at w2
      dsimp only at w1 w2
      rw [h4] at h
      unfold uniS at h
      cases e : ustep x' y' with
      | same => rw [e] at h; exact uni_news m bs l n2 n' L (by omega) h3 h
      | args => rw [e] at h; exact uni_news m bs l n2 n' _ (by omega) h3 h
      | clash => rw [e] at h; cases h
      | bind v t =>
        rw [e] at h
        have hl : lookL bs v = none := by
          unfold ustep at e
          split at e
          · cases e
          split at e
          · rename_i hc; injection e with e1 e2; rw [← e1]; exact w2.end hc.1
          split at e
          · rename_i hc; injection e with e1 e2; rw [← e1]; exact w1.end hc
          split at e <;> cases e
        obtain ⟨news, q1, q2⟩ := uni_news m _ l n2 n' L (by omega) h3 h
        refine ⟨(v, t) :: news, by rw [q1, List.append_assoc]; rfl, fun i hi => ?_⟩
        cases i with
        | zero => show lookL (bs ++ []) v = none; rw [List.append_nil]; exact hl
        | succ i =>
          have := q2 i (by simpa using hi)
          rw [List.append_assoc] at this
          exact this
    · rw [h'] at h; cases h
end Go.Proofs.Ytlpmofmhcnclhaa

/-
  Unifying, plain: what is kept of all terms that are bound; how many bindings there are.
-/
namespace Go.Proofs.Ytlpmofmhcnclhaa
open Go.RowKit

/-- What holds of a term's arguments, too. -/
def Closed (Φ : Tm → Prop) : Prop := ∀ t, Φ t → ∀ a ∈ t.args, Φ a
theorem Wlk.keeps {Φ : Tm → Prop} {b : Bds} {t z : Tm} (h : Wlk b t z) (hb : ∀ p ∈ b, Φ p.2) : Φ t → Φ z := by
  induction h with
  | stop => exact id
  | step t x z _ h2 _ ih => exact fun _ => ih (hb _ (lookL_mem h2))
theorem uni_all {Φ : Tm → Prop} (hΦ : Closed Φ) : ∀ (m : Nat) (bs l : Bds) (n n' : Nat) (L : List (Tm × Tm)), 2002 - n ≤ m → n ≤ 2000 → (∀ p ∈ bs, Φ p.2) → (∀ p ∈ L, Φ p.1 ∧ Φ p.2) → uni bs n L = (some l, 0, n') → (∀ p ∈ l, Φ p.2) ∧ l.length ≤ bs.length + (n' - n) ∧ n ≤ n'
  | 0, _, _, n, _, _, hm, hn, _, _, _ => by omega
  | m + 1, bs, l, n, n', [], hm, hn, hb, _, h => by
    rw [uni_nil bs n hn] at h
    injection h with h h2
    injection h with h
    injection h2 with _ h2
    subst h
    exact ⟨hb, by omega, by omega⟩
  | m + 1, bs, l, n, n', (x, y) :: L, hm, hn, hb, hL, h => by
    have hL' : ∀ p ∈ L, Φ p.1 ∧ Φ p.2 := fun p hp => hL p (.tail _ hp)
    obtain ⟨hx, hy⟩ := hL (x, y) (.head _)
    rcases uni_ways bs n x y hn with ⟨x', y', n1, n2, a1, a2, _, h2, h3, h4⟩ | ⟨_, h'⟩
    · have w1 := meet_wlk (bs := bs) (n := n) (t := x) (by rw [a1])
      have w2 := meet_wlk (bs := bs) (n := n1) (t := y) (by rw [a2])
      rw [a1] at w1
      rw [a2] at w2
      dsimp only at w1 w2
      have mx := w1.keeps hb hx
      have my := w2.keeps hb hy
      rw [h4] at h
      unfold uniS at h
      cases e : ustep x' y' with
      | same =>
        rw [e] at h
        obtain ⟨q1, q2, q3⟩ := uni_all hΦ m bs l n2 n' L (by omega) h3 hb hL' h
        exact ⟨q1, by omega, by omega⟩
      | clash => rw [e] at h; cases h
      | args =>
        rw [e] at h
        obtain ⟨q1, q2, q3⟩ := uni_all hΦ m bs l n2 n' _ (by omega) h3 hb (fun p hp => by
          rcases List.mem_append.1 hp with hp | hp
          · exact ⟨hΦ _ mx _ (zip_mem hp).1, hΦ _ my _ (zip_mem hp).2⟩
          · exact hL' p hp) h
        exact ⟨q1, by omega, by omega⟩
      | bind v t =>
        rw [e] at h
        have ht : Φ t := by
          rcases ustep_bind e with ⟨_, _, rfl⟩ | ⟨_, _, rfl⟩
          · exact mx
          · exact my
        obtain ⟨q1, q2, q3⟩ := uni_all hΦ m _ l n2 n' L (by omega) h3 (fun p hp => by
          rcases List.mem_append.1 hp with hp | hp
          · exact hb p hp
          · rw [List.mem_singleton.1 hp]; exact ht) hL' h
        rw [List.length_append, List.length_singleton] at q2
        exact ⟨q1, by omega, by omega⟩
    · rw [h'] at h; cases h
theorem closed_size (M : Nat) : Closed fun t => t.size ≤ M := fun t ht a ha => by
  have := Tm.mem_size ha
  have := t.size_eq
  omega
theorem closed_may : Closed fun t => t.may = true := fun _ ht => may_args ht
/-- Bindings and pairs, all of whose terms are no greater. -/
theorem uni_sizes {M n n' : Nat} {bs l : Bds} {L : List (Tm × Tm)} (hn : n ≤ 2000) (hb : ∀ p ∈ bs, p.2.size ≤ M) (hL : ∀ p ∈ L, p.1.size ≤ M ∧ p.2.size ≤ M) (h : uni bs n L = (some l, 0, n')) : (∀ p ∈ l, p.2.size ≤ M) ∧ l.length ≤ bs.length + (n' - n) ∧ n ≤ n' :=
  uni_all (closed_size M) _ bs l n n' L (Nat.le_refl _) hn hb hL h
/-- One pair ahead of others. -/
theorem uni_one_good {bs l : Bds} {n n' : Nat} {p : Tm × Tm} {L : List (Tm × Tm)} (hn : n ≤ 2000) (h : uni bs n [p] = (some l, 0, n')) : uni bs n (p :: L) = uni l n' L := by
  have := uni_after bs n [p] L hn
  rw [h] at this
  exact this
theorem uni_one_bad {bs : Bds} {n n' : Nat} {e : Int} {p : Tm × Tm} {L : List (Tm × Tm)} (hn : n ≤ 2000) (h : uni bs n [p] = (none, e, n')) : uni bs n (p :: L) = (none, e, n') := by
  have := uni_after bs n [p] L hn
  rw [h] at this
  exact this
end Go.Proofs.Ytlpmofmhcnclhaa

/-
  Comparing under bindings, plain: pairs of terms compared one behind the other.
-/
namespace Go.Proofs.Ytlpmofmhcnclhaa
open Go.RowKit

/-- Two terms that were met tell by themselves how they compare. -/
def leafP (x y : Tm) : Prop := x.kind ≠ 4 ∨ y.kind ≠ 4 ∨ x.name ≠ y.name ∨ x.args.length ≠ y.args.length
instance (x y : Tm) : Decidable (leafP x y) := inferInstanceAs (Decidable (x.kind ≠ 4 ∨ y.kind ≠ 4 ∨ x.name ≠ y.name ∨ x.args.length ≠ y.args.length))
noncomputable def cmpS (k : Nat → List (Tm × Tm) → Int × Int × Nat) (x y : Tm) (n : Nat) (L : List (Tm × Tm)) : Int × Int × Nat :=
  if leafP x y then (if x.cmp y ≠ 0 then (x.cmp y, 0, n) else k n L) else k n (List.zip x.args y.args ++ L)
/-- How they compare, the error, how many steps; so many rounds at most. -/
noncomputable def cmpL (bs : Bds) : Nat → Nat → List (Tm × Tm) → Int × Int × Nat
  | 0, n, _ => (0, 140, n)
  | _ + 1, n, [] => (0, 0, n)
  | f + 1, n, (x, y) :: L =>
    if (meetL bs n x).2.1 ≠ 0 then (0, (meetL bs n x).2.1, (meetL bs n x).2.2)
    else if (meetL bs (meetL bs n x).2.2 y).2.1 ≠ 0 then (0, (meetL bs (meetL bs n x).2.2 y).2.1, (meetL bs (meetL bs n x).2.2 y).2.2)
    else cmpS (cmpL bs f) (meetL bs n x).1 (meetL bs (meetL bs n x).2.2 y).1 (meetL bs (meetL bs n x).2.2 y).2.2 L
noncomputable def cmpr (bs : Bds) (n : Nat) (L : List (Tm × Tm)) : Int × Int × Nat := cmpL bs (2002 - n) n L
theorem cmpS_congr {k k' : Nat → List (Tm × Tm) → Int × Int × Nat} {x y : Tm} {n : Nat} {L : List (Tm × Tm)} (h : ∀ L, k n L = k' n L) : cmpS k x y n L = cmpS k' x y n L := by
  unfold cmpS
  rw [h, h]
theorem cmpL_fuel {bs : Bds} : ∀ (f g : Nat) (n : Nat) (L : List (Tm × Tm)), n ≤ 2000 → 2002 - n ≤ f → 2002 - n ≤ g → cmpL bs f n L = cmpL bs g n L
  | 0, _, n, _, hn, hf, _ => by omega
  | _ + 1, 0, n, _, hn, _, hg => by omega
  | f + 1, g + 1, n, [], _, _, _ => rfl
  | f + 1, g + 1, n, (x, y) :: L, hn, hf, hg => by
    unfold cmpL
    rcases meet_out bs n x hn with ⟨h1, _, h3, h4⟩ | ⟨h1, _⟩
    · have a1 : ¬ ((meetL bs n x).2.1 ≠ 0) := by rw [h1]; nofun
      simp only [if_neg a1]
      rcases meet_out bs (meetL bs n x).2.2 y h4 with ⟨k1, _, k3, k4⟩ | ⟨k1, _⟩
      · have a2 : ¬ ((meetL bs (meetL bs n x).2.2 y).2.1 ≠ 0) := by rw [k1]; nofun
        simp only [if_neg a2]
        exact cmpS_congr fun L => cmpL_fuel f g _ L k4 (by omega) (by omega)
      · have a2 : (meetL bs (meetL bs n x).2.2 y).2.1 ≠ 0 := by rw [k1]; nofun
        simp only [if_pos a2]
    · have a1 : (meetL bs n x).2.1 ≠ 0 := by rw [h1]; nofun
      simp only [if_pos a1]
theorem cmpr_nil (bs : Bds) (n : Nat) (hn : n ≤ 2000) : cmpr bs n [] = (0, 0, n) := by
  unfold cmpr
  obtain ⟨f, hf⟩ : ∃ f, 2002 - n = f + 1 := ⟨2001 - n, by omega⟩
  rw [hf]; rfl
theorem cmpr_cons (bs : Bds) (n : Nat) (x y : Tm) (L : List (Tm × Tm)) (hn : n ≤ 2000) : cmpr bs n ((x, y) :: L) =
    if (meetL bs n x).2.1 ≠ 0 then (0, (meetL bs n x).2.1, (meetL bs n x).2.2)
    else if (meetL bs (meetL bs n x).2.2 y).2.1 ≠ 0 then (0, (meetL bs (meetL bs n x).2.2 y).2.1, (meetL bs (meetL bs n x).2.2 y).2.2)
    else cmpS (cmpr bs) (meetL bs n x).1 (meetL bs (meetL bs n x).2.2 y).1 (meetL bs (meetL bs n x).2.2 y).2.2 L := by
  show cmpL bs (2002 - n) n _ = _
  obtain ⟨f, hf⟩ : ∃ f, 2002 - n = f + 1 := ⟨2001 - n, by omega⟩
  rw [hf]
  unfold cmpL
  rcases meet_out bs n x hn with ⟨h1, _, h3, h4⟩ | ⟨h1, _⟩
  · have a1 : ¬ ((meetL bs n x).2.1 ≠ 0) := by rw [h1]; nofun
    simp only [if_neg a1]
    rcases meet_out bs (meetL bs n x).2.2 y h4 with ⟨k1, _, k3, k4⟩ | ⟨k1, _⟩
    · have a2 : ¬ ((meetL bs (meetL bs n x).2.2 y).2.1 ≠ 0) := by rw [k1]; nofun
      simp only [if_neg a2]
      exact cmpS_congr fun L => cmpL_fuel f _ _ L k4 (by omega) (Nat.le_refl _)
    · have a2 : (meetL bs (meetL bs n x).2.2 y).2.1 ≠ 0 := by rw [k1]; nofun
      simp only [if_pos a2]
  · have a1 : (meetL bs n x).2.1 ≠ 0 := by rw [h1]; nofun
    simp only [if_pos a1]
theorem cmpr_met {bs : Bds} {n n1 n2 : Nat} {x y x' y' : Tm} (hn : n ≤ 2000) (h1 : meetL bs n x = (x', 0, n1)) (h2 : meetL bs n1 y = (y', 0, n2)) (L : List (Tm × Tm)) : cmpr bs n ((x, y) :: L) = cmpS (cmpr bs) x' y' n2 L := by
  rw [cmpr_cons bs n x y L hn, h1]
  dsimp only
  rw [if_neg (by nofun), h2, if_neg (by nofun)]
/-- A pair met, for both. -/
theorem pair_ways (bs : Bds) (n : Nat) (x y : Tm) (hn : n ≤ 2000) :
    (∃ x' y' n1 n2, meetL bs n x = (x', 0, n1) ∧ meetL bs n1 y = (y', 0, n2) ∧ n1 ≤ 2000 ∧ n + 2 ≤ n2 ∧ n2 ≤ 2000) ∨
    (((meetL bs n x).2.1 ≠ 0 ∨ (meetL bs (meetL bs n x).2.2 y).2.1 ≠ 0) ∧ ∀ L, uni bs n ((x, y) :: L) = (none, 140, 2001) ∧ cmpr bs n ((x, y) :: L) = (0, 140, 2001)) := by
  rcases meet_out bs n x hn with ⟨h1, _, h3, h4⟩ | ⟨h1, _, h3⟩
  · rcases meet_out bs (meetL bs n x).2.2 y h4 with ⟨k1, _, k3, k4⟩ | ⟨k1, _, k3⟩
    · refine .inl ⟨(meetL bs n x).1, (meetL bs (meetL bs n x).2.2 y).1, (meetL bs n x).2.2, (meetL bs (meetL bs n x).2.2 y).2.2, ?_, ?_, h4, by omega, k4⟩
      · rw [← h1]
      · rw [← k1]
    · refine .inr ⟨.inr (by rw [k1]; nofun), fun L => ⟨?_, ?_⟩⟩
      · rw [uni_cons bs n x y L hn, if_neg (by rw [h1]; nofun), if_pos (by rw [k1]; nofun), k1, k3]
      · rw [cmpr_cons bs n x y L hn, if_neg (by rw [h1]; nofun), if_pos (by rw [k1]; nofun), k1, k3]
  · refine .inr ⟨.inl (by rw [h1]; nofun), fun L => ⟨?_, ?_⟩⟩
    · rw [uni_cons bs n x y L hn, if_pos (by rw [h1]; nofun), h1, h3]
    · rw [cmpr_cons bs n x y L hn, if_pos (by rw [h1]; nofun), h1, h3]
/-- Behind one another. -/
noncomputable def cmpT (bs : Bds) (r : Int × Int × Nat) (L : List (Tm × Tm)) : Int × Int × Nat := if r.1 = 0 ∧ r.2.1 = 0 then cmpr bs r.2.2 L else r
theorem cmpr_after (bs : Bds) : ∀ (m : Nat) (n : Nat) (L1 L2 : List (Tm × Tm)), 2002 - n ≤ m → n ≤ 2000 → cmpr bs n (L1 ++ L2) = cmpT bs (cmpr bs n L1) L2
  | 0, n, _, _, hm, hn => by omega
  | m + 1, n, [], L2, hm, hn => by
    rw [List.nil_append, cmpr_nil bs n hn]
    unfold cmpT
    rw [if_pos ⟨rfl, rfl⟩]
  | m + 1, n, (x, y) :: L1, L2, hm, hn => by
    rw [List.cons_append]
    rcases pair_ways bs n x y hn with ⟨x', y', n1, n2, a1, a2, h1, h2, h3⟩ | ⟨_, h⟩
    · rw [cmpr_met hn a1 a2, cmpr_met hn a1 a2]
      unfold cmpS
      by_cases hl : leafP x' y'
      · rw [if_pos hl, if_pos hl]
        by_cases hc : x'.cmp y' ≠ 0
        · rw [if_pos hc, if_pos hc]
          unfold cmpT
          rw [if_neg (fun e => hc e.1)]
        · rw [if_neg hc, if_neg hc]; exact cmpr_after bs m n2 L1 L2 (by omega) h3
      · rw [if_neg hl, if_neg hl, ← List.append_assoc]
        exact cmpr_after bs m n2 (List.zip x'.args y'.args ++ L1) L2 (by omega) h3
    · rw [(h _).2, (h _).2]
      unfold cmpT
      rw [if_neg (fun e => by cases e.2)]
theorem cmpr_out (bs : Bds) : ∀ (m : Nat) (n : Nat) (L : List (Tm × Tm)), 2002 - n ≤ m → n ≤ 2000 → ((cmpr bs n L).2.1 = 0 ∧ n ≤ (cmpr bs n L).2.2 ∧ (cmpr bs n L).2.2 ≤ 2000) ∨ cmpr bs n L = (0, 140, 2001)
  | 0, n, _, hm, hn => by omega
  | m + 1, n, [], hm, hn => by rw [cmpr_nil bs n hn]; exact .inl ⟨rfl, Nat.le_refl _, hn⟩
  | m + 1, n, (x, y) :: L, hm, hn => by
    rcases pair_ways bs n x y hn with ⟨x', y', n1, n2, a1, a2, h1, h2, h3⟩ | ⟨_, h⟩
    · have key : ∀ L', ((cmpr bs n2 L').2.1 = 0 ∧ n ≤ (cmpr bs n2 L').2.2 ∧ (cmpr bs n2 L').2.2 ≤ 2000) ∨ cmpr bs n2 L' = (0, 140, 2001) := fun L' => by
        rcases cmpr_out bs m n2 L' (by omega) h3 with ⟨a, b, c⟩ | a
        · exact .inl ⟨a, by omega, c⟩
        · exact .inr a
      rw [cmpr_met hn a1 a2]
      unfold cmpS
      by_cases hl : leafP x' y'
      · rw [if_pos hl]
        by_cases hc : x'.cmp y' ≠ 0
        · rw [if_pos hc]; exact .inl ⟨rfl, by show n ≤ n2; omega, h3⟩
        · rw [if_neg hc]; exact key L
      · rw [if_neg hl]; exact key _
    · exact .inr (h L).2
theorem leaf_turn {x y : Tm} (h : leafP x y) : leafP y x := by
  rcases h with h | h | h | h
  · exact .inr (.inl h)
  · exact .inl h
  · exact .inr (.inr (.inl (Ne.symm h)))
  · exact .inr (.inr (.inr (Ne.symm h)))
/-- Which is first. -/
theorem cmpr_turn : ∀ (m : Nat) (bs : Bds) (n : Nat) (L : List (Tm × Tm)), 2002 - n ≤ m → n ≤ 2000 → MayB bs → MayP L → cmpr bs n (L.map swapP) = (-(cmpr bs n L).1, (cmpr bs n L).2.1, (cmpr bs n L).2.2)
  | 0, _, n, _, hm, hn, _, _ => by omega
  | m + 1, bs, n, [], hm, hn, _, _ => by show cmpr bs n [] = _; rw [cmpr_nil bs n hn]; rfl
  | m + 1, bs, n, (x, y) :: L, hm, hn, hb, hL => by
    have hL' : MayP L := fun p hp => hL p (.tail _ hp)
    obtain ⟨hxm, hym⟩ := hL (x, y) (.head _)
    show cmpr bs n ((y, x) :: L.map swapP) = _
    rcases pair_ways bs n x y hn with ⟨x', y', n1, n2, a1, a2, h1, h2, h3⟩ | ⟨hno, h⟩
    · have w1 := meet_wlk (bs := bs) (n := n) (t := x) (by rw [a1])
      have w2 := meet_wlk (bs := bs) (n := n1) (t := y) (by rw [a2])
      rw [a1] at w1
      rw [a2] at w2
      dsimp only at w1 w2
      have mx := w1.may hb hxm
      have my := w2.may hb hym
      obtain ⟨n1', b1, b2⟩ := uni_ways_turn a1 a2 h3
      rw [cmpr_met hn a1 a2, cmpr_met hn b1 b2]
      have ht := cmp_turn mx my
      unfold cmpS
      by_cases hl : leafP x' y'
      · rw [if_pos hl, if_pos (leaf_turn hl)]
        by_cases hc : x'.cmp y' ≠ 0
        · rw [if_pos hc, if_pos (by omega), ht]
        · rw [if_neg hc, if_neg (by omega)]; exact cmpr_turn m bs n2 L (by omega) h3 hb hL'
      · rw [if_neg hl, if_neg (fun e => hl (leaf_turn e)), zip_swap x'.args y'.args, ← List.map_append]
        exact cmpr_turn m bs n2 _ (by omega) h3 hb (hL'.zip mx my)
    · rw [(h L).2]
      rcases pair_ways bs n y x hn with ⟨y', x', n1, n2, a1, a2, h1, h2, h3⟩ | ⟨_, h'⟩
      · obtain ⟨n1', b1, b2⟩ := uni_ways_turn a1 a2 h3
        rw [b1] at hno
        dsimp only at hno
        rw [b2] at hno
        rcases hno with e | e <;> exact absurd rfl e
      · exact (h' _).2
/-- What compares as the same is made one by no bindings. -/
theorem cmpr_zero : ∀ (m : Nat) (bs : Bds) (n n' : Nat) (L : List (Tm × Tm)), 2002 - n ≤ m → n ≤ 2000 → MayB bs → MayP L → cmpr bs n L = (0, 0, n') → uni bs n L = (some bs, 0, n')
  | 0, _, n, _, _, hm, hn, _, _, _ => by omega
  | m + 1, bs, n, n', [], hm, hn, _, _, h => by
    rw [cmpr_nil bs n hn] at h
    injection h with _ h
    injection h with _ h
    rw [uni_nil bs n hn, h]
  | m + 1, bs, n, n', (x, y) :: L, hm, hn, hb, hL, h => by
    have hL' : MayP L := fun p hp => hL p (.tail _ hp)
    obtain ⟨hxm, hym⟩ := hL (x, y) (.head _)
    rcases pair_ways bs n x y hn with ⟨x', y', n1, n2, a1, a2, h1, h2, h3⟩ | ⟨_, h'⟩
    · have w1 := meet_wlk (bs := bs) (n := n) (t := x) (by rw [a1])
      have w2 := meet_wlk (bs := bs) (n := n1) (t := y) (by rw [a2])
      rw [a1] at w1
      rw [a2] at w2
      dsimp only at w1 w2
      have mx := w1.may hb hxm
      have my := w2.may hb hym
      rw [cmpr_met hn a1 a2] at h
      rw [uni_met hn a1 a2]
      unfold cmpS at h
      unfold uniS
      by_cases hl : leafP x' y'
      · rw [if_pos hl] at h
        by_cases hc : x'.cmp y' ≠ 0
        · rw [if_pos hc] at h; injection h with h _; exact absurd h hc
        · rw [if_neg hc] at h
          have hc : x'.cmp y' = 0 := by simpa using hc
          obtain rfl := cmp_zero mx my hc
          have hr := cmpr_zero m bs n2 n' L (by omega) h3 hb hL' h
          rcases ustep_self x' with e | e <;> rw [e]
          · exact hr
          · dsimp only
            have ha : x'.args = [] := by
              rcases may_parts mx with ⟨_, _, e⟩ | ⟨_, _, e⟩ | ⟨_, _, e⟩ | ⟨k, _, _⟩
              · exact e
              · exact e
              · exact e
              · exfalso
                rcases hl with q | q | q | q
                · exact q k
                · exact q k
                · exact q rfl
                · exact q rfl
            rw [ha]; exact hr
      · rw [if_neg hl] at h
        have hr := cmpr_zero m bs n2 n' _ (by omega) h3 hb (hL'.zip mx my) h
        have k1 : x'.kind = 4 := Decidable.byContradiction fun e => hl (.inl e)
        have k2 : y'.kind = 4 := Decidable.byContradiction fun e => hl (.inr (.inl e))
        have nz : ∀ {t : Tm}, t.may = true → t.kind = 4 → t.n = 0 := fun {t} ht hk => by
          rcases may_parts ht with ⟨e, _⟩ | ⟨e, _⟩ | ⟨e, _⟩ | ⟨_, e, _⟩
          · omega
          · omega
          · omega
          · exact e
        rw [ustep_args (by omega) (by omega) fun e => ?_]
        · exact hr
        · rcases e with e | e | e | e
          · exact e (k1.trans k2.symm)
          · exact hl (.inr (.inr (.inl e)))
          · exact e ((nz mx k1).trans (nz my k2).symm)
          · exact hl (.inr (.inr (.inr e)))
    · rw [(h' L).2] at h; injection h with _ h; injection h with h _; cases h
/-- A term with itself: both ways alike. -/
theorem cmpr_self : ∀ (m : Nat) (bs : Bds) (n : Nat) (L : List (Tm × Tm)), 2002 - n ≤ m → n ≤ 2000 → MayB bs → MayP L → (∀ p ∈ L, p.1 = p.2) → (∃ n', uni bs n L = (some bs, 0, n') ∧ cmpr bs n L = (0, 0, n')) ∨ (uni bs n L = (none, 140, 2001) ∧ cmpr bs n L = (0, 140, 2001))
  | 0, _, n, _, hm, hn, _, _, _ => by omega
  | m + 1, bs, n, [], hm, hn, _, _, _ => .inl ⟨n, uni_nil bs n hn, cmpr_nil bs n hn⟩
  | m + 1, bs, n, (x, y) :: L, hm, hn, hb, hL, hs => by
    obtain rfl : x = y := hs (x, y) (.head _)
    have hL' : MayP L := fun p hp => hL p (.tail _ hp)
    have hs' : ∀ p ∈ L, p.1 = p.2 := fun p hp => hs p (.tail _ hp)
    rcases pair_ways bs n x x hn with ⟨x', y', n1, n2, a1, a2, h1, h2, h3⟩ | ⟨_, h⟩
    · have w1 := meet_wlk (bs := bs) (n := n) (t := x) (by rw [a1])
      have w2 := meet_wlk (bs := bs) (n := n1) (t := x) (by rw [a2])
      rw [a1] at w1
      rw [a2] at w2
      obtain rfl : x' = y' := w1.one w2
      have mx := w1.may hb (hL (x, x) (.head _)).1
      rw [cmpr_met hn a1 a2, uni_met hn a1 a2]
      unfold cmpS uniS
      by_cases hl : leafP x' x'
      · rw [if_pos hl, if_neg (by rw [cmp_self mx]; nofun)]
        have hr := cmpr_self m bs n2 L (by omega) h3 hb hL' hs'
        rcases ustep_self x' with e | e <;> rw [e]
        · exact hr
        · dsimp only
          have ha : x'.args = [] := by
            rcases may_parts mx with ⟨_, _, e⟩ | ⟨_, _, e⟩ | ⟨_, _, e⟩ | ⟨k, _, _⟩
            · exact e
            · exact e
            · exact e
            · exfalso
              rcases hl with q | q | q | q
              · exact q k
              · exact q k
              · exact q rfl
              · exact q rfl
          rw [ha]; exact hr
      · rw [if_neg hl]
        have k1 : x'.kind = 4 := Decidable.byContradiction fun e => hl (.inl e)
        rw [ustep_args (by omega) (by omega) fun e => by rcases e with e | e | e | e <;> exact e rfl]
        refine cmpr_self m bs n2 _ (by omega) h3 hb (hL'.zip mx mx) fun p hp => ?_
        rcases List.mem_append.1 hp with hp | hp
        · exact zip_self _ p hp
        · exact hs' p hp
    · exact .inr (h L)
end Go.Proofs.Ytlpmofmhcnclhaa
