/-
  Unifying, plain: what was made one is resolved as the same; all numbers shifted.
-/
import Derived.Test.YtlpmofmhcnclhaaDoorUniPl
namespace Go.Proofs.YtlpmofmhcnclhaaDoor
open Go.RowKit

/-- A term resolved as the document does it: a term too deep is walked, too. -/
def resR (bs : Bds) : Nat → Nat → Tm → Tm × Int × Nat
  | 0, n, t => if (meetL bs n t).2.1 ≠ 0 then (zeroT, (meetL bs n t).2.1, (meetL bs n t).2.2) else (zeroT, 3, (meetL bs n t).2.2)
  | d + 1, n, t =>
    if (meetL bs n t).2.1 ≠ 0 then (zeroT, (meetL bs n t).2.1, (meetL bs n t).2.2)
    else if (resList (resR bs d) (meetL bs n t).2.2 (meetL bs n t).1.args).2.1 ≠ 0 then
      (zeroT, (resList (resR bs d) (meetL bs n t).2.2 (meetL bs n t).1.args).2.1, (resList (resR bs d) (meetL bs n t).2.2 (meetL bs n t).1.args).2.2)
    else (.mk (meetL bs n t).1.kind (meetL bs n t).1.name (meetL bs n t).1.n (resList (resR bs d) (meetL bs n t).2.2 (meetL bs n t).1.args).1, 0, (resList (resR bs d) (meetL bs n t).2.2 (meetL bs n t).1.args).2.2)
theorem resR_good {bs : Bds} {d n : Nat} {t s : Tm} {ns : Nat} (h : resR bs d n t = (s, 0, ns)) : ∃ d' t' n1 rl, d = d' + 1 ∧ Wlk bs t t' ∧ (resList (resR bs d') n1 t'.args) = (rl, 0, ns) ∧ s = .mk t'.kind t'.name t'.n rl := by
  cases d with
  | zero =>
    unfold resR at h
    split at h
    · rename_i h1; injection h with _ h; injection h with h _; exact absurd h h1
    · injection h with _ h; injection h with h _; cases h
  | succ d =>
    unfold resR at h
    split at h
    · rename_i h1; injection h with _ h; injection h with h _; exact absurd h h1
    · rename_i h1
      split at h
      · rename_i h2; injection h with _ h; injection h with h _; exact absurd h h2
      · rename_i h2
        have h1 : (meetL bs n t).2.1 = 0 := by simpa using h1
        have h2 : (resList (resR bs d) (meetL bs n t).2.2 (meetL bs n t).1.args).2.1 = 0 := by simpa using h2
        injection h with ha h
        injection h with _ hb
        refine ⟨d, (meetL bs n t).1, (meetL bs n t).2.2, _, rfl, meet_wlk h1, ?_, ha.symm⟩
        rw [← hb, ← h2]
theorem resList_one {f g : Nat → Tm → Tm × Int × Nat} {R : Tm → Tm → Prop} (hR : ∀ a b n m s t p q, R a b → f n a = (s, 0, p) → g m b = (t, 0, q) → s = t) : ∀ (A B : List Tm) (n m : Nat) (S T : List Tm) (p q : Nat), A.length = B.length → (∀ z ∈ List.zip A B, R z.1 z.2) → resList f n A = (S, 0, p) → resList g m B = (T, 0, q) → S = T
  | [], [], n, m, S, T, p, q, _, _, h1, h2 => by
    injection h1 with h1 _
    injection h2 with h2 _
    rw [← h1, ← h2]
  | [], b :: B, _, _, _, _, _, _, hl, _, _, _ => by cases hl
  | a :: A, [], _, _, _, _, _, _, hl, _, _, _ => by cases hl
  | a :: A, b :: B, n, m, S, T, p, q, hl, hz, h1, h2 => by
    have split : ∀ (f : Nat → Tm → Tm × Int × Nat) (n : Nat) (a : Tm) (A S : List Tm) (p : Nat), resList f n (a :: A) = (S, 0, p) → ∃ s S' n', f n a = (s, 0, n') ∧ resList f n' A = (S', 0, p) ∧ S = s :: S' := fun f n a A S p h => by
      by_cases e : (f n a).2.1 = 0
      · rw [resList_cat f n a A e] at h
        unfold resCat at h
        by_cases e2 : (resList f (f n a).2.2 A).2.1 ≠ 0
        · rw [if_pos e2] at h; injection h with _ h; injection h with h _; exact absurd h e2
        · rw [if_neg e2] at h
          injection h with h3 h
          injection h with _ h4
          have e2 : (resList f (f n a).2.2 A).2.1 = 0 := by simpa using e2
          refine ⟨(f n a).1, (resList f (f n a).2.2 A).1, (f n a).2.2, by rw [← e], by rw [← h4, ← e2], h3.symm⟩
      · rw [resList_bad f n a A e] at h; injection h with _ h; injection h with h _; exact absurd h e
    obtain ⟨s, S', n', a1, a2, rfl⟩ := split f n a A S p h1
    obtain ⟨t, T', m', b1, b2, rfl⟩ := split g m b B T q h2
    rw [hR a b n m s t n' m' (hz (a, b) (.head _)) a1 b1, resList_one hR A B n' m' S' T' p q (by simpa using hl) (fun z h => hz z (.tail _ h)) a2 b2]
theorem resR_one {l : Bds} : ∀ (d d' n m : Nat) (x y s t : Tm) (p q : Nat), (∀ k, EqK l k x y) → resR l d n x = (s, 0, p) → resR l d' m y = (t, 0, q) → s = t
  | 0, _, n, m, x, y, s, t, p, q, _, h1, _ => by obtain ⟨_, _, _, _, e, _⟩ := resR_good h1; cases e
  | d + 1, d', n, m, x, y, s, t, p, q, hE, h1, h2 => by
    obtain ⟨d1, x', n1, S, e1, wx, rx, rfl⟩ := resR_good h1
    obtain ⟨d2, y', m1, T, e2, wy, ry, rfl⟩ := resR_good h2
    obtain rfl : d = d1 := by omega
    have key : x'.kind = y'.kind ∧ x'.name = y'.name ∧ x'.n = y'.n ∧ x'.args.length = y'.args.length ∧ ∀ z ∈ List.zip x'.args y'.args, ∀ k, EqK l k z.1 z.2 := by
      by_cases heq : x' = y'
      · subst heq
        exact ⟨rfl, rfl, rfl, rfl, fun z hz k => by rw [zip_self _ z hz]; exact EqK.refl l k _⟩
      · have hk := fun k => (hE (k + 1) x' y' wx wy).resolve_left heq
        obtain ⟨_, c2, c3, c4, c5, _⟩ := hk 0
        exact ⟨c2, c3, c4, c5, fun z hz k => (hk k).2.2.2.2.2 z hz⟩
    obtain ⟨c1, c2, c3, c4, c5⟩ := key
    rw [c1, c2, c3, resList_one (R := fun a b => ∀ k, EqK l k a b) (fun a b n m s t p q hab ha hb => resR_one d d2 n m a b s t p q hab ha hb) x'.args y'.args n1 m1 S T p q c4 c5 rx ry]

/-! Shifted. -/
def InM (v : Int) : Prop := -1000000 ≤ v ∧ v ≤ 1000000
def PlM (t : Tm) : Prop := ∀ v ∈ t.places, InM v
def shiftP (c : Int) (p : Tm × Tm) : Tm × Tm := (p.1.shift c, p.2.shift c)
/-- Bindings that a shift leaves in their bounds. -/
structure BdsM (bs : Bds) : Prop where
  var : ∀ b ∈ bs, InM b.1
  n64 : Bds64 bs
  places : ∀ b ∈ bs, PlM b.2
def PrsM (L : List (Tm × Tm)) : Prop := ∀ p ∈ L, p.1.n64 ∧ p.2.n64 ∧ PlM p.1 ∧ PlM p.2
theorem Wlk.plM {b : Bds} {t z : Tm} (h : Wlk b t z) (hb : ∀ p ∈ b, PlM p.2) : PlM t → PlM z := by
  induction h with
  | stop => exact id
  | step t x z _ h2 _ ih => exact fun _ => ih (hb _ (lookL_mem h2))
theorem plM_n {t : Tm} (h : PlM t) (hk : t.kind = 1) : InM t.n := h _ (by rw [Tm.places_eq, if_pos hk]; simp)
theorem plM_arg {t a : Tm} (h : PlM t) (ha : a ∈ t.args) : PlM a := fun v hv => h v (by rw [Tm.places_eq]; exact List.mem_append_right _ (List.mem_flatMap.2 ⟨a, ha, hv⟩))
theorem n64_arg {t a : Tm} (h : t.n64) (ha : a ∈ t.args) : a.n64 := by
  have h1 := ((Tm.n64_eq t).1 h).2
  revert ha h1
  generalize t.args = l
  induction l with
  | nil => intro ha _; cases ha
  | cons b l ih =>
    intro ha h1
    rcases List.mem_cons.1 ha with rfl | ha
    · exact h1.1
    · exact ih ha h1.2
theorem shift_nM {t : Tm} {c : Int} (hc : 0 ≤ c ∧ c ≤ 1000000) (hk : t.kind = 1) (h : InM t.n) : (t.shift c).n = t.n + c := by
  unfold InM at h
  rw [Tm.shift_nE, if_pos hk]
  show wrap64 (t.n + c) = _
  unfold wrap64
  omega
theorem ustep_shift {x y : Tm} {c : Int} (hc : 0 ≤ c ∧ c ≤ 1000000) (hx : PlM x) (hy : PlM y) : ustep (x.shift c) (y.shift c) = match ustep x y with | .same => .same | .bind v t => .bind (v + c) (t.shift c) | .args => .args | .clash => .clash := by
  by_cases kx : x.kind = 1 <;> by_cases ky : y.kind = 1
  · have ex := shift_nM hc kx (plM_n hx kx)
    have ey := shift_nM hc ky (plM_n hy ky)
    have kx' : (x.shift c).kind = 1 := by rw [Tm.shift_kind]; exact kx
    have ky' : (y.shift c).kind = 1 := by rw [Tm.shift_kind]; exact ky
    by_cases h1 : x.n = y.n
    · rw [ustep_same kx ky h1, ustep_same kx' ky' (by rw [ex, ey, h1])]
    · by_cases h2 : x.n < y.n
      · rw [ustep_right ky (.inr h2), ustep_right ky' (.inr (by omega)), ey]
      · rw [ustep_left kx (.inr (by omega)), ustep_left kx' (.inr (by omega)), ex]
  · have ex := shift_nM hc kx (plM_n hx kx)
    have kx' : (x.shift c).kind = 1 := by rw [Tm.shift_kind]; exact kx
    have ky' : (y.shift c).kind ≠ 1 := by rw [Tm.shift_kind]; exact ky
    rw [ustep_left kx (.inl ky), ustep_left kx' (.inl ky'), ex]
  · have ey := shift_nM hc ky (plM_n hy ky)
    have kx' : (x.shift c).kind ≠ 1 := by rw [Tm.shift_kind]; exact kx
    have ky' : (y.shift c).kind = 1 := by rw [Tm.shift_kind]; exact ky
    rw [ustep_right ky (.inl kx), ustep_right ky' (.inl kx'), ey]
  · have kx' : (x.shift c).kind ≠ 1 := by rw [Tm.shift_kind]; exact kx
    have ky' : (y.shift c).kind ≠ 1 := by rw [Tm.shift_kind]; exact ky
    have hcl : clashP (x.shift c) (y.shift c) ↔ clashP x y := by
      unfold clashP
      rw [Tm.shift_kind, Tm.shift_kind, Tm.shift_name, Tm.shift_name, Tm.shift_nE, Tm.shift_nE, if_neg kx, if_neg ky, Tm.shift_argsE, Tm.shift_argsE, List.length_map, List.length_map]
    by_cases h : clashP x y
    · rw [ustep_clash kx ky h, ustep_clash kx' ky' (hcl.2 h)]
    · rw [ustep_args kx ky h, ustep_args kx' ky' fun e => h (hcl.1 e)]
theorem zip_shift (c : Int) : ∀ l m : List Tm, List.zip (l.map (Tm.shift c)) (m.map (Tm.shift c)) = (List.zip l m).map (shiftP c)
  | [], [] => rfl
  | [], _ :: _ => rfl
  | _ :: _, [] => rfl
  | a :: l, b :: m => by
    rw [List.map_cons, List.map_cons, List.zip_cons_cons, List.zip_cons_cons, List.map_cons, zip_shift c l m]; rfl
theorem uni_shift {c : Int} (hc : 0 ≤ c ∧ c ≤ 1000000) : ∀ (m : Nat) (bs : Bds) (n : Nat) (L : List (Tm × Tm)), 2002 - n ≤ m → n ≤ 2000 → BdsM bs → PrsM L →
    uni (shiftB c bs) n (L.map (shiftP c)) = ((uni bs n L).1.map (shiftB c), (uni bs n L).2.1, (uni bs n L).2.2)
  | 0, _, n, _, hm, hn, _, _ => by omega
  | m + 1, bs, n, [], hm, hn, hb, hL => by
    show uni (shiftB c bs) n [] = _
    rw [uni_nil _ n hn, uni_nil _ n hn]; rfl
  | m + 1, bs, n, (x, y) :: L, hm, hn, hb, hL => by
    obtain ⟨x64, y64, xm, ym⟩ := hL (x, y) (.head _)
    have hL' : PrsM L := fun p hp => hL p (.tail _ hp)
    obtain ⟨sx, x64'⟩ := meet_shift c bs hc hb.var hb.n64 n x x64
    show uni (shiftB c bs) n ((x.shift c, y.shift c) :: L.map (shiftP c)) = _
    rcases uni_ways bs n x y hn with ⟨x', y', n1, n2, a1, a2, h1, h2, h3, h4⟩ | ⟨hno, h⟩
    · obtain ⟨sy, y64'⟩ := meet_shift c bs hc hb.var hb.n64 n1 y y64
      rw [a1] at sx x64'
      rw [a2] at sy y64'
      dsimp only at sx sy x64' y64' xm ym
      have w1 := meet_wlk (bs := bs) (n := n) (t := x) (by rw [a1])
      have w2 := meet_wlk (bs := bs) (n := n1) (t := y) (by rw [a2])
      rw [a1] at w1
      rw [a2] at w2
      dsimp only at w1 w2
      have px := w1.plM hb.places xm
      have py := w2.plM hb.places ym
      rw [h4, uni_met hn sx sy]
      unfold uniS
      rw [ustep_shift hc px py]
      have hbind : ∀ (v : Int) (t : Tm), InM v → t.n64 → PlM t → uni (shiftB c bs ++ [(v + c, t.shift c)]) n2 (L.map (shiftP c)) = ((uni (bs ++ [(v, t)]) n2 L).1.map (shiftB c), (uni (bs ++ [(v, t)]) n2 L).2.1, (uni (bs ++ [(v, t)]) n2 L).2.2) := fun v t hv h64 hp => by
        have := uni_shift hc m (bs ++ [(v, t)]) n2 L (by omega) h3 ⟨fun b hb' => (List.mem_append.1 hb').elim (hb.var b) fun e => by rw [List.mem_singleton.1 e]; exact hv, fun b hb' => (List.mem_append.1 hb').elim (hb.n64 b) fun e => by rw [List.mem_singleton.1 e]; exact h64, fun b hb' => (List.mem_append.1 hb').elim (hb.places b) fun e => by rw [List.mem_singleton.1 e]; exact hp⟩ hL'
        rw [show shiftB c (bs ++ [(v, t)]) = shiftB c bs ++ [(v + c, t.shift c)] from List.map_append] at this
        exact this
      cases e : ustep x' y' with
      | same => exact uni_shift hc m bs n2 L (by omega) h3 hb hL'
      | clash => rfl
      | args =>
        dsimp only
        rw [Tm.shift_argsE, Tm.shift_argsE, zip_shift, ← List.map_append]
        refine uni_shift hc m bs n2 _ (by omega) h3 hb fun p hp => ?_
        rcases List.mem_append.1 hp with hp | hp
        · have hz := zip_mem hp
          exact ⟨n64_arg x64' hz.1, n64_arg y64' hz.2, plM_arg px hz.1, plM_arg py hz.2⟩
        · exact hL' p hp
      | bind v t =>
        have hway : (y'.kind = 1 ∧ y'.n = v ∧ x' = t) ∨ (x'.kind = 1 ∧ x'.n = v ∧ y' = t) := ustep_bind e
        rcases hway with ⟨c1, c2, rfl⟩ | ⟨c1, c2, rfl⟩
        · exact hbind v x' (c2 ▸ plM_n py c1) x64' px
        · exact hbind v y' (c2 ▸ plM_n px c1) y64' py
    · rw [h]
      have hno' : (meetL (shiftB c bs) n (x.shift c)).2.1 ≠ 0 ∨ (meetL (shiftB c bs) (meetL (shiftB c bs) n (x.shift c)).2.2 (y.shift c)).2.1 ≠ 0 := by
        rw [sx]
        dsimp only
        rcases hno with e | e
        · exact .inl e
        · right
          rw [(meet_shift c bs hc hb.var hb.n64 _ y y64).1]
          exact e
      rcases uni_ways (shiftB c bs) n (x.shift c) (y.shift c) hn with ⟨x', y', n1, n2, a1, a2, _⟩ | ⟨_, h'⟩
      · rw [a1] at hno'
        dsimp only at hno'
        rw [a2] at hno'
        rcases hno' with e | e <;> exact absurd rfl e
      · rw [h']; rfl
end Go.Proofs.YtlpmofmhcnclhaaDoor
