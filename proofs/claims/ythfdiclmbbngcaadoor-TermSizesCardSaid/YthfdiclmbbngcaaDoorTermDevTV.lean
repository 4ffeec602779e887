/-
  Joined texts: TermTie, TermVarM, TermDevV.
-/
import Derived.Test.YthfdiclmbbngcaaDoorTermDevCE
import Derived.Test.YthfdiclmbbngcaaDoorTermVariant
import Derived.Test.YthfdiclmbbngcaaDoorTermModelA
import Derived.Maps.OwnSet
import Derived.Maps.Views
import Derived.Maps.OwnIn

/-
  The contract of package term's own tie: a map as the list of the ties that were laid into it.
-/
namespace Go.Proofs.YthfdiclmbbngcaaDoor
open Go.RowKit Go.Maps

theorem mapLaw : Keyed Tryd.prog 2 := int_keyed Tryd.underlying2
theorem mapZero (w : World) : (zeroValue 2).run Tryd.prog w = .ok (.int .i64 0) w := by kernel_rfl
theorem wf64 {a : Int} (h : In64 a) : (Lit.int .i64 a).wf = true := by
  have e1 : IntKind.i64.min = -9223372036854775808 := rfl
  have e2 : IntKind.i64.max = 9223372036854775807 := rfl
  simp [Lit.wf, e1, e2]
  exact h
/-- The datum D holds just the ties of l. -/
structure Holds (D : DataW Unit) (l : List (Int × Int)) : Prop where
  isMap : IsMap D
  has : ∀ a, Maps.has D (.int .i64 a) = true ↔ ∃ c, (a, c) ∈ l
  at_ : ∀ a c, (a, c) ∈ l → D.atKey (.int .i64 a) (.lit (.int .i64 0)) = .lit (.int .i64 c)
/-- Block b is a map that holds just the ties of l. -/
def MapAs (w : World) (b n : Nat) (l : List (Int × Int)) : Prop := ∃ D : DataW Unit, w.ownsMap Tryd.prog 2 (plainElem Tryd.prog 2) b n D ∧ Holds D l
theorem MapAs.new (w : World) : MapAs (w.alloc (.map #[] 0)) w.heap.size 0 [] :=
  ⟨.map [], World.ownsMap_made _ _ _ _, isMap_empty, fun a => by simp [has_eq], fun a c h => by cases h⟩
theorem Holds.put {D : DataW Unit} {l : List (Int × Int)} (h : Holds D l) {a c : Int} (hn : ¬ ∃ c, (a, c) ∈ l) : Holds (D.put (.int .i64 a) (.lit (.int .i64 c))) (l ++ [(a, c)]) := by
  have hk : WideAt.IsKeyLit (.int .i64 a) := trivial
  refine ⟨h.isMap.put _ _, fun a' => ?_, fun a' c' hm => ?_⟩
  · by_cases e : a' = a
    · subst e
      rw [has_put_same h.isMap hk]
      exact ⟨fun _ => ⟨c, by simp⟩, fun _ => rfl⟩
    · rw [has_put_other (by intro e'; injection e'; contradiction), h.has]
      constructor
      · rintro ⟨c', hc⟩; exact ⟨c', List.mem_append_left _ hc⟩
      · rintro ⟨c', hc⟩
        rcases List.mem_append.1 hc with hc | hc
        · exact ⟨c', hc⟩
        · have := List.mem_singleton.1 hc; injection this; contradiction
  · rcases List.mem_append.1 hm with hm | hm
    · have e : a' ≠ a := fun e => hn ⟨c', e ▸ hm⟩
      rw [atKey_put_other (by intro e'; injection e'; contradiction), h.at_ a' c' hm]
    · have := List.mem_singleton.1 hm
      injection this with e1 e2
      subst e1 e2
      rw [atKey_put_same h.isMap hk]

set_option maxRecDepth 100000 in
set_option maxHeartbeats 1000000 in
theorem tie_new (w : World) (b n : Nat) (l : List (Int × Int)) (a c : Int) (h : MapAs w b n l) (ha : In64 a) (hc : In64 c) (hn : n < 10000000) (hno : ¬ ∃ c, (a, c) ∈ l) :
    Calls Tryd.prog 45 #[.map (some b), .int .i64 a, .int .i64 c] w fun e w' => e = .returned (.bool true) ∧ MapAs w' b (n + 1) (l ++ [(a, c)]) ∧ w.grownBy w' (some b) := by
  obtain ⟨D, hown, hH⟩ := h
  have hhas : Maps.has D (.int .i64 a) = false := by
    cases e : Maps.has D (.int .i64 a) with
    | false => rfl
    | true => exact absurd ((hH.has a).1 e) hno
  have HH := Lib.hid (hH.put (c := c) hno)
  have hka := keyOf_int_mk Tryd.underlying2 (wf64 ha)
  have hva := plainElem_int (H := Unit) Tryd.underlying2 (wf64 hc)
  clear hno hH
  go_enter Tryd.func45, Tryd.ntmps45
  go_wp2_with (first
    | (at_lookup; refine wpList_lookup_own_ok_int _ rfl _ _ 54 rfl 2 2 .i64 mapLaw Tryd.underlying54 Tryd.underlying2 (mapZero _) b n D rfl hown _ _ rfl hka ?_; intro c0 hat hwc; rw [hhas])
    | (at_mapUpdate; refine wpList_mapUpdate_own _ rfl _ _ _ 54 rfl 2 2 mapLaw Tryd.underlying54 _ b n D rfl hown (by unfold maxLen; omega) _ _ _ rfl rfl hka _ [] hva ?_; intro w1 hown1 hgrow1))
  go_ret
  exact ⟨rfl, ⟨_, hown1, HH.out⟩, hgrow1⟩

set_option maxRecDepth 100000 in
set_option maxHeartbeats 1000000 in
theorem tie_old (w : World) (b n : Nat) (l : List (Int × Int)) (a c d : Int) (h : MapAs w b n l) (ha : In64 a) (hm : (a, d) ∈ l) :
    Calls Tryd.prog 45 #[.map (some b), .int .i64 a, .int .i64 c] w fun e w' => e = .returned (.bool (d == c)) ∧ w = w' := by
  obtain ⟨D, hown, hH⟩ := h
  have hhas : Maps.has D (.int .i64 a) = true := (hH.has a).2 ⟨d, hm⟩
  have HAT := Lib.hid (hH.at_ a d hm)
  have hka := keyOf_int_mk Tryd.underlying2 (wf64 ha)
  clear hH hm
  obtain ⟨r, hr⟩ : ∃ r, (d == c) = r := ⟨_, rfl⟩
  rw [hr]
  go_enter Tryd.func45, Tryd.ntmps45
  go_wp2_with (first
    | (at_lookup; refine wpList_lookup_own_ok_int _ rfl _ _ 54 rfl 2 2 .i64 mapLaw Tryd.underlying54 Tryd.underlying2 (mapZero _) b n D rfl hown _ _ rfl hka ?_; intro c0 hat hwc; rw [hhas]; obtain rfl : c0 = d := (by have h := hat.symm.trans HAT.out; injection h with h; injection h))
    | fail)
  go_ret
  exact ⟨rfl, rfl⟩
end Go.Proofs.YthfdiclmbbngcaaDoor

/-
  Variants, told by the pairs of parts: plain.
-/
namespace Go.Proofs.YthfdiclmbbngcaaDoor
open Go.RowKit

/-- Whether two terms are the same as far as their arguments and the numbers of Vars are not asked. -/
def alkv (p : Tm × Tm) : Bool := alk p.1 p.2 && (decide (p.1.kind = 1) || decide (p.1.n = p.2.n))
/-- The numbers of the pairs of Vars. -/
def vps (l : List (Tm × Tm)) : List (Int × Int) := l.filterMap fun p => if p.1.kind = 1 then some (p.1.n, p.2.n) else none
theorem vps_append (l m : List (Tm × Tm)) : vps (l ++ m) = vps l ++ vps m := List.filterMap_append
/-- Each to one, no two to one. -/
def Bij (l : List (Int × Int)) : Prop := ∀ p ∈ l, ∀ q ∈ l, (p.1 = q.1 ↔ p.2 = q.2)
theorem alkv_iff (t u : Tm) : alkv (t, u) = true ↔ t.kind = u.kind ∧ t.name = u.name ∧ t.args.length = u.args.length ∧ (t.kind = 1 ∨ t.n = u.n) := by
  unfold alkv
  rw [Bool.and_eq_true, alk_iff, Bool.or_eq_true, decide_eq_true_eq, decide_eq_true_eq]
  constructor
  · rintro ⟨⟨a, b, c⟩, d⟩; exact ⟨a, b, c, d⟩
  · rintro ⟨a, b, c, d⟩; exact ⟨⟨a, b, c⟩, d⟩
theorem zps_bare' (k : Nat) : ∀ (l m : List Tm), Tm.sizes l ≤ k → l.length = m.length → ((Tm.zps l m).all alkv = true ↔ l.map Tm.bare = m.map Tm.bare) := by
  induction k with
  | zero =>
    intro l m h hl
    cases l with
    | nil => cases m with
      | nil => simp [Tm.zps]
      | cons u m => cases hl
    | cons t l => rw [Tm.sizes_cons] at h; have := t.size_pos; omega
  | succ k ih =>
    intro l m h hl
    cases l with
    | nil => cases m with
      | nil => simp [Tm.zps]
      | cons u m => cases hl
    | cons t l =>
      cases m with
      | nil => cases hl
      | cons u m =>
        rw [Tm.sizes_cons] at h
        have h1 := t.size_eq
        have h3 := ih l m (by have := t.size_pos; omega) (by simpa using hl)
        rw [Tm.zps_cons, Tm.zp_eq, List.all_append, List.all_cons, Bool.and_eq_true, Bool.and_eq_true, h3, alkv_iff, List.map_cons, List.map_cons]
        constructor
        · rintro ⟨⟨⟨a1, a2, a3, a4⟩, hb⟩, hr⟩
          have h2 := (ih t.args u.args (by omega) a3).1 hb
          rw [hr, Tm.bare_eq t, Tm.bare_eq u, h2, a1, a2]
          congr 2
          by_cases e : u.kind = 1
          · rw [if_pos e, if_pos e]
          · rw [if_neg e, if_neg e]
            rcases a4 with a4 | a4
            · exact absurd (a1 ▸ a4) e
            · exact a4
        · intro e
          injection e with e1 e2
          rw [Tm.bare_eq t, Tm.bare_eq u] at e1
          injection e1 with b1 b2 b3 b4
          have hlen : t.args.length = u.args.length := by simpa using congrArg List.length b4
          refine ⟨⟨⟨b1, b2, hlen, ?_⟩, (ih t.args u.args (by omega) hlen).2 b4⟩, e2⟩
          by_cases e : t.kind = 1
          · exact .inl e
          · rw [if_neg e, if_neg (by rw [← b1]; exact e)] at b3
            exact .inr b3
theorem zps_places' (k : Nat) : ∀ (l m : List Tm), Tm.sizes l ≤ k → l.map Tm.bare = m.map Tm.bare → (vps (Tm.zps l m)).map Prod.fst = l.flatMap Tm.places ∧ (vps (Tm.zps l m)).map Prod.snd = m.flatMap Tm.places := by
  induction k with
  | zero =>
    intro l m h hl
    cases l with
    | nil => cases m with
      | nil => exact ⟨rfl, rfl⟩
      | cons u m => cases hl
    | cons t l => rw [Tm.sizes_cons] at h; have := t.size_pos; omega
  | succ k ih =>
    intro l m h hl
    cases l with
    | nil => cases m with
      | nil => exact ⟨rfl, rfl⟩
      | cons u m => cases hl
    | cons t l =>
      cases m with
      | nil => cases hl
      | cons u m =>
        rw [Tm.sizes_cons] at h
        have h1 := t.size_eq
        rw [List.map_cons, List.map_cons] at hl
        injection hl with e1 e2
        have h3 := ih l m (by have := t.size_pos; omega) e2
        rw [Tm.bare_eq t, Tm.bare_eq u] at e1
        injection e1 with b1 b2 b3 b4
        have h2 := ih t.args u.args (by omega) b4
        rw [Tm.zps_cons, Tm.zp_eq, vps_append, List.map_append, List.map_append, h3.1, h3.2, List.flatMap_cons, List.flatMap_cons, Tm.places_eq t, Tm.places_eq u]
        have e : vps ((t, u) :: Tm.zps t.args u.args) = (if t.kind = 1 then [(t.n, u.n)] else []) ++ vps (Tm.zps t.args u.args) := by
          unfold vps
          rw [List.filterMap_cons]
          by_cases e : t.kind = 1
          · simp [e]
          · simp [e]
        rw [e, List.map_append, List.map_append, h2.1, h2.2, ← b1]
        by_cases e : t.kind = 1
        · simp [e]
        · simp [e]
theorem bij_pairs (v : List (Int × Int)) : pairs (v.map Prod.fst) (v.map Prod.snd) ↔ Bij v := by
  constructor
  · intro h p hp q hq
    obtain ⟨i, hi, rfl⟩ := List.mem_iff_getElem.1 hp
    obtain ⟨k, hk, rfl⟩ := List.mem_iff_getElem.1 hq
    have key : ∀ i k (hi : i < v.length) (hk : k < v.length), k < i → (v[i].1 = v[k].1 ↔ v[i].2 = v[k].2) := fun i k hi hk hlt => by
      have h1 := h i k hlt (by simpa using hi)
      rw [List.getD_eq_getElem?_getD, List.getD_eq_getElem?_getD, List.getD_eq_getElem?_getD, List.getD_eq_getElem?_getD] at h1
      simpa [hi, hk] using h1
    rcases Nat.lt_trichotomy k i with hlt | rfl | hlt
    · exact key i k hi hk hlt
    · exact ⟨fun _ => rfl, fun _ => rfl⟩
    · have := key k i hk hi hlt
      exact ⟨fun e => (this.1 e.symm).symm, fun e => (this.2 e.symm).symm⟩
  · intro h i k hlt hi
    have hi' : i < v.length := by simpa using hi
    have hk' : k < v.length := by omega
    have h1 := h v[i] (List.getElem_mem hi') v[k] (List.getElem_mem hk')
    rw [List.getD_eq_getElem?_getD, List.getD_eq_getElem?_getD, List.getD_eq_getElem?_getD, List.getD_eq_getElem?_getD]
    simpa [hi', hk'] using h1
theorem variant_zp (A B : Tm) : A.variant B = true ↔ (A.zp B).all alkv = true ∧ Bij (vps (A.zp B)) := by
  have h := zps_bare' _ [A] [B] (Nat.le_refl _) rfl
  have hz : Tm.zps [A] [B] = A.zp B := by rw [Tm.zps_cons, show Tm.zps [] [] = [] from rfl, List.append_nil]
  rw [hz] at h
  have hb : [A].map Tm.bare = [B].map Tm.bare ↔ A.bare = B.bare := by simp
  rw [variant_iff, h, hb]
  constructor
  · rintro ⟨h1, h2⟩
    have h3 := zps_places' _ [A] [B] (Nat.le_refl _) (hb.2 h1)
    rw [hz, List.flatMap_cons, List.flatMap_nil, List.append_nil, List.flatMap_cons, List.flatMap_nil, List.append_nil] at h3
    refine ⟨h1, (bij_pairs _).1 ?_⟩
    rw [h3.1, h3.2]; exact h2
  · rintro ⟨h1, h2⟩
    have h3 := zps_places' _ [A] [B] (Nat.le_refl _) (hb.2 h1)
    rw [hz, List.flatMap_cons, List.flatMap_nil, List.append_nil, List.flatMap_cons, List.flatMap_nil, List.append_nil] at h3
    refine ⟨h1, ?_⟩
    have h4 := (bij_pairs _).2 h2
    rw [h3.1, h3.2] at h4
    exact h4
end Go.Proofs.YthfdiclmbbngcaaDoor

/-
  The contract of package term's own Variant.
-/
namespace Go.Proofs.YthfdiclmbbngcaaDoor
open Go.RowKit Go.Shelf Go.Maps
attribute [local go_sem] Oper.semAt_some

/-- An object that, wherever it lies, is a map that holds just the ties of l. -/
def MapObj (o : Obj) (n : Nat) (l : List (Int × Int)) : Prop := ∀ (w : World) (b : Nat), w.heap[b]? = some o → MapAs w b n l
theorem MapAs.obj {w : World} {b n : Nat} {l : List (Int × Int)} (h : MapAs w b n l) : ∃ o, w.heap[b]? = some o ∧ MapObj o n l := by
  obtain ⟨D, ⟨es, clock, hb, F, hs, hD⟩, hH⟩ := h
  exact ⟨.map es clock, hb, fun w' b' hb' => ⟨D, ⟨es, clock, hb', F, hs, hD⟩, hH⟩⟩
theorem MapObj.up {o : Obj} {n : Nat} {l : List (Int × Int)} (h : MapObj o n l) : MapObj o (n + 1) l := fun w b hb => by
  obtain ⟨D, h1, h2⟩ := h w b hb
  exact ⟨D, h1.mono (Nat.le_succ _), h2⟩
/-- A block of the caller's that was written as a whole. -/
theorem Stay.turned {n₀ : Nat} {w W W' : World} {L : List (Nat × Obj)} {M : Nat → Prop} (h : Stay n₀ w L M W) {b : Nat} {o o' : Obj} (hq : (b, o) ∈ L) (hn : n₀ ≤ b) (hn0 : n₀ ≤ w.heap.size) (hM : ∀ j, M j → j < W.heap.size) (hg : W.grownBy W' (some b)) (ho : W'.heap[b]? = some o') :
    Keeps M W W' ∧ Below n₀ W W' ∧ Stay n₀ w (setL L b o') M W' := by
  have h1 := h.below.size
  have hb : Below n₀ W W' := ⟨hg.os, hg.tape, hg.output, hg.size, fun k hk => hg.block k (by omega) (fun e => by have := Option.some.inj e; omega)⟩
  refine ⟨⟨hg.size, fun j hj => hg.block j (hM j hj) (fun e => (h.far j hj).2 _ hq (Option.some.inj e).symm)⟩, hb, h.below.trans hb, fun j hj => ⟨(h.far j hj).1, fun p hp => ?_⟩, fun p hp => ?_⟩
  · obtain ⟨p0, hp0, rfl⟩ := List.mem_map.1 hp
    have := (h.far j hj).2 p0 hp0
    split
    · rename_i e; rw [e] at this; exact this
    · exact this
  · obtain ⟨p0, hp0, rfl⟩ := List.mem_map.1 hp
    split
    · exact ho
    · rename_i e; exact (hg.block p0.1 (h.lt hp0) (fun e' => e (Option.some.inj e'))).trans (h.has p0 hp0)
def swp (l : List (Int × Int)) : List (Int × Int) := l.map fun p => (p.2, p.1)
theorem mem_swp {l : List (Int × Int)} {a b : Int} : (b, a) ∈ swp l ↔ (a, b) ∈ l := by
  unfold swp
  constructor
  · intro h
    obtain ⟨p, hp, e⟩ := List.mem_map.1 h
    injection e with e1 e2
    subst e1 e2
    exact hp
  · intro h; exact List.mem_map.2 ⟨(a, b), h, rfl⟩
theorem swp_snoc (l : List (Int × Int)) (a b : Int) : swp (l ++ [(a, b)]) = swp l ++ [(b, a)] := by unfold swp; rw [List.map_append]; rfl
/-- What holds when k pairs have been met; l: the ties. -/
structure VUpto (A B : Tm) (k : Nat) (l : List (Int × Int)) : Prop where
  all : ((A.zp B).take k).all alkv = true
  bij : Bij l
  same : ∀ p, p ∈ l ↔ p ∈ vps ((A.zp B).take k)
theorem vps_take {l : List (Tm × Tm)} {k : Nat} {x y : Tm} (h : l[k]? = some (x, y)) : vps (l.take (k + 1)) = vps (l.take k) ++ (if x.kind = 1 then [(x.n, y.n)] else []) := by
  rw [List.take_add_one, h, vps_append]
  congr 1
  unfold vps
  show List.filterMap _ [(x, y)] = _
  by_cases e : x.kind = 1 <;> simp [e]
theorem vps_sub (l : List (Tm × Tm)) (k : Nat) : ∀ p ∈ vps (l.take k), p ∈ vps l := by
  intro p hp
  have h := vps_append (l.take k) (l.drop k)
  rw [List.take_append_drop] at h
  rw [h]; exact List.mem_append_left _ hp
theorem VUpto.stay {A B : Tm} {k : Nat} {l : List (Int × Int)} {x y : Tm} (h : VUpto A B k l) (hx : (A.zp B)[k]? = some (x, y)) (ha : alkv (x, y) = true) (hv : x.kind = 1 → (x.n, y.n) ∈ l) : VUpto A B (k + 1) l := by
  refine ⟨all_step2 hx h.all ha, h.bij, fun p => ?_⟩
  rw [vps_take hx, List.mem_append, ← h.same]
  constructor
  · exact fun hp => .inl hp
  · rintro (hp | hp)
    · exact hp
    · by_cases e : x.kind = 1
      · rw [if_pos e, List.mem_singleton] at hp; rw [hp]; exact hv e
      · rw [if_neg e] at hp; cases hp
theorem VUpto.more {A B : Tm} {k : Nat} {l : List (Int × Int)} {x y : Tm} (h : VUpto A B k l) (hx : (A.zp B)[k]? = some (x, y)) (ha : alkv (x, y) = true) (hv : x.kind = 1) (h1 : ¬ ∃ c, (x.n, c) ∈ l) (h2 : ¬ ∃ c, (c, y.n) ∈ l) : VUpto A B (k + 1) (l ++ [(x.n, y.n)]) := by
  refine ⟨all_step2 hx h.all ha, ?_, fun p => ?_⟩
  · intro p hp q hq
    rcases List.mem_append.1 hp with hp | hp <;> rcases List.mem_append.1 hq with hq | hq
    · exact h.bij p hp q hq
    · rw [List.mem_singleton.1 hq]
      exact ⟨fun e => absurd ⟨p.2, by rw [← show p.1 = x.n from e]; exact hp⟩ h1, fun e => absurd ⟨p.1, by rw [← show p.2 = y.n from e]; exact hp⟩ h2⟩
    · rw [List.mem_singleton.1 hp]
      exact ⟨fun e => absurd ⟨q.2, by rw [show x.n = q.1 from e]; exact hq⟩ h1, fun e => absurd ⟨q.1, by rw [show y.n = q.2 from e]; exact hq⟩ h2⟩
    · rw [List.mem_singleton.1 hp, List.mem_singleton.1 hq]; exact ⟨fun _ => rfl, fun _ => rfl⟩
  · rw [vps_take hx, if_pos hv, List.mem_append, List.mem_append, h.same]
theorem variant_no {A B : Tm} (h : ¬ ((A.zp B).all alkv = true ∧ Bij (vps (A.zp B)))) : A.variant B = false := by
  cases e : A.variant B with
  | false => rfl
  | true => exact absurd ((variant_zp A B).1 e) h
theorem VUpto.clash {A B : Tm} {k : Nat} {l : List (Int × Int)} {x y : Tm} (h : VUpto A B k l) (hx : (A.zp B)[k]? = some (x, y)) (hv : x.kind = 1) {p : Int × Int} (hp : p ∈ l) (hc : ¬ (p.1 = x.n ↔ p.2 = y.n)) : A.variant B = false := by
  refine variant_no fun ⟨_, hb⟩ => hc ?_
  have h1 : p ∈ vps (A.zp B) := vps_sub _ k p ((h.same p).1 hp)
  have h2 : (x.n, y.n) ∈ vps (A.zp B) := vps_sub _ (k + 1) _ (by rw [vps_take hx, if_pos hv]; simp)
  exact hb p h1 _ h2
theorem VUpto.end_ {A B : Tm} {l : List (Int × Int)} (h : VUpto A B (A.zp B).length l) : A.variant B = true := by
  have ha := h.all
  rw [List.take_of_length_le (Nat.le_refl _)] at ha
  refine (variant_zp A B).2 ⟨ha, fun p hp q hq => h.bij p ((h.same p).2 ?_) q ((h.same q).2 ?_)⟩
  · rw [List.take_of_length_le (Nat.le_refl _)]; exact hp
  · rw [List.take_of_length_le (Nat.le_refl _)]; exact hq
/-- The caller's blocks: the result, the two maps' variables, the two maps. -/
def vL (B : Nat) (o1 o2 : Obj) : List (Nat × Obj) := [(B + 2, .cells #[.bool false] 4 (0, 0)), (B + 5, .cells #[.map (some (B + 3))] 54 (0, 0)), (B + 6, .cells #[.map (some (B + 4))] 54 (0, 0)), (B + 3, o1), (B + 4, o2)]
structure VSt where
  l : List (Int × Int)
  o1 : Obj
  o2 : Obj
def VP (A B : Tm) (k : Nat) (s : VSt) : Prop := VUpto A B k s.l ∧ MapObj s.o1 k s.l ∧ MapObj s.o2 k (swp s.l)

theorem vturn1 {w W W' : World} {M : Nat → Prop} {p q : Nat × Obj} {o1 o1' o2 : Obj} (h : Stay w.heap.size w (p :: q :: vL w.heap.size o1 o2) M W) (hp : w.heap.size + 6 < p.1) (hq : w.heap.size + 6 < q.1) (hM : ∀ j, M j → j < W.heap.size) (hg : W.grownBy W' (some (w.heap.size + 3))) (ho : W'.heap[w.heap.size + 3]? = some o1') :
    Keeps M W W' ∧ Below w.heap.size W W' ∧ Stay w.heap.size w (p :: q :: vL w.heap.size o1' o2) M W' := by
  obtain ⟨k1, b1, s1⟩ := h.turned (b := w.heap.size + 3) (o := o1) (by simp [vL]) (by omega) (Nat.le_refl _) hM hg ho
  refine ⟨k1, b1, s1.less fun r hr => ?_⟩
  have key : ∀ r', r' ∈ p :: q :: vL w.heap.size o1 o2 → r'.1 ≠ w.heap.size + 3 → r' ∈ setL (p :: q :: vL w.heap.size o1 o2) (w.heap.size + 3) o1' := fun r' h1 h2 => List.mem_map.2 ⟨r', h1, by rw [if_neg h2]⟩
  simp only [vL, List.mem_cons, List.not_mem_nil, or_false] at hr
  rcases hr with rfl | rfl | rfl | rfl | rfl | rfl | rfl
  · exact key _ (by simp) (by omega)
  · exact key _ (by simp) (by omega)
  · exact key _ (by simp [vL]) (by dsimp only; omega)
  · exact key _ (by simp [vL]) (by dsimp only; omega)
  · exact key _ (by simp [vL]) (by dsimp only; omega)
  · exact List.mem_map.2 ⟨(w.heap.size + 3, o1), by simp [vL], by rw [if_pos rfl]⟩
  · exact key _ (by simp [vL]) (by dsimp only; omega)
theorem vturn2 {w W W' : World} {M : Nat → Prop} {p q : Nat × Obj} {o1 o2 o2' : Obj} (h : Stay w.heap.size w (p :: q :: vL w.heap.size o1 o2) M W) (hp : w.heap.size + 6 < p.1) (hq : w.heap.size + 6 < q.1) (hM : ∀ j, M j → j < W.heap.size) (hg : W.grownBy W' (some (w.heap.size + 4))) (ho : W'.heap[w.heap.size + 4]? = some o2') :
    Keeps M W W' ∧ Below w.heap.size W W' ∧ Stay w.heap.size w (p :: q :: vL w.heap.size o1 o2') M W' := by
  obtain ⟨k1, b1, s1⟩ := h.turned (b := w.heap.size + 4) (o := o2) (by simp [vL]) (by omega) (Nat.le_refl _) hM hg ho
  refine ⟨k1, b1, s1.less fun r hr => ?_⟩
  have key : ∀ r', r' ∈ p :: q :: vL w.heap.size o1 o2 → r'.1 ≠ w.heap.size + 4 → r' ∈ setL (p :: q :: vL w.heap.size o1 o2) (w.heap.size + 4) o2' := fun r' h1 h2 => List.mem_map.2 ⟨r', h1, by rw [if_neg h2]⟩
  simp only [vL, List.mem_cons, List.not_mem_nil, or_false] at hr
  rcases hr with rfl | rfl | rfl | rfl | rfl | rfl | rfl
  · exact key _ (by simp) (by omega)
  · exact key _ (by simp) (by omega)
  · exact key _ (by simp [vL]) (by dsimp only; omega)
  · exact key _ (by simp [vL]) (by dsimp only; omega)
  · exact key _ (by simp [vL]) (by dsimp only; omega)
  · exact key _ (by simp [vL]) (by dsimp only; omega)
  · exact List.mem_map.2 ⟨(w.heap.size + 4, o2), by simp [vL], by rw [if_pos rfl]⟩
/-- What a round reads of its own and the caller's blocks. -/
theorem vcells {n₀ B q r t : Nat} {w W : World} {M : Nat → Prop} {v0 v1 v2 v3 u0 u1 u2 u3 : Value} {o1 o2 : Obj} (h : Stay n₀ w ((q, .cells #[v0, v1, v2, v3] t (0, 0)) :: (r, .cells #[u0, u1, u2, u3] t (0, 0)) :: vL B o1 o2) M W) :
    W.cell? ⟨q, 0, none⟩ = some v0 ∧ W.cell? ⟨q, 2, none⟩ = some v2 ∧ W.cell? ⟨r, 2, none⟩ = some u2 ∧ W.cell? ⟨B + 5, 0, none⟩ = some (.map (some (B + 3))) ∧ W.cell? ⟨B + 6, 0, none⟩ = some (.map (some (B + 4))) ∧ (W.cell? ⟨B + 2, 0, none⟩ = some (.bool false) ∧ W.frozen? ⟨B + 2, 0, none⟩ = false) ∧ W.heap[B + 3]? = some o1 ∧ W.heap[B + 4]? = some o2 := by
  obtain ⟨a0, _, a2, _⟩ := cell4 (h.has _ (.head _))
  obtain ⟨_, _, b2, _⟩ := cell4 (h.has _ (.tail _ (.head _)))
  exact ⟨a0, a2, b2, (cell1 (h.has _ (.tail _ (.tail _ (.tail _ (.head _)))))).1, (cell1 (h.has _ (.tail _ (.tail _ (.tail _ (.tail _ (.head _))))))).1, cell1 (h.has _ (.tail _ (.tail _ (.head _)))), h.has _ (.tail _ (.tail _ (.tail _ (.tail _ (.tail _ (.head _)))))), h.has _ (.tail _ (.tail _ (.tail _ (.tail _ (.tail _ (.tail _ (.head _)))))))⟩
theorem allocs_facts (l : List Obj) : ∀ (w : World), (l.foldl World.alloc w).heap.size = w.heap.size + l.length ∧ Below w.heap.size w (l.foldl World.alloc w) ∧ ∀ i o, l[i]? = some o → (l.foldl World.alloc w).heap[w.heap.size + i]? = some o := by
  induction l with
  | nil => exact fun w => ⟨rfl, Below.refl _ _, fun i o h => by simp at h⟩
  | cons o l ih =>
    intro w
    obtain ⟨h1, h2, h3⟩ := ih (w.alloc o)
    rw [World.size_alloc] at h1 h2 h3
    refine ⟨by rw [List.foldl_cons, h1, List.length_cons]; omega, ((Below.refl _ w).alloc (Nat.le_refl _) o).trans (h2.mono (by omega)), fun i o' hi => ?_⟩
    cases i with
    | zero =>
      have e : o = o' := by simpa using hi
      subst e
      rw [List.foldl_cons, Nat.add_zero, h2.block w.heap.size (by omega)]
      exact heap_alloc_new w o
    | succ i =>
      have := h3 i o' (by simpa using hi)
      rw [List.foldl_cons, show w.heap.size + (i + 1) = w.heap.size + 1 + i by omega]
      exact this
theorem nine (w : World) (o0 o1 o2 o3 o4 o5 o6 o7 o8 : Obj) {W0 : World} (h : ((((((((w.alloc o0).alloc o1).alloc o2).alloc o3).alloc o4).alloc o5).alloc o6).alloc o7).alloc o8 = W0) :
    W0.heap.size = w.heap.size + 9 ∧ Below w.heap.size w W0 ∧ W0.heap[w.heap.size + 2]? = some o2 ∧ W0.heap[w.heap.size + 3]? = some o3 ∧ W0.heap[w.heap.size + 4]? = some o4 ∧ W0.heap[w.heap.size + 5]? = some o5 ∧ W0.heap[w.heap.size + 6]? = some o6 ∧ W0.heap[w.heap.size + 7]? = some o7 ∧ W0.heap[w.heap.size + 8]? = some o8 := by
  obtain ⟨h1, h2, h3⟩ := allocs_facts [o0, o1, o2, o3, o4, o5, o6, o7, o8] w
  rw [← h]
  exact ⟨h1, h2, h3 2 o2 rfl, h3 3 o3 rfl, h3 4 o4 rfl, h3 5 o5 rfl, h3 6 o6 rfl, h3 7 o7 rfl, h3 8 o8 rfl⟩

set_option maxRecDepth 100000 in
set_option maxHeartbeats 1000000 in
theorem term_Variant (A B : Tm) (ad bd : Option Addr) (ca cb : Nat) (w : World) (hMA : A.size ≤ 1000000) (_hMB : B.size ≤ 1000000) (hA : TmIn w A ad ca) (hB : TmIn w B bd cb) :
    Calls Tryd.prog 22 #[tmv A ad ca, tmv B bd cb] w fun e w' => e = .returned (.bool (A.variant B)) ∧ Below w.heap.size w w' := by
  have HPA := Lib.hid hA.inP
  have HPB := Lib.hid hB.inP
  clear hA hB
  have HPART := Lib.hid (fun w => term_pairs A B ad bd ca cb w)
  have hmm := @run_makeMap Tryd.prog
  unfold tmv at *
  refine (callsIn_wide (n := 4)).1 ?_
  refine callsIn_of_wp_marks Tryd.func22 rfl trivial ?_ rfl
  simp only [Tryd.ntmps22, List.size_toArray, List.length_cons, List.length_nil, Nat.reduceAdd, Nat.reduceSub, Array.replicate_succ, Array.replicate_zero, List.push_toArray, List.append_toArray, List.nil_append, List.cons_append]
  gi_wp2_with ((refine ⟨trivial, ?_⟩; gi_at_call 43; refine (callsIn_wide.2 (HPART.out _)).mono ?_; rintro e w' ⟨rfl, rfl⟩))
  have hseq := fun w0 h1 h2 h3 h4 h5 => pairs_seq A B ad bd ca cb (w.heap.size + 7) (w.heap.size + 8) w.heap.size w0 hMA h1 h2 h3 h4 h5
  generalize hox : Obj.cells #[.int .i64 A.kind, .string A.name, .int .i64 A.n, .slice ad A.args.length ca] 24 = ox at *
  generalize hoy : Obj.cells #[.int .i64 B.kind, .string B.name, .int .i64 B.n, .slice bd B.args.length cb] 24 = oy at *
  refine wpIn_named fun W0 hW0 => ?_
  obtain ⟨hsz, hbl, n2, n3, n4, n5, n6, n7, n8⟩ := nine w _ _ _ _ _ _ _ _ _ hW0
  have hs := hseq W0 n7 n8 (HPA.out.kept (fun b _ hlt => hbl.block b hlt) (fun b h _ => h)) (HPB.out.kept (fun b _ hlt => hbl.block b hlt) (fun b h _ => h)) (by omega)
  have hm0 : MapObj (.map #[] 0) 0 [] := by
    obtain ⟨o, ho, hm⟩ := (MapAs.new w).obj
    rw [heap_alloc_new] at ho
    rw [Option.some.inj ho]
    exact hm
  have hst : StayI w.heap.size w (fun _ (s : VSt) => vL w.heap.size s.o1 s.o2) (VP A B) (fun _ => False) 0 W0 := by
    refine ⟨⟨[], .map #[] 0, .map #[] 0⟩, ⟨hbl, fun _ h => h.elim, fun p hp => ?_⟩, ⟨rfl, (fun p hp => by cases hp), fun p => ?_⟩, hm0, hm0⟩
    · simp only [vL, List.mem_cons, List.not_mem_nil, or_false] at hp
      rcases hp with rfl | rfl | rfl | rfl | rfl
      · exact n2
      · exact n5
      · exact n6
      · exact n3
      · exact n4
    · simp [vps]
  clear HPA HPB HPART hseq hox hoy hW0 n2 n3 n4 n5 n6 n7 n8 hbl hm0
  refine range_walk (gf := 61) (lb := #[.pointer (some ⟨w.heap.size + 7, 0, none⟩), .pointer (some ⟨w.heap.size + 8, 0, none⟩)]) rfl (enters_of Tryd.func61 (by kernel_rfl) rfl) hs (Below.refl _ _) (by omega) (fun _ => rfl)
    (StayI w.heap.size w (fun _ (s : VSt) => vL w.heap.size s.o1 s.o2) (VP A B))
    (fun c => StayI w.heap.size w (fun _ (_ : Unit) => [(w.heap.size + 2, .cells #[.bool false] 4 (0, 0))]) (fun _ _ => c = .ret ∧ A.variant B = false))
    (stay_abides (Nat.le_refl _) _ _) (fun _ => stay_abides (Nat.le_refl _) _ _) hst ?round ?done ?stop
  case round =>
    rintro l M k ⟨x, xd, xc, y, yd, yc⟩ W ⟨⟨tl, o1, o2⟩, hS, hV, hO1, hO2⟩ hk hx hMl
    dsimp only at hS hV hO1 hO2
    have hM1 : ∀ j, M j → j < W.heap.size := fun j hj => (hMl j hj).2
    have HV := Lib.hid hV
    have HO1 := Lib.hid hO1
    have HO2 := Lib.hid hO2
    have HX := Lib.hid hx
    have HS := Lib.hid hS
    have HM1 := Lib.hid hM1
    have hWs := hS.lt (show (w.heap.size + 6, _) ∈ vL w.heap.size o1 o2 from .tail _ (.tail _ (.head _)))
    dsimp only at hWs
    have hk6 : k < 1000000 := by have := A.zp_len B; omega
    clear hS hx hMl hM1 hst hs hV hO1 hO2 hmm
    unfold pairv tmv
    dsimp only
    gi_wp2
    obtain ⟨a1, a2, a3⟩ := HS.out.two (Nat.le_refl _) HM1.out (.cells #[.int .i64 x.kind, .string x.name, .int .i64 x.n, .slice xd x.args.length xc] 24) (.cells #[.int .i64 y.kind, .string y.name, .int .i64 y.n, .slice yd y.args.length yc] 24)
    refine ⟨a1, a2, fun W₂ ht hs2 => ?_⟩
    have hS3 := a3.turn (M' := M) (Nat.le_refl _) ht (fun j hj => .inl hj)
    obtain ⟨c0, c1, c2, c3⟩ := cell4 (hS3.has _ (.head _))
    obtain ⟨d0, d1, d2, d3⟩ := cell4 (hS3.has _ (.tail _ (.head _)))
    have hs2' : W₂.heap.size = W.heap.size + 2 := by first | (rw [hs2]; done) | (rw [hs2]; simp)
    have hM3 : ∀ j, M j → j < W₂.heap.size := fun j hj => by have := HM1.out j hj; omega
    have HS3 := Lib.hid hS3
    have HM3 := Lib.hid hM3
    have hal := dev_alike x y xd yd xc yc W₂
    have HS2 := Lib.hid hs2'
    unfold tmv at hal
    clear hS3 hM3 ht a1 a2 a3 hs2 hs2'
    -- a round that is left: the result is false
    have HOUT : Hid (∀ W₄, Keeps M W₂ W₄ → Stay w.heap.size w [(w.heap.size + 2, .cells #[.bool false] 4 (0, 0))] M W₄ → A.variant B = false → Keeps M W₂ (W₄.setCell ⟨w.heap.size + 2, 0, none⟩ (.bool false)) ∧ StayI w.heap.size w (fun _ (_ : Unit) => [(w.heap.size + 2, .cells #[.bool false] 4 (0, 0))]) (fun _ _ => Code.ret = .ret ∧ A.variant B = false) M (k + 1) (W₄.setCell ⟨w.heap.size + 2, 0, none⟩ (.bool false))) := Lib.hid (fun W₄ hk4 hs4 hv => by
      obtain ⟨g1, g2, g3⟩ := hs4.store (.head _) (by omega) 0 (.bool false)
      refine ⟨hk4.trans g1, (), g3.less fun p hp => ?_, rfl, hv⟩
      obtain rfl := List.mem_singleton.1 hp
      simp only [setL, List.map_cons, List.map_nil]
      rw [if_pos trivial]
      exact .head _)
    cases hown : alk x y with
    | false =>
      rw [hown] at hal
      have HAL := Lib.hid hal
      have HNO := Lib.hid (variant_no fun h => by
        have h1 := all_hit2 HX.out.1 (show alkv (x, y) = false by unfold alkv; rw [hown]; rfl)
        rw [h.1] at h1
        cases h1)
      clear hown hal
      gi_wp2_with ((refine ⟨trivial, ?_⟩; gi_at_call 44; refine (CallsIn.inRound l (callsIn_wide.2 HAL.out)).mono ?_; rintro e W₄ ⟨rfl, hb4⟩; obtain ⟨k4, b4, s4⟩ := HS3.out.grow (Nat.le_refl _) HM3.out hb4; obtain ⟨hc4, hf4⟩ := cell1 (s4.has _ (.tail _ (.tail _ (.head _)))); have K4 := Lib.hid k4; have B4 := Lib.hid b4; have S4 := Lib.hid s4; clear k4 b4 s4 hb4))
      obtain ⟨r1, r2, r3, r4⟩ := HOUT.out W₄ K4.out (S4.out.less fun p hp => by rw [List.mem_singleton.1 hp]; exact .tail _ (.tail _ (.head _))) HNO.out
      exact ⟨r1, (), r3, rfl, HNO.out⟩
    | true =>
      rw [hown] at hal
      have HAL := Lib.hid hal
      by_cases hkd : x.kind = 1
      · have hS3 := HS3.out
        rw [hkd] at hS3 hal c0
        rw [hkd]
        clear HS3 HAL
        have HS3 := Lib.hid hS3
        have HAL := Lib.hid hal
        clear hS3
        have halv : alkv (x, y) = true := by unfold alkv; rw [hown]; simp [hkd]
        have hxn := HX.out.2.1.n
        have hyn := HX.out.2.2.n
        dsimp only at hxn hyn
        have HWX : Hid (w.heap.size + 6 < W.heap.size) := Lib.hid hWs
        have HWY : Hid (w.heap.size + 6 < W.heap.size + 1) := Lib.hid (by omega)
        by_cases h1 : ∃ d, (x.n, d) ∈ tl
        · obtain ⟨d, hd⟩ := h1
          by_cases hdy : d = y.n
          · subst hdy
            have HYES := Lib.hid (HV.out.stay HX.out.1 halv (fun _ => hd))
            have t1 := fun W hW => tie_old W (w.heap.size + 3) k tl x.n y.n y.n (HO1.out W _ hW) hxn hd
            have t2 := fun W hW => tie_old W (w.heap.size + 4) k (swp tl) y.n x.n x.n (HO2.out W _ hW) hyn (mem_swp.2 hd)
            rw [beq_self_eq_true] at t1 t2
            have T1 := Lib.hid t1
            have T2 := Lib.hid t2
            clear hown hal hkd t1 t2 hd halv hxn hyn
            gi_wp2_with (first
              | (refine ⟨trivial, ?_⟩; gi_at_call 44; refine (CallsIn.inRound l (callsIn_wide.2 HAL.out)).mono ?_; rintro e W₄ ⟨rfl, hb4⟩; obtain ⟨k4, b4, s4⟩ := HS3.out.grow (Nat.le_refl _) HM3.out hb4; obtain ⟨x0, x2, y2, m5, m6, ⟨r2, f2⟩, e3, e4⟩ := vcells s4; have hM4 : ∀ j, M j → j < W₄.heap.size := (fun j hj => Nat.lt_of_lt_of_le (HM3.out j hj) hb4.size); have HM4 := Lib.hid hM4; have K4 := Lib.hid k4; have B4 := Lib.hid b4; have S4 := Lib.hid s4; have E3 := Lib.hid e3; have E4 := Lib.hid e4; clear k4 b4 s4 hb4 hM4 e3 e4)
              | (refine ⟨trivial, ?_⟩; gi_at_call 45; (with_reducible refine (CallsIn.inRound l (callsIn_wide.2 (T1.out _ E3.out))).mono ?_); rintro e W₅ ⟨rfl, rfl⟩)
              | (refine ⟨trivial, ?_⟩; gi_at_call 45; (with_reducible refine (CallsIn.inRound l (callsIn_wide.2 (T2.out _ E4.out))).mono ?_); rintro e W₅ ⟨rfl, rfl⟩))
            exact ⟨K4.out, B4.out, ⟨tl, o1, o2⟩, S4.out.less fun p hp => .tail _ (.tail _ hp), HYES.out, MapObj.up HO1.out, MapObj.up HO2.out⟩
          · have HNO := Lib.hid (HV.out.clash HX.out.1 hkd hd (by simp [hdy]))
            have t1 := fun W hW => tie_old W (w.heap.size + 3) k tl x.n y.n d (HO1.out W _ hW) hxn hd
            rw [show (d == y.n) = false by simpa using hdy] at t1
            have T1 := Lib.hid t1
            clear hown hal hkd t1 hd hdy halv hxn hyn
            gi_wp2_with (first
              | (refine ⟨trivial, ?_⟩; gi_at_call 44; refine (CallsIn.inRound l (callsIn_wide.2 HAL.out)).mono ?_; rintro e W₄ ⟨rfl, hb4⟩; obtain ⟨k4, b4, s4⟩ := HS3.out.grow (Nat.le_refl _) HM3.out hb4; obtain ⟨x0, x2, y2, m5, m6, ⟨r2, f2⟩, e3, e4⟩ := vcells s4; have hM4 : ∀ j, M j → j < W₄.heap.size := (fun j hj => Nat.lt_of_lt_of_le (HM3.out j hj) hb4.size); have HM4 := Lib.hid hM4; have K4 := Lib.hid k4; have B4 := Lib.hid b4; have S4 := Lib.hid s4; have E3 := Lib.hid e3; have E4 := Lib.hid e4; clear k4 b4 s4 hb4 hM4 e3 e4)
              | (refine ⟨trivial, ?_⟩; gi_at_call 45; (with_reducible refine (CallsIn.inRound l (callsIn_wide.2 (T1.out _ E3.out))).mono ?_); rintro e W₅ ⟨rfl, rfl⟩))
            refine ⟨trivial, ?_⟩
            gi_wp2
            obtain ⟨r1, r2, r3, r4⟩ := HOUT.out W₄ K4.out (S4.out.less fun p hp => by rw [List.mem_singleton.1 hp]; exact .tail _ (.tail _ (.head _))) HNO.out
            exact ⟨r1, (), r3, rfl, HNO.out⟩
        · have t1 := fun W hW => tie_new W (w.heap.size + 3) k tl x.n y.n (HO1.out W _ hW) hxn hyn (by omega) h1
          have T1 := Lib.hid t1
          by_cases h2 : ∃ d, (d, y.n) ∈ tl
          · obtain ⟨d, hd⟩ := h2
            have hdx : d ≠ x.n := fun e => h1 ⟨y.n, e ▸ hd⟩
            have HNO := Lib.hid (HV.out.clash HX.out.1 hkd hd (by simp [hdx]))
            have t2 := fun W hW => tie_old W (w.heap.size + 4) k (swp tl) y.n x.n d (HO2.out W _ hW) hyn (mem_swp.2 hd)
            rw [show (d == x.n) = false by simpa using hdx] at t2
            have T2 := Lib.hid t2
            clear hown hal hkd t1 t2 hd hdx halv hxn hyn h1
            gi_wp2_with (first
              | (refine ⟨trivial, ?_⟩; gi_at_call 44; refine (CallsIn.inRound l (callsIn_wide.2 HAL.out)).mono ?_; rintro e W₄ ⟨rfl, hb4⟩; obtain ⟨k4, b4, s4⟩ := HS3.out.grow (Nat.le_refl _) HM3.out hb4; obtain ⟨x0, x2, y2, m5, m6, ⟨r2, f2⟩, e3, e4⟩ := vcells s4; have hM4 : ∀ j, M j → j < W₄.heap.size := (fun j hj => Nat.lt_of_lt_of_le (HM3.out j hj) hb4.size); have HM4 := Lib.hid hM4; have K4 := Lib.hid k4; have B4 := Lib.hid b4; have S4 := Lib.hid s4; have E3 := Lib.hid e3; have E4 := Lib.hid e4; clear k4 b4 s4 hb4 hM4 e3 e4)
              | (refine ⟨trivial, ?_⟩; gi_at_call 45; (with_reducible refine (CallsIn.inRound l (callsIn_wide.2 (T1.out _ E3.out))).mono ?_); rintro e W₅ ⟨rfl, hm5, hg5⟩; obtain ⟨o1', ho1', hmo1⟩ := hm5.obj; obtain ⟨k5, b5, s5⟩ := vturn1 S4.out HWX.out HWY.out HM4.out hg5 ho1'; obtain ⟨x0', x2', y2', m5', m6', ⟨r2', f2'⟩, e3', e4'⟩ := vcells s5; have K5 := Lib.hid (K4.out.trans k5); have B5 := Lib.hid (B4.out.trans b5); have S5 := Lib.hid s5; have E5 := Lib.hid e4'; have HMO1 := Lib.hid hmo1; have HM5 := Lib.hid (show ∀ j, M j → j < W₅.heap.size from fun j hj => Nat.lt_of_lt_of_le (HM4.out j hj) hg5.size); clear k5 b5 s5 e3' e4' hm5 hg5 ho1' hmo1 x0 x2 y2 m5 m6 r2 f2)
              | (refine ⟨trivial, ?_⟩; gi_at_call 45; (with_reducible refine (CallsIn.inRound l (callsIn_wide.2 (T2.out _ E5.out))).mono ?_); rintro e W₆ ⟨rfl, rfl⟩))
            obtain ⟨r1, r2, r3, r4⟩ := HOUT.out W₅ K5.out (S5.out.less fun p hp => by rw [List.mem_singleton.1 hp]; exact .tail _ (.tail _ (.head _))) HNO.out
            exact ⟨r1, (), r3, rfl, HNO.out⟩
          · have HYES := Lib.hid (HV.out.more HX.out.1 halv hkd h1 h2)
            have t2 := fun W hW => tie_new W (w.heap.size + 4) k (swp tl) y.n x.n (HO2.out W _ hW) hyn hxn (by omega) (fun ⟨d, hd⟩ => h2 ⟨d, mem_swp.1 hd⟩)
            rw [← swp_snoc] at t2
            have T2 := Lib.hid t2
            clear hown hal hkd t1 t2 halv hxn hyn h1 h2
            gi_wp2_with (first
              | (refine ⟨trivial, ?_⟩; gi_at_call 44; refine (CallsIn.inRound l (callsIn_wide.2 HAL.out)).mono ?_; rintro e W₄ ⟨rfl, hb4⟩; obtain ⟨k4, b4, s4⟩ := HS3.out.grow (Nat.le_refl _) HM3.out hb4; obtain ⟨x0, x2, y2, m5, m6, ⟨r2, f2⟩, e3, e4⟩ := vcells s4; have hM4 : ∀ j, M j → j < W₄.heap.size := (fun j hj => Nat.lt_of_lt_of_le (HM3.out j hj) hb4.size); have HM4 := Lib.hid hM4; have K4 := Lib.hid k4; have B4 := Lib.hid b4; have S4 := Lib.hid s4; have E3 := Lib.hid e3; have E4 := Lib.hid e4; clear k4 b4 s4 hb4 hM4 e3 e4)
              | (refine ⟨trivial, ?_⟩; gi_at_call 45; (with_reducible refine (CallsIn.inRound l (callsIn_wide.2 (T1.out _ E3.out))).mono ?_); rintro e W₅ ⟨rfl, hm5, hg5⟩; obtain ⟨o1', ho1', hmo1⟩ := hm5.obj; obtain ⟨k5, b5, s5⟩ := vturn1 S4.out HWX.out HWY.out HM4.out hg5 ho1'; obtain ⟨x0', x2', y2', m5', m6', ⟨r2', f2'⟩, e3', e4'⟩ := vcells s5; have K5 := Lib.hid (K4.out.trans k5); have B5 := Lib.hid (B4.out.trans b5); have S5 := Lib.hid s5; have E5 := Lib.hid e4'; have HMO1 := Lib.hid hmo1; have HM5 := Lib.hid (show ∀ j, M j → j < W₅.heap.size from fun j hj => Nat.lt_of_lt_of_le (HM4.out j hj) hg5.size); clear k5 b5 s5 e3' e4' hm5 hg5 ho1' hmo1 x0 x2 y2 m5 m6 r2 f2)
              | (refine ⟨trivial, ?_⟩; gi_at_call 45; (with_reducible refine (CallsIn.inRound l (callsIn_wide.2 (T2.out _ E5.out))).mono ?_); rintro e W₆ ⟨rfl, hm6, hg6⟩; obtain ⟨o2', ho2', hmo2⟩ := hm6.obj; obtain ⟨k6, b6, s6⟩ := vturn2 S5.out HWX.out HWY.out HM5.out hg6 ho2'; have K6 := Lib.hid (K5.out.trans k6); have B6 := Lib.hid (B5.out.trans b6); have S6 := Lib.hid s6; have HMO2 := Lib.hid hmo2; clear k6 b6 s6 hm6 hg6 ho2' hmo2))
            exact ⟨K6.out, B6.out, ⟨tl ++ [(x.n, y.n)], o1', o2'⟩, S6.out.less fun p hp => .tail _ (.tail _ hp), HYES.out, HMO1.out, HMO2.out⟩
      · have ekd : (x.kind != 1) = true := by simpa using hkd
        by_cases hn : x.n = y.n
        · have HYES := Lib.hid (HV.out.stay HX.out.1 (show alkv (x, y) = true by unfold alkv; rw [hown]; simp [hn]) (fun e => absurd e hkd))
          have en : (x.n != y.n) = false := by simpa using hn
          clear hown hal hn hkd
          gi_wp2_with ((refine ⟨trivial, ?_⟩; gi_at_call 44; refine (CallsIn.inRound l (callsIn_wide.2 HAL.out)).mono ?_; rintro e W₄ ⟨rfl, hb4⟩; obtain ⟨k4, b4, s4⟩ := HS3.out.grow (Nat.le_refl _) HM3.out hb4; obtain ⟨x0, _, x2, _⟩ := cell4 (s4.has _ (.head _)); obtain ⟨_, _, y2, _⟩ := cell4 (s4.has _ (.tail _ (.head _))); have K4 := Lib.hid k4; have B4 := Lib.hid b4; have S4 := Lib.hid s4; clear k4 b4 s4 hb4))
          exact ⟨K4.out, B4.out, ⟨tl, o1, o2⟩, S4.out.less fun p hp => .tail _ (.tail _ hp), HYES.out, MapObj.up HO1.out, MapObj.up HO2.out⟩
        · have HNO := Lib.hid (variant_no fun h => by
            have h1 := all_hit2 HX.out.1 (show alkv (x, y) = false by unfold alkv; rw [hown]; simp [hn, hkd])
            rw [h.1] at h1
            cases h1)
          have en : (x.n != y.n) = true := by simpa using hn
          clear hown hal hn hkd
          gi_wp2_with ((refine ⟨trivial, ?_⟩; gi_at_call 44; refine (CallsIn.inRound l (callsIn_wide.2 HAL.out)).mono ?_; rintro e W₄ ⟨rfl, hb4⟩; obtain ⟨k4, b4, s4⟩ := HS3.out.grow (Nat.le_refl _) HM3.out hb4; obtain ⟨x0, _, x2, _⟩ := cell4 (s4.has _ (.head _)); obtain ⟨_, _, y2, _⟩ := cell4 (s4.has _ (.tail _ (.head _))); obtain ⟨hc4, hf4⟩ := cell1 (s4.has _ (.tail _ (.tail _ (.head _)))); have K4 := Lib.hid k4; have B4 := Lib.hid b4; have S4 := Lib.hid s4; clear k4 b4 s4 hb4))
          obtain ⟨r1, r2, r3, r4⟩ := HOUT.out W₄ K4.out (S4.out.less fun p hp => by rw [List.mem_singleton.1 hp]; exact .tail _ (.tail _ (.head _))) HNO.out
          exact ⟨r1, (), r3, rfl, HNO.out⟩
  case done =>
    rintro D M W hD _ ⟨⟨tl, o1, o2⟩, hS, hV, _, _⟩ hK
    dsimp only at hS hV
    have hall := hV.end_
    obtain ⟨hc, hf⟩ := cell1 (hS.has _ (.head _))
    have HS := Lib.hid hS
    have HA := Lib.hid hall
    have hD' : w.heap.size + 9 ≤ D := by omega
    have HK := Lib.hid hK
    clear hS hst hs hall hD hK hV hmm
    gi_wp2
    have g := fun v => (HS.out.store (.head _) (by omega) 0 v).2.2.below
    refine ⟨by simp, .inl ⟨_, _, rfl, run_takeDeferred ((Below.heap_setCell _ _ _ _ (show D ≠ w.heap.size + 2 by omega)).trans HK.out), ?_⟩⟩
    have hres := fun v : Value => (cell1 ((World.putObj_heap_other (o := .deferred none) (show w.heap.size + 2 ≠ D by omega)).trans (block_set1 (v := v) (HS.out.has _ (.head _))))).1
    refine ⟨_, by simp [results, Tryd.results22, go_sem, hres]; rfl, ?_, below_mark (g _) (by omega)⟩
    rw [HA.out]
  case stop =>
    rintro D c M k W hD _ _ ⟨_, hS, rfl, hno⟩ hK
    have HS := Lib.hid hS
    have HNO := Lib.hid hno
    have HK := Lib.hid hK
    have hD' : w.heap.size + 9 ≤ D := by omega
    clear hS hno hK hst hs hD hmm
    gi_wp2
    refine ⟨by simp, .inl ⟨_, _, rfl, run_takeDeferred HK.out, ?_⟩⟩
    have hres := (cell1 ((World.putObj_heap_other (o := .deferred none) (show w.heap.size + 2 ≠ D by omega)).trans (HS.out.has _ (.head _)))).1
    refine ⟨_, by simp [results, Tryd.results22, go_sem, hres]; rfl, ?_, below_mark HS.out.below (by omega)⟩
    rw [HNO.out]
end Go.Proofs.YthfdiclmbbngcaaDoor
