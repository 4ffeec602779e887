/-
  Joined texts: UniPJ, UniPK, UniP.
-/
import Derived.Test.YtlpmofmhcnclhaaUniPl
import Derived.Test.YtlpmofmhcnclhaaTermDevCE
import Derived.Test.YtlpmofmhcnclhaaShelf
import Derived.Handy
import Derived.Test.YtlpmofmhcnclhaaUniPFI
import Derived.Deep.RegionHeld3
import Derived.Deep.DeepCutAuto

/-
  The contract of package unify's own compareOutsides.
-/
namespace Go.Proofs.Ytlpmofmhcnclhaa
open Go.RowKit Go.Shelf

theorem textV_bytes : ∀ a b : List UInt8, Lib.compareBytes a b = textV a b
  | [], [] => by rw [textV_self]; rfl
  | [], b :: bl => by unfold textV; rw [if_pos (by simp)]; rfl
  | a :: al, [] => by unfold textV; rw [if_neg (by simp), if_neg (by simp)]; rfl
  | a :: al, b :: bl => by
    show (if a < b then (-1 : Int) else if b < a then 1 else Lib.compareBytes al bl) = _
    rw [textV_bytes al bl]
    unfold textV
    by_cases h1 : a < b
    · rw [if_pos h1, if_pos (by rw [List.cons_lt_cons_iff]; exact .inl h1)]
    · rw [if_neg h1]
      by_cases h2 : b < a
      · rw [if_pos h2, if_neg (by rw [List.cons_lt_cons_iff]; rintro (h | ⟨h, _⟩); exact h1 h; subst h; exact h1 h2), if_neg (by rintro h; injection h with h _; subst h; exact h1 h2)]
      · have e : a = b := UInt8.le_antisymm (UInt8.not_lt.1 h2) (UInt8.not_lt.1 h1)
        subst e
        rw [if_neg h1]
        by_cases h3 : al < bl
        · rw [if_pos h3, if_pos (by rw [List.cons_lt_cons_iff]; exact .inr ⟨rfl, h3⟩)]
        · rw [if_neg h3, if_neg (show ¬ (a :: al < a :: bl) by rw [List.cons_lt_cons_iff]; rintro (h | ⟨_, h⟩); exact h1 h; exact h3 h)]
          by_cases h4 : al = bl
          · rw [if_pos h4, if_pos (by rw [h4])]
          · rw [if_neg h4, if_neg (by intro h; injection h with _ h; exact h4 h)]

set_option maxHeartbeats 1000000 in
theorem um_nan64 (a : Int) (w : World) : Calls Try.prog 45 #[.int .i64 a] w fun e w' => e = .returned (.bool false) ∧ w = w' := by
  go_enter Try.func45, Try.ntmps45
  go_wp2_with fail
  go_ret
  exact ⟨by simp, rfl⟩

set_option maxHeartbeats 1000000 in
theorem um_nani (a : Int) (w : World) : Calls Try.prog 47 #[.int .i64 a] w fun e w' => e = .returned (.bool false) ∧ w = w' := by
  go_enter Try.func47, Try.ntmps47
  go_wp2_with fail
  go_ret
  exact ⟨by simp, rfl⟩

set_option maxRecDepth 100000 in
set_option maxHeartbeats 4000000 in
theorem um_cmp64 (a b : Int) (w : World) : Calls Try.prog 36 #[.int .i64 a, .int .i64 b] w fun e w' => e = .returned (.int .i64 (cmpV a b)) ∧ w = w' := by
  unfold cmpV
  by_cases h1 : a < b
  · rw [if_pos h1]
    have e1 : decide (a < b) = true := decide_eq_true h1
    clear h1
    go_enter Try.func36, Try.ntmps36
    go_wp2_with fail
    refine (um_nan64 _ _).mono ?_; rintro e w' ⟨rfl, rfl⟩
    go_wp2_with fail
    refine (um_nan64 _ _).mono ?_; rintro e w' ⟨rfl, rfl⟩
    go_wp2_with fail
    go_ret
    exact ⟨rfl, rfl⟩
  · rw [if_neg h1]
    have e1 : decide (a < b) = false := decide_eq_false h1
    clear h1
    by_cases h2 : b < a
    · rw [if_pos h2]
      have e2 : decide (b < a) = true := decide_eq_true h2
      clear h2
      go_enter Try.func36, Try.ntmps36
      go_wp2_with fail
      refine (um_nan64 _ _).mono ?_; rintro e w' ⟨rfl, rfl⟩
      go_wp2_with fail
      refine (um_nan64 _ _).mono ?_; rintro e w' ⟨rfl, rfl⟩
      go_wp2_with fail
      go_ret
      exact ⟨rfl, rfl⟩
    · rw [if_neg h2]
      have e2 : decide (b < a) = false := decide_eq_false h2
      clear h2
      go_enter Try.func36, Try.ntmps36
      go_wp2_with fail
      refine (um_nan64 _ _).mono ?_; rintro e w' ⟨rfl, rfl⟩
      go_wp2_with fail
      refine (um_nan64 _ _).mono ?_; rintro e w' ⟨rfl, rfl⟩
      go_wp2_with fail
      go_ret
      exact ⟨rfl, rfl⟩

set_option maxRecDepth 100000 in
set_option maxHeartbeats 4000000 in
theorem um_cmpi (a b : Int) (w : World) : Calls Try.prog 39 #[.int .i64 a, .int .i64 b] w fun e w' => e = .returned (.int .i64 (cmpV a b)) ∧ w = w' := by
  unfold cmpV
  by_cases h1 : a < b
  · rw [if_pos h1]
    have e1 : decide (a < b) = true := decide_eq_true h1
    clear h1
    go_enter Try.func39, Try.ntmps39
    go_wp2_with fail
    refine (um_nani _ _).mono ?_; rintro e w' ⟨rfl, rfl⟩
    go_wp2_with fail
    refine (um_nani _ _).mono ?_; rintro e w' ⟨rfl, rfl⟩
    go_wp2_with fail
    go_ret
    exact ⟨rfl, rfl⟩
  · rw [if_neg h1]
    have e1 : decide (a < b) = false := decide_eq_false h1
    clear h1
    by_cases h2 : b < a
    · rw [if_pos h2]
      have e2 : decide (b < a) = true := decide_eq_true h2
      clear h2
      go_enter Try.func39, Try.ntmps39
      go_wp2_with fail
      refine (um_nani _ _).mono ?_; rintro e w' ⟨rfl, rfl⟩
      go_wp2_with fail
      refine (um_nani _ _).mono ?_; rintro e w' ⟨rfl, rfl⟩
      go_wp2_with fail
      go_ret
      exact ⟨rfl, rfl⟩
    · rw [if_neg h2]
      have e2 : decide (b < a) = false := decide_eq_false h2
      clear h2
      go_enter Try.func39, Try.ntmps39
      go_wp2_with fail
      refine (um_nani _ _).mono ?_; rintro e w' ⟨rfl, rfl⟩
      go_wp2_with fail
      refine (um_nani _ _).mono ?_; rintro e w' ⟨rfl, rfl⟩
      go_wp2_with fail
      go_ret
      exact ⟨rfl, rfl⟩

set_option maxRecDepth 100000 in
set_option maxHeartbeats 4000000 in
theorem um_or (g : Nat) (a b : Int) (w : World) (h0 : w.cell? ⟨g, 0, none⟩ = some (.int .i64 a)) (h1 : w.cell? ⟨g, 1, none⟩ = some (.int .i64 b)) :
    Calls Try.prog 38 #[.slice (some ⟨g, 0, none⟩) 2 2] w fun e w' => e = .returned (.int .i64 (if a ≠ 0 then a else b)) ∧ w = w' := by
  by_cases ha : a = 0
  · subst ha
    rw [if_neg (by simp)]
    by_cases hb : b = 0
    · subst hb
      go_enter Try.func38, Try.ntmps38
      go_wp2_with fail
      go_rounds 3
      go_wp2_with fail
      go_ret
      exact ⟨rfl, rfl⟩
    · have e2 : (b != 0) = true := by simpa using hb
      clear hb
      go_enter Try.func38, Try.ntmps38
      go_wp2_with fail
      go_rounds 3
      go_wp2_with fail
      go_ret
      exact ⟨rfl, rfl⟩
  · rw [if_pos ha]
    have e2 : (a != 0) = true := by simpa using ha
    clear ha
    go_enter Try.func38, Try.ntmps38
    go_wp2_with fail
    go_rounds 3
    go_wp2_with fail
    go_ret
    exact ⟨rfl, rfl⟩
end Go.Proofs.Ytlpmofmhcnclhaa

/-
  The contract of package unify's own compareOutsides, and what it says of terms that may be.
-/
namespace Go.Proofs.Ytlpmofmhcnclhaa
open Go.RowKit Go.Shelf

/-- How two terms compare as far as their Args are not asked. -/
noncomputable def coV (x y : Tm) : Int :=
  if cmpV (rankD x.kind) (rankD y.kind) ≠ 0 then cmpV (rankD x.kind) (rankD y.kind)
  else if x.kind = 1 ∨ x.kind = 3 then cmpV x.n y.n
  else if x.kind = 2 then textV x.name.data.toList y.name.data.toList
  else if cmpV x.args.length y.args.length ≠ 0 then cmpV x.args.length y.args.length
  else textV x.name.data.toList y.name.data.toList
theorem kinds_zp (k l : Int) : cmpz ((Tm.mk k ⟨#[]⟩ 0 []).zp (Tm.mk l ⟨#[]⟩ 0 [])) = cmpV (rankD k) (rankD l) := by
  rw [Tm.zp_eq]
  show (if cmpo (Tm.mk k ⟨#[]⟩ 0 [], Tm.mk l ⟨#[]⟩ 0 []) ≠ 0 then cmpo (Tm.mk k ⟨#[]⟩ 0 [], Tm.mk l ⟨#[]⟩ 0 []) else (0 : Int)) = _
  have e : cmpo (Tm.mk k ⟨#[]⟩ 0 [], Tm.mk l ⟨#[]⟩ 0 []) = cmpV (rankD k) (rankD l) := by
    show (if cmpV (rankD k) (rankD l) ≠ 0 then cmpV (rankD k) (rankD l) else if cmpV 0 0 ≠ 0 then cmpV 0 0 else if textV [] [] ≠ 0 then textV [] [] else cmpV 0 0) = _
    rw [cmpV_self, textV_self, if_neg (by simp : ¬ ((0 : Int) ≠ 0)), if_neg (by simp : ¬ ((0 : Int) ≠ 0))]
    by_cases h : cmpV (rankD k) (rankD l) = 0
    · rw [if_neg (by simpa using h), h]
    · rw [if_pos h]
  rw [e]
  by_cases h : cmpV (rankD k) (rankD l) = 0
  · rw [if_neg (by simpa using h), h]
  · rw [if_pos h]
theorem co_cmpo {x y : Tm} (hx : x.may = true) (hy : y.may = true) : coV x y = cmpo (x, y) := by
  unfold coV cmpo
  dsimp only
  by_cases h : cmpV (rankD x.kind) (rankD y.kind) ≠ 0
  · rw [if_pos h, if_pos h]
  · rw [if_neg h, if_neg h]
    have hk : x.kind = y.kind := by
      have h0 : rankD x.kind = rankD y.kind := cmpV_zero (by simpa using h)
      rw [rankD_of hx, rankD_of hy] at h0
      exact rankV_inj hx hy (by omega)
    rcases may_parts hx with ⟨k1, a1, b1⟩ | ⟨k1, a1, b1⟩ | ⟨k1, a1, b1⟩ | ⟨k1, a1, b1⟩ <;> rcases may_parts hy with ⟨k2, a2, b2⟩ | ⟨k2, a2, b2⟩ | ⟨k2, a2, b2⟩ | ⟨k2, a2, b2⟩ <;> first | (exfalso; omega) | skip
    · rw [if_pos (.inl k1), b1, b2, a1, a2, textV_self]; simp [cmpV_self]
    · rw [if_neg (by omega), if_pos k1, b1, b2, a1, a2]
      by_cases e : textV x.name.data.toList y.name.data.toList = 0
      · rw [e]; simp [cmpV_self]
      · rw [if_pos e]; simp [cmpV_self]
    · rw [if_pos (.inr k1), b1, b2, a1, a2, textV_self]; simp [cmpV_self]
    · rw [if_neg (by omega), if_neg (by omega)]
      by_cases e1 : cmpV (x.args.length : Int) (y.args.length : Int) = 0
      · rw [if_neg (by simpa using e1), if_neg (by simpa using e1), a1, a2, cmpV_self]
        by_cases e : textV x.name.data.toList y.name.data.toList = 0
        · rw [e]; simp
        · rw [if_pos e]
      · rw [if_pos e1, if_pos e1]
/-- What the machine asks of two terms that were met. -/
theorem co_step {x y : Tm} (hx : x.may = true) (hy : y.may = true) (k : Nat → List (Tm × Tm) → Int × Int × Nat) (n : Nat) (L : List (Tm × Tm)) :
    (coV x y = 0 → x.args.length = y.args.length) ∧ cmpS k x y n L = if coV x y ≠ 0 then (coV x y, 0, n) else k n (List.zip x.args y.args ++ L) := by
  rw [co_cmpo hx hy]
  refine ⟨cmpo_len, ?_⟩
  unfold cmpS
  by_cases hl : leafP x y
  · rw [if_pos hl, cmpo_may hx hy]
    by_cases h : cmpo (x, y) = 0
    · have hn : ¬ cmpo (x, y) ≠ 0 := by simpa using h
      have hlen := cmpo_len h
      have hz : rankD x.kind = rankD y.kind ∧ x.name.data.toList = y.name.data.toList := by
        have h' := h
        unfold cmpo at h'
        dsimp only at h'
        by_cases e0 : cmpV (rankD x.kind) (rankD y.kind) = 0
        · rw [if_neg (by simpa using e0), hlen, cmpV_self, if_neg (by simp : ¬ ((0 : Int) ≠ 0))] at h'
          by_cases e1 : textV x.name.data.toList y.name.data.toList = 0
          · exact ⟨cmpV_zero e0, textV_zero e1⟩
          · rw [if_pos e1] at h'; exact absurd h' e1
        · rw [if_pos e0] at h'; exact absurd h' e0
      have hk : x.kind = y.kind := by
        have h0 := hz.1
        rw [rankD_of hx, rankD_of hy] at h0
        exact rankV_inj hx hy (by omega)
      have hk4 : x.kind ≠ 4 := fun e => by
        rcases hl with h1 | h1 | h1 | h1
        · exact h1 e
        · exact h1 (hk ▸ e)
        · exact h1 (name_ext hz.2)
        · exact h1 hlen
      have ha : x.args = [] := by
        rcases may_parts hx with ⟨_, _, e⟩ | ⟨_, _, e⟩ | ⟨_, _, e⟩ | ⟨e, _⟩
        · exact e
        · exact e
        · exact e
        · exact absurd e hk4
      rw [if_neg hn, if_neg hk4, if_neg (by simp : ¬ ((0 : Int) ≠ 0)), if_neg hn, ha]; rfl
    · rw [if_pos h, if_pos h, if_pos h]
  · rw [if_neg hl]
    have h4 : x.kind = 4 ∧ y.kind = 4 ∧ x.name = y.name ∧ x.args.length = y.args.length := by
      refine ⟨?_, ?_, ?_, ?_⟩
      · exact Decidable.byContradiction fun h => hl (.inl h)
      · exact Decidable.byContradiction fun h => hl (.inr (.inl h))
      · exact Classical.byContradiction fun h => hl (.inr (.inr (.inl h)))
      · exact Decidable.byContradiction fun h => hl (.inr (.inr (.inr h)))
    have hn : ∀ {t : Tm}, t.may = true → t.kind = 4 → t.n = 0 := fun {t} ht hk => by
      rcases may_parts ht with ⟨e, _⟩ | ⟨_, e, _⟩ | ⟨e, _⟩ | ⟨_, e, _⟩
      · omega
      · exact e
      · omega
      · exact e
    have h0 : cmpo (x, y) = 0 := by
      unfold cmpo
      dsimp only
      rw [h4.1, h4.2.1, h4.2.2.1, h4.2.2.2, cmpV_self, cmpV_self, textV_self, hn hx h4.1, hn hy h4.2.1, cmpV_self]
      simp
    rw [if_neg (by simpa using h0)]

theorem two_ints (w : World) (a b : Value) (t : TypeId) : (w.alloc (.cells #[a, b] t)).drew.cell? ⟨w.heap.size, 0, none⟩ = some a ∧ (w.alloc (.cells #[a, b] t)).drew.cell? ⟨w.heap.size, 1, none⟩ = some b :=
  ⟨World.cell?_alloc_at _ _ _ _ rfl, World.cell?_alloc_at _ _ _ _ rfl⟩
/-- Within compareOutsides: two boxes. -/
def CoB (w : World) (x : Tm) (ax : Option Addr) (cx : Nat) (y : Tm) (ay : Option Addr) (cy : Nat) (W : World) : Prop :=
  W.heap[w.heap.size]? = some (.cells #[.int .i64 x.kind, .string x.name, .int .i64 x.n, .slice ax x.args.length cx] 25 (0, 0)) ∧ W.heap[w.heap.size + 1]? = some (.cells #[.int .i64 y.kind, .string y.name, .int .i64 y.n, .slice ay y.args.length cy] 25 (0, 0)) ∧ Below w.heap.size w W
theorem CoB.on {w : World} {x : Tm} {ax : Option Addr} {cx : Nat} {y : Tm} {ay : Option Addr} {cy : Nat} {W W' : World} (h : CoB w x ax cx y ay cy W) (hb : Below W.heap.size W W') : CoB w x ax cx y ay cy W' := ⟨keptR9 hb h.1, keptR9 hb h.2.1, h.2.2.trans (hb.mono h.2.2.size)⟩
theorem CoB.start (w : World) (x : Tm) (ax : Option Addr) (cx : Nat) (y : Tm) (ay : Option Addr) (cy : Nat) : CoB w x ax cx y ay cy ((w.alloc (.cells #[.int .i64 x.kind, .string x.name, .int .i64 x.n, .slice ax x.args.length cx] 25)).alloc (.cells #[.int .i64 y.kind, .string y.name, .int .i64 y.n, .slice ay y.args.length cy] 25)) :=
  ⟨(Below.heap_alloc (w.alloc _) _ _ (by simp)).trans (alloc_new w _), alloc_new2 w _ _, ((Below.refl _ w).alloc (Nat.le_refl _) _).alloc (by simp) _⟩

set_option maxRecDepth 100000 in
set_option maxHeartbeats 8000000 in
theorem um_outsides (x y : Tm) (ax ay : Option Addr) (cx cy : Nat) (w : World) (hx : In64 x.kind) (hy : In64 y.kind) :
    Calls Try.prog 25 #[tmv x ax cx, tmv y ay cy] w fun e w' => e = .returned (.int .i64 (coV x y)) ∧ Below w.heap.size w w' := by
  have HI := Lib.hid (CoB.start w x ax cx y ay cy)
  have HK : Hid (∀ W : World, Calls Try.prog 35 #[.agg #[.int .i64 x.kind, .string ⟨#[]⟩, .int .i64 0, .slice none 0 0], .agg #[.int .i64 y.kind, .string ⟨#[]⟩, .int .i64 0, .slice none 0 0]] W fun e w' => e = .returned (.int .i64 (cmpV (rankD x.kind) (rankD y.kind))) ∧ Below W.heap.size W w') := Lib.hid (fun W => by
    have h := term_Cmpz (.mk x.kind ⟨#[]⟩ 0 []) (.mk y.kind ⟨#[]⟩ 0 []) none none 0 0 W (show 1 + 0 ≤ 1000000 by omega) (leaf_in W hx (by exact ⟨by decide, by decide⟩) (Nat.zero_le _)) (leaf_in W hy (by exact ⟨by decide, by decide⟩) (Nat.zero_le _))
    rw [kinds_zp] at h
    exact h)
  have HSC := Lib.hid (fun W : World => Try.strings_Compare x.name y.name W)
  rw [textV_bytes] at HSC
  clear hx hy
  unfold tmv
  obtain ⟨c0, hc0⟩ : ∃ c, cmpV (rankD x.kind) (rankD y.kind) = c := ⟨_, rfl⟩
  obtain ⟨R, hR⟩ : ∃ R, coV x y = R := ⟨_, rfl⟩
  rw [hR]
  unfold coV at hR
  rw [hc0] at HK hR
  have HR := Lib.hid hR
  clear hR hc0
  go_enter Try.func25, Try.ntmps25
  go_upto_region 1 with fail
  generalize (w.alloc _).alloc _ = w0 at *
  obtain ⟨x0, x1, x2, x3, _⟩ := cellsT HI.out.1
  obtain ⟨y0, y1, y2, y3, _⟩ := cellsT HI.out.2.1
  go_wp2_with fail
  refine (HK.out _).mono ?_; rintro e w1 ⟨rfl, hb⟩
  replace HI := Lib.hid (HI.out.on hb)
  clear hb x0 x1 x2 x3 y0 y1 y2 y3 HK
  obtain ⟨x0, x1, x2, x3, _⟩ := cellsT HI.out.1
  obtain ⟨y0, y1, y2, y3, _⟩ := cellsT HI.out.2.1
  by_cases h0 : c0 = 0
  · have e0 : (c0 != 0) = false := by simpa using h0
    rw [if_neg (by simpa using h0)] at HR
    clear h0
    by_cases hk : x.kind = 1 ∨ x.kind = 3
    · rw [if_pos hk] at HR
      have HN := Lib.hid (fun W : World => um_cmp64 x.n y.n W)
      rcases hk with hk | hk
      · have e1 : (x.kind == 1) = true := by simpa using hk
        clear hk
        go_wp2_with fail
        refine (HN.out _).mono ?_; rintro e w2 ⟨rfl, rfl⟩
        go_wp2_with fail
        go_ret
        rw [← HR.out]
        exact ⟨rfl, HI.out.2.2⟩
      · have e1 : (x.kind == 1) = false := by rw [hk]; rfl
        have e2 : (x.kind == 3) = true := by rw [hk]; rfl
        clear hk
        go_wp2_with fail
        refine (HN.out _).mono ?_; rintro e w2 ⟨rfl, rfl⟩
        go_wp2_with fail
        go_ret
        rw [← HR.out]
        exact ⟨rfl, HI.out.2.2⟩
    · rw [if_neg hk] at HR
      have e1 : (x.kind == 1) = false := by simpa using fun e => hk (.inl e)
      have e2 : (x.kind == 3) = false := by simpa using fun e => hk (.inr e)
      clear hk
      by_cases hk2 : x.kind = 2
      · rw [if_pos hk2] at HR
        have e3 : (x.kind == 2) = true := by simpa using hk2
        clear hk2
        go_wp2_with fail
        refine (HSC.out _).mono ?_; rintro e w2 ⟨rfl, rfl⟩
        go_wp2_with fail
        go_ret
        rw [← HR.out]
        exact ⟨rfl, HI.out.2.2⟩
      · rw [if_neg hk2] at HR
        have e3 : (x.kind == 2) = false := by simpa using hk2
        clear hk2
        have HN := Lib.hid (fun W : World => um_cmpi x.args.length y.args.length W)
        obtain ⟨c1, hc1⟩ : ∃ c, cmpV (x.args.length : Int) (y.args.length : Int) = c := ⟨_, rfl⟩
        obtain ⟨c2, hc2⟩ : ∃ c, textV x.name.data.toList y.name.data.toList = c := ⟨_, rfl⟩
        rw [hc1] at HN HR
        rw [hc2] at HSC HR
        have HO := Lib.hid (fun (g : Nat) (W : World) (h0 : W.cell? ⟨g, 0, none⟩ = some (.int .i64 c1)) (h1 : W.cell? ⟨g, 1, none⟩ = some (.int .i64 c2)) => um_or g c1 c2 W h0 h1)
        clear hc1 hc2
        rw [HR.out] at HO
        clear HR
        have HKC : Hid (∀ W, Below w1.heap.size w1 W → W.cell? ⟨w.heap.size, 1, none⟩ = some (.string x.name) ∧ W.cell? ⟨w.heap.size, 3, none⟩ = some (.slice ax x.args.length cx) ∧ W.cell? ⟨w.heap.size + 1, 1, none⟩ = some (.string y.name) ∧ W.cell? ⟨w.heap.size + 1, 3, none⟩ = some (.slice ay y.args.length cy)) := Lib.hid (fun W h => by
          obtain ⟨x0, x1, x2, x3, _⟩ := cellsT (keptR9 h HI.out.1)
          obtain ⟨y0, y1, y2, y3, _⟩ := cellsT (keptR9 h HI.out.2.1)
          exact ⟨x1, x3, y1, y3⟩)
        have bD : Below w1.heap.size w1 w1.drew := (Below.refl _ w1).drew
        have bA : ∀ o : Obj, Below w1.heap.size w1 (w1.alloc o).drew := fun o => ((Below.refl _ w1).alloc (Nat.le_refl _) o).drew
        have HBI := Lib.hid HI.out.2.2
        go_upto_region 10 with fail
        clear x0 x1 x2 x3 y0 y1 y2 y3 HI
        go_cut [4] (fun s4 wx => s4 = .int .i64 R ∧ Below w1.heap.size w1 wx)
        case first =>
          go_region_held3 (fun W => W.cell? ⟨w.heap.size, 1, none⟩ = some (.string x.name) ∧ W.cell? ⟨w.heap.size, 3, none⟩ = some (.slice ax x.args.length cx) ∧ W.cell? ⟨w.heap.size + 1, 1, none⟩ = some (.string y.name) ∧ W.cell? ⟨w.heap.size + 1, 3, none⟩ = some (.slice ay y.args.length cy))
            (first | with_reducible exact HKC.out _ bD | with_reducible exact HKC.out _ (bA _))
            (first
              | (go_at_call 39; (refine (HN.out _).mono ?_); rintro e w4 ⟨rfl, rfl⟩)
              | (go_at_call 37; (refine (HSC.out _).mono ?_); rintro e w4 ⟨rfl, rfl⟩)
              | (go_at_call 38; (refine (HO.out _ _ (two_ints _ _ _ _).1 (two_ints _ _ _ _).2).mono ?_); rintro e w4 ⟨rfl, rfl⟩))
          all_goals
            go_wp2_with fail
            go_meet
            exact ⟨rfl, bA _⟩
        case rest =>
          obtain ⟨rfl, hbc⟩ := hcut
          have HBC := Lib.hid (HBI.out.trans (hbc.mono HBI.out.size))
          go_wp2_with fail
          go_ret
          exact ⟨rfl, HBC.out⟩
  · have e0 : (c0 != 0) = true := by simpa using h0
    rw [if_pos h0] at HR
    clear h0
    go_wp2_with fail
    go_ret
    rw [← HR.out]
    exact ⟨rfl, HI.out.2.2⟩
end Go.Proofs.Ytlpmofmhcnclhaa

/-
  The contract of package unify's Compare.
-/
namespace Go.Proofs.Ytlpmofmhcnclhaa
open Go.RowKit

theorem meet_mayU {bs : Bds} (mb : MayB bs) {n : Nat} {t x : Tm} {n1 : Nat} (h : meetL bs n t = (x, 0, n1)) (ht : t.may = true) : x.may = true := by
  have h1 := meet_wlk (bs := bs) (n := n) (t := t) (by rw [h])
  rw [h] at h1
  exact h1.may mb ht
/-- Within Compare. -/
structure CmI (n₀ q : Nat) (R : Int × Int × Nat) (bs : Bds) (w : World) (n : Nat) (L : List (Tm × Tm)) (S : WS) (W : World) : Prop where
  le : n ≤ 2000
  ans : cmpr bs n L = R
  wk : Wk n₀ q false S bs (2000 - n) L W
  lsz : ∀ p ∈ L, p.1.size ≤ 1000000 ∧ p.2.size ≤ 1000000
  ll : L.length ≤ 1 + 1000000 * n
  may : MayP L
  below : Below w.heap.size w W
  big : n₀ ≤ W.heap.size
  low : w.heap.size ≤ n₀

set_option maxRecDepth 100000 in
set_option maxHeartbeats 8000000 in
theorem ub_Compare (bs : List (Int × Tm)) (ab : Option Addr) (cb : Nat) (x y : Tm) (ax : Option Addr) (cx : Nat) (ay : Option Addr) (cy : Nat) (w : World) (hlen : bs.length ≤ 100000) (hl : bs.length ≤ cb) (hc : cb ≤ maxLen) (hsz : ∀ b ∈ bs, b.2.size ≤ 1000000) (hxs : x.size ≤ 1000000) (hys : y.size ≤ 1000000) (hb : BdsAt w (fun b => b < w.heap.size) ab bs) (hx : TmIn w x ax cx) (hy : TmIn w y ay cy) (mb : MayB bs) (mx : x.may = true) (my : y.may = true) :
    Calls Try.prog 14 #[.slice ab bs.length cb, tmv x ax cx, tmv y ay cy] w fun e w' => e = .returned (.tuple #[.int .i64 (cmpr bs 0 [(x, y)]).1, .int .i64 (cmpr bs 0 [(x, y)]).2.1]) ∧ Below w.heap.size w w' := by
  obtain ⟨R, hR⟩ : ∃ R, cmpr bs 0 [(x, y)] = R := ⟨_, rfl⟩
  rw [hR]
  have hbl : bs.length ≤ 1000000 := by omega
  have HMB := Lib.hid mb
  have HSZ := Lib.hid hsz
  have HBA := Lib.hid (CoB.start w x ax cx y ay cy)
  have HBG := Lib.hid (fun W (hbd : Below w.heap.size w W) => um_begin false bs ab cb x y ax cx ay cy W hl hc (fun e => by cases e) (hb.kept (fun b _ hl => hbd.block b hl) fun b hb' _ => Nat.lt_of_lt_of_le hb' hbd.size) (hx.on hbd) (hy.on hbd))
  have HI0 := Lib.hid (fun (n₀ q : Nat) (S : WS) (W : World) (hw : Wk n₀ q false S bs 2000 [(x, y)] W) (h1 : Below w.heap.size w W) (h2 : n₀ ≤ W.heap.size) (h3 : w.heap.size ≤ n₀) => (CmI.mk (Nat.zero_le _) hR hw (fun p hp => by rw [List.mem_singleton.1 hp]; exact ⟨hxs, hys⟩) (show 1 ≤ _ by omega) (fun p hp => by rw [List.mem_singleton.1 hp]; exact ⟨mx, my⟩) h1 h2 h3 : CmI n₀ q R bs w 0 [(x, y)] S W))
  clear hb hx hy hR hsz hxs hys hlen mb mx my
  unfold tmv at *
  go_enter Try.func14, Try.ntmps14
  go_upto_region 1 with fail
  generalize (w.alloc _).alloc _ = w0 at *
  obtain ⟨b0, b1, b2, b3, d0, d1, d2, d3⟩ := cells2T HBA.out.1 HBA.out.2.1
  have hs0 := HBA.out.2.2.size
  go_wp2_with fail
  refine (HBG.out _ HBA.out.2.2).mono ?_; rintro e w2 ⟨q, S, rfl, hwk, hb2⟩
  obtain ⟨n₀, hn0⟩ : ∃ n₀, w0.heap.size = n₀ := ⟨_, rfl⟩
  rw [hn0] at hwk hb2 hs0
  have hs2 := hb2.size
  rw [hn0] at hs2
  have HI := Lib.hid (HI0.out n₀ q S w2 hwk (HBA.out.2.2.trans (hb2.mono hs0)) hs2 hs0)
  clear HI0 HBG HBA hwk hb2 hn0 hs0 hs2 b0 b1 b2 b3 d0 d1 d2 d3
  go_wp2_with fail
  go_loopw [] (fun wr => ∃ n L S, CmI n₀ q R bs w n L S wr) (fun wr => wkOf wr q)
  case atStart => exact ⟨0, _, S, HI.out⟩
  case round =>
    clear HI
    obtain ⟨n, L, S, hi⟩ := hrel
    have HI := Lib.hid hi
    have HWT := Lib.hid (um_waits wr hi.wk)
    clear hi
    cases L with
    | nil =>
      rw [show decide (0 < ([] : List (Tm × Tm)).length) = false from rfl] at HWT
      have HR : Hid (R = (0, 0, n)) := Lib.hid (HI.out.ans.symm.trans (cmpr_nil bs n HI.out.le))
      go_wp2_with fail
      refine HWT.out.mono ?_; rintro e w3 ⟨rfl, rfl⟩
      go_wp2_with fail
      refine bodyPost_ret (v := .tuple #[.int .i64 0, .int .i64 0]) (by simp [results, Try.results14, go_sem]) rfl ?_
      rw [HR.out]
      exact ⟨rfl, HI.out.below⟩
    | cons p L =>
      rw [show decide (0 < (p :: L).length) = true from decide_eq_true (Nat.succ_pos _)] at HWT
      have hll0 := HI.out.ll
      rw [List.length_cons] at hll0
      have hll : L.length ≤ 3000000000 := by have := HI.out.le; omega
      have HNX := Lib.hid (um_next p wr HI.out.big hbl HSZ.out HI.out.wk HI.out.le hll)
      have HW := Lib.hid (next_ways bs n p HI.out.le HSZ.out (HI.out.lsz p (.head _)))
      clear hll0
      go_wp2_with fail
      refine HWT.out.mono ?_; rintro e w3 ⟨rfl, rfl⟩
      rcases HW.out with ⟨x', y', n1, n2, hm1, hm2, hnr, hn2, hn3, hxs, hys, hu⟩ | ⟨x', y', n2, hnr, hu⟩
      · have hmp := HI.out.may p (.head _)
        have hmx := meet_mayU HMB.out hm1 hmp.1
        have hmy := meet_mayU HMB.out hm2 hmp.2
        obtain ⟨hlen0, hco⟩ := co_step hmx hmy (cmpr bs) n2 L
        have HA := Lib.hid ((HI.out.ans.symm.trans (hu L).2).trans hco)
        have HLE := Lib.hid hlen0
        have HKP : Hid ((∀ p ∈ List.zip x'.args y'.args ++ L, p.1.size ≤ 1000000 ∧ p.2.size ≤ 1000000) ∧ (List.zip x'.args y'.args ++ L).length ≤ 1 + 1000000 * n2 ∧ MayP (List.zip x'.args y'.args ++ L)) := Lib.hid (by
          refine ⟨fun p' hp => ?_, ?_, MayP.zip hmx hmy fun p' hp => HI.out.may p' (.tail _ hp)⟩
          · rcases List.mem_append.1 hp with h | h
            · exact zip_sizes hxs hys p' h
            · exact HI.out.lsz p' (.tail _ h)
          · have h1 := HI.out.ll
            rw [List.length_cons] at h1
            have h2 := args_few hxs
            rw [List.length_append, List.length_zip]
            omega)
        have hxl := args_few hxs
        rw [hnr] at HNX
        unfold NxtO tmv at HNX
        dsimp only at HNX
        clear hnr hu hxs hys HW HWT hm1 hm2 hmp hmx hmy hlen0 hco
        go_wp2_with fail
        refine HNX.out.mono ?_; rintro e w4 ⟨a1, c1, a2, c2, rfl, hx4, hy4, hk4, hb4⟩
        have HX4 := Lib.hid hx4
        have HY4 := Lib.hid hy4
        have HK4 := Lib.hid hk4
        have HB4 := Lib.hid (HI.out.below.trans (hb4.mono HI.out.low))
        have hs4 := Nat.le_trans HI.out.big hb4.size
        clear hx4 hy4 hk4 hb4 HNX
        go_upto_region 6 with fail
        have hcb := CoB.start w4 x' a1 c1 y' a2 c2
        generalize (w4.alloc _).alloc _ = w5 at *
        obtain ⟨hq0, hq1, hbb⟩ := hcb
        have hs5 := hbb.size
        obtain ⟨b0, b1, b2, b3, d0, d1, d2, d3⟩ := cells2T hq0 hq1
        have HOU := Lib.hid (um_outsides x' y' a1 a2 c1 c2 w5 HX4.out.kind HY4.out.kind)
        have HB5 := Lib.hid (HB4.out.trans (hbb.mono HB4.out.size))
        have HBB := Lib.hid hbb
        have HQ := Lib.hid (fun W (h : Below w5.heap.size w5 W) => cells2T (keptR9 h hq0) (keptR9 h hq1))
        clear hbb hq0 hq1 HB4
        obtain ⟨c, hcv⟩ : ∃ c, coV x' y' = c := ⟨_, rfl⟩
        rw [hcv] at HA HOU HLE
        unfold tmv at HOU
        clear hcv
        by_cases hz : c = 0
        · subst hz
          rw [if_neg (by simp : ¬ ((0 : Int) ≠ 0))] at HA
          have HLN := Lib.hid (HLE.out rfl)
          go_wp2_with fail
          refine HOU.out.mono ?_; rintro e w6 ⟨rfl, hb6⟩
          have hs6 := hb6.size
          have HB6 := Lib.hid (HB5.out.trans (hb6.mono HB5.out.size))
          have hbk := HBB.out.trans (hb6.mono hs5)
          have HWA := Lib.hid (um_waits2 x'.args y'.args a1 a2 c1 c2 w6 (Nat.le_trans hs4 (Nat.le_trans hs5 hs6)) (HK4.out.on hbk) HLN.out hxl hll (HX4.out.onS hbk).args (HY4.out.onS hbk).args)
          obtain ⟨p0, p1, p2, p3, r0, r1, r2, r3⟩ := HQ.out w6 hb6
          clear hb6 hbk HOU b0 b1 b2 b3 d0 d1 d2 d3 HLE
          unfold WkO at HWA
          go_wp2_with fail
          refine HWA.out.mono ?_; rintro e w7 ⟨S', rfl, hwk, hb7⟩
          have HN : Hid (CmI n₀ q R bs w n2 (List.zip x'.args y'.args ++ L) S' w7) := Lib.hid ⟨hn3, HA.out.symm, hwk, HKP.out.1, HKP.out.2.1, HKP.out.2.2, HB6.out.trans (hb7.mono HI.out.low), Nat.le_trans (Nat.le_trans hs4 (Nat.le_trans hs5 hs6)) hb7.size, HI.out.low⟩
          have HMS := Lib.hid (wkOf_at HI.out.wk)
          have HMT := Lib.hid (wkOf_at HN.out.wk)
          have hnle := HI.out.le
          clear hwk hb7 HWA HA HKP p0 p1 p2 p3 r0 r1 r2 r3
          go_wp2_with fail
          go_roundw
          case rel => exact ⟨n2, _, S', HN.out⟩
          case measure => rw [HMS.out, HMT.out]; omega
        · rw [if_pos hz] at HA
          have e1 : (c != 0) = true := by simpa using hz
          clear hz
          go_wp2_with fail
          refine HOU.out.mono ?_; rintro e w6 ⟨rfl, hb6⟩
          have HB6 := Lib.hid (HB5.out.trans (hb6.mono HB5.out.size))
          clear hb6 HOU b0 b1 b2 b3 d0 d1 d2 d3
          go_wp2_with fail
          refine bodyPost_ret (v := .tuple #[.int .i64 c, .int .i64 0]) (by simp [results, Try.results14, go_sem]) rfl ?_
          rw [HA.out]
          exact ⟨rfl, HB6.out⟩
      · have HA := Lib.hid (HI.out.ans.symm.trans (hu L).2)
        rw [hnr] at HNX
        unfold NxtO tmv at HNX
        dsimp only at HNX
        clear hnr hu HW HWT
        go_wp2_with fail
        refine HNX.out.mono ?_; rintro e w4 ⟨a1, c1, a2, c2, rfl, _, _, _, hb4⟩
        have HB4 := Lib.hid (fun o1 o2 : Obj => HI.out.below.trans ((hb4.mono HI.out.low).trans ((((Below.refl w4.heap.size w4).alloc (Nat.le_refl _) o1).alloc (by simp) o2).mono (Nat.le_trans HI.out.low (Nat.le_trans HI.out.big hb4.size)))))
        clear hb4 HNX
        go_wp2_with fail
        refine bodyPost_ret (v := .tuple #[.int .i64 0, .int .i64 140]) (by simp [results, Try.results14, go_sem]) rfl ?_
        rw [HA.out]
        exact ⟨rfl, HB4.out _ _⟩
end Go.Proofs.Ytlpmofmhcnclhaa
