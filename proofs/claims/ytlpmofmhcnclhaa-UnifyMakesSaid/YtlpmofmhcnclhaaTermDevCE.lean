/-
  Joined texts: TermDevC, TermDevD, TermDevE.
-/
import Derived.Test.YtlpmofmhcnclhaaTermPairs
import Derived.Test.YtlpmofmhcnclhaaTermDevAB
import Derived.Test.YtlpmofmhcnclhaaTermMR
import Derived.Test.YtlpmofmhcnclhaaTermCmp
import Derived.Test.YtlpmofmhcnclhaaTermModelA

/-
  The contracts of package term's own pairs, alike, Same.
-/
namespace Go.Proofs.Ytlpmofmhcnclhaa
open Go.RowKit Go.Shelf
attribute [local go_sem] Oper.semAt_some

/-- Two new blocks beside what a caller keeps. -/
theorem Stay.two {n₀ : Nat} {w W : World} {L : List (Nat × Obj)} {M : Nat → Prop} (h : Stay n₀ w L M W) (hn : n₀ ≤ w.heap.size) (hM : ∀ j, M j → j < W.heap.size) (o1 o2 : Obj) :
    Keeps M W ((W.alloc o1).alloc o2) ∧ Below n₀ W ((W.alloc o1).alloc o2) ∧ Stay n₀ w ((W.heap.size, o1) :: (W.heap.size + 1, o2) :: L) M ((W.alloc o1).alloc o2) := by
  obtain ⟨a1, a2, a3⟩ := h.grow hn hM (((Below.refl W.heap.size W).alloc (Nat.le_refl _) o1).alloc (by simp) o2)
  refine ⟨a1, a2, (a3.cons (q := W.heap.size + 1) (fun j hj e => by have := hM j hj; omega) ?_).cons (q := W.heap.size) (fun j hj e => by have := hM j hj; omega) ?_⟩
  · have := heap_alloc_new (W.alloc o1) o2
    rw [World.size_alloc] at this
    exact this
  · rw [Below.heap_alloc _ _ _ (by simp)]; exact heap_alloc_new _ _

set_option maxHeartbeats 1000000 in
theorem term_pairs (A B : Tm) (ad bd : Option Addr) (ca cb : Nat) (w : World) :
    Calls Try.prog 43 #[tmv A ad ca, tmv B bd cb] w fun e w' => e = .returned (.func (.func 52) #[] #[.pointer (some ⟨w.heap.size, 0, none⟩), .pointer (some ⟨w.heap.size + 1, 0, none⟩)]) ∧
      (w.alloc (.cells #[.int .i64 A.kind, .string A.name, .int .i64 A.n, .slice ad A.args.length ca] 25)).alloc (.cells #[.int .i64 B.kind, .string B.name, .int .i64 B.n, .slice bd B.args.length cb] 25) = w' := by
  unfold tmv
  go_enter Try.func43, Try.ntmps43
  go_wp2_with fail
  go_ret
  exact ⟨rfl, rfl⟩

/-- Whether two terms are the same as far as neither N nor their arguments are asked. -/
def alk (A B : Tm) : Bool := decide (A.kind = B.kind) && (decide (A.name.toList = B.name.toList) && decide (A.args.length = B.args.length))
theorem alk_iff (A B : Tm) : alk A B = true ↔ A.kind = B.kind ∧ A.name = B.name ∧ A.args.length = B.args.length := by
  unfold alk
  rw [Bool.and_eq_true, Bool.and_eq_true, decide_eq_true_eq, decide_eq_true_eq, decide_eq_true_eq]
  have e : A.name.toList = B.name.toList ↔ A.name = B.name := ⟨fun q1 => by rw [Lib.toList_data, Lib.toList_data] at q1; exact ByteArray.ext (Array.toList_inj.mp q1), fun h => by rw [h]⟩
  rw [e]

/-- Whether two terms are the same as far as their arguments are not asked. -/
def alkn (p : Tm × Tm) : Bool := alk p.1 p.2 && decide (p.1.n = p.2.n)
theorem zps_same' (k : Nat) : ∀ (l m : List Tm), Tm.sizes l ≤ k → l.length = m.length → ((Tm.zps l m).all alkn = true ↔ l = m) := by
  induction k with
  | zero =>
    intro l m h hl
    cases l with
    | nil => cases m with
      | nil => simp [Tm.zps]
      | cons u m => cases hl
    | cons t l => rw [Tm.sizes_cons] at h; have := t.size_pos; omega
  | succ k ih =>
    intro l m h hl
    cases l with
    | nil => cases m with
      | nil => simp [Tm.zps]
      | cons u m => cases hl
    | cons t l =>
      cases m with
      | nil => cases hl
      | cons u m =>
        rw [Tm.sizes_cons] at h
        have h1 := t.size_eq
        have h3 := ih l m (by have := t.size_pos; omega) (by simpa using hl)
        rw [Tm.zps_cons, Tm.zp_eq, List.all_append, List.all_cons, Bool.and_eq_true, Bool.and_eq_true, h3]
        constructor
        · rintro ⟨⟨ha, hb⟩, rfl⟩
          unfold alkn at ha
          rw [Bool.and_eq_true, alk_iff, decide_eq_true_eq] at ha
          obtain ⟨⟨a1, a2, a3⟩, a4⟩ := ha
          have h2 := (ih t.args u.args (by omega) a3).1 hb
          rw [show t = u from Tm.ext4 a1 a2 a4 h2]
        · intro e
          injection e with e1 e2
          subst e1 e2
          refine ⟨⟨?_, (ih t.args t.args (by omega) rfl).2 rfl⟩, rfl⟩
          unfold alkn
          rw [Bool.and_eq_true, alk_iff, decide_eq_true_eq]
          exact ⟨⟨rfl, rfl, rfl⟩, rfl⟩
theorem zp_same (A B : Tm) : (A.zp B).all alkn = A.same B := by
  have h := zps_same' _ [A] [B] (Nat.le_refl _) rfl
  rw [Tm.zps_cons, show Tm.zps [] [] = [] from rfl, List.append_nil] at h
  rw [Bool.eq_iff_iff, h, Tm.same_iff]
  simp
theorem all_step2 {l : List (Tm × Tm)} {k : Nat} {p : Tm × Tm} {f : Tm × Tm → Bool} (h : l[k]? = some p) (h1 : (l.take k).all f = true) (h2 : f p = true) : (l.take (k + 1)).all f = true := by
  rw [List.take_add_one, h, List.all_append, h1]; show (true && (f p && true)) = true; rw [h2]; rfl
theorem all_hit2 {l : List (Tm × Tm)} {k : Nat} {p : Tm × Tm} {f : Tm × Tm → Bool} (h : l[k]? = some p) (h2 : f p = false) : l.all f = false := by
  rw [List.all_eq_false]; exact ⟨p, List.mem_of_getElem? h, by rw [h2]; simp⟩
/-- The first k pairs are the same each. -/
def SameUpto (A B : Tm) (k : Nat) : Prop := ((A.zp B).take k).all alkn = true
theorem size5 (w : World) (o1 o2 o3 o4 o5 : Obj) : (((((w.alloc o1).alloc o2).alloc o3).alloc o4).alloc o5).heap.size = w.heap.size + 5 := by simp
theorem new5 (w : World) (o1 o2 o3 o4 o5 : Obj) : (((((w.alloc o1).alloc o2).alloc o3).alloc o4).alloc o5).heap[w.heap.size + 4]? = some o5 := by
  have := heap_alloc_new ((((w.alloc o1).alloc o2).alloc o3).alloc o4) o5
  rw [World.size_alloc, World.size_alloc, World.size_alloc, World.size_alloc] at this
  exact this
theorem old5 (w : World) (o1 o2 o3 o4 o5 : Obj) {b : Nat} (h : b < w.heap.size) : (((((w.alloc o1).alloc o2).alloc o3).alloc o4).alloc o5).heap[b]? = w.heap[b]? := by
  rw [Below.heap_alloc _ _ _ (by simp; omega), old4 _ _ _ _ _ h]
theorem below5 (w : World) (o1 o2 o3 o4 o5 : Obj) : Below w.heap.size w (((((w.alloc o1).alloc o2).alloc o3).alloc o4).alloc o5) :=
  (((((Below.refl _ w).alloc (Nat.le_refl _) _).alloc (by simp) _).alloc (by simp; omega) _).alloc (by simp; omega) _).alloc (by simp; omega) _
theorem stay5 (w : World) (o1 o2 o3 o4 o5 : Obj) : Stay w.heap.size w [(w.heap.size + 2, o3)] (fun _ => False) (((((w.alloc o1).alloc o2).alloc o3).alloc o4).alloc o5) := by
  refine ⟨below5 w o1 o2 o3 o4 o5, fun _ h => h.elim, fun p hp => ?_⟩
  obtain rfl := List.mem_singleton.1 hp
  exact (Below.heap_alloc _ _ _ (by simp)).trans ((Below.heap_alloc _ _ _ (by simp)).trans (new3 w o1 o2 o3))

end Go.Proofs.Ytlpmofmhcnclhaa

/-
  The contracts of package term's own rank, compareOutsides, Compare.
-/
namespace Go.Proofs.Ytlpmofmhcnclhaa
open Go.RowKit Go.Shelf
attribute [local go_sem] Oper.semAt_some

def rankD (k : Int) : Int := if k = 1 then 1 else if k = 3 then 2 else if k = 2 then 3 else if k = 4 then 4 else 0

set_option maxHeartbeats 1000000 in
theorem dev_rank (k : Int) (w : World) :
    Calls Try.prog 54 #[.int .i64 k] w fun e w' => e = .returned (.int .i64 (rankD k)) ∧ w = w' := by
  unfold rankD
  by_cases h1 : k = 1
  · rw [if_pos h1]; subst h1
    go_enter Try.func54, Try.ntmps54
    go_wp2_with fail
    go_ret
    exact ⟨rfl, rfl⟩
  rw [if_neg h1]
  have e1 : (k == 1) = false := by simpa using h1
  by_cases h3 : k = 3
  · rw [if_pos h3]; subst h3
    clear h1
    go_enter Try.func54, Try.ntmps54
    go_wp2_with fail
    go_ret
    exact ⟨rfl, rfl⟩
  rw [if_neg h3]
  have e3 : (k == 3) = false := by simpa using h3
  by_cases h2 : k = 2
  · rw [if_pos h2]; subst h2
    clear h1 h3
    go_enter Try.func54, Try.ntmps54
    go_wp2_with fail
    go_ret
    exact ⟨rfl, rfl⟩
  rw [if_neg h2]
  have e2 : (k == 2) = false := by simpa using h2
  by_cases h4 : k = 4
  · rw [if_pos h4]; subst h4
    clear h1 h3 h2
    go_enter Try.func54, Try.ntmps54
    go_wp2_with fail
    go_ret
    exact ⟨rfl, rfl⟩
  rw [if_neg h4]
  have e4 : (k == 4) = false := by simpa using h4
  clear h1 h2 h3 h4
  go_enter Try.func54, Try.ntmps54
  go_wp2_with fail
  go_ret
  exact ⟨rfl, rfl⟩
/-- How two compare as far as their arguments are not asked. -/
noncomputable def cmpo (p : Tm × Tm) : Int :=
  if cmpV (rankD p.1.kind) (rankD p.2.kind) ≠ 0 then cmpV (rankD p.1.kind) (rankD p.2.kind)
  else if cmpV p.1.args.length p.2.args.length ≠ 0 then cmpV p.1.args.length p.2.args.length
  else if textV p.1.name.data.toList p.2.name.data.toList ≠ 0 then textV p.1.name.data.toList p.2.name.data.toList
  else cmpV p.1.n p.2.n

set_option maxRecDepth 100000 in
set_option maxHeartbeats 1000000 in
theorem dev_outsides (A B : Tm) (ad bd : Option Addr) (ca cb : Nat) (w : World) :
    Calls Try.prog 44 #[tmv A ad ca, tmv B bd cb] w fun e w' => e = .returned (.int .i64 (cmpo (A, B))) ∧ Below w.heap.size w w' := by
  have HBB := Lib.hid (fun (o1 o2 : Obj) => (((Below.refl w.heap.size w).alloc (Nat.le_refl _) o1).alloc (by simp) o2))
  have hl := bytesLess_eq A.name.data.toList B.name.data.toList
  rw [← Lib.toList_data, ← Lib.toList_data] at hl
  unfold tmv cmpo textV
  dsimp only
  rw [← Lib.toList_data, ← Lib.toList_data]
  by_cases h1 : cmpV (rankD A.kind) (rankD B.kind) = 0
  · rw [if_neg (by simpa using h1)]
    have e1 : (cmpV (rankD A.kind) (rankD B.kind) != 0) = false := by simpa using h1
    clear h1
    by_cases h2 : cmpV (A.args.length : Int) (B.args.length : Int) = 0
    · rw [if_neg (by simpa using h2)]
      have e2 : (cmpV (A.args.length : Int) (B.args.length : Int) != 0) = false := by simpa using h2
      clear h2
      by_cases h3 : A.name.toList < B.name.toList
      · rw [decide_eq_true h3] at hl
        rw [if_pos h3, if_pos (by decide)]
        clear h3
        go_enter Try.func44, Try.ntmps44
        go_wp2_with fail
        go_quiet (first
          | (go_at_call 54; exact quiet_left (dev_rank _ _))
          | (go_at_call 53; exact quiet_left (num_Cmp _ _ _)))
        go_wp2_with fail
        refine (num_Cmp _ _ _).mono ?_; rintro e w' ⟨rfl, rfl⟩
        go_wp2_with fail
        go_ret
        exact ⟨rfl, below_dn (HBB.out _ _) _⟩
      · rw [decide_eq_false h3] at hl
        rw [if_neg h3]
        by_cases h4 : A.name.toList = B.name.toList
        · rw [if_pos h4, if_neg (by simp)]
          have h6 : (A.name.toList == B.name.toList) = true := by simpa using h4
          clear h3 h4
          go_enter Try.func44, Try.ntmps44
          go_wp2_with fail
          go_quiet (first
            | (go_at_call 54; exact quiet_left (dev_rank _ _))
            | (go_at_call 53; exact quiet_left (num_Cmp _ _ _)))
          go_wp2_with fail
          refine (num_Cmp _ _ _).mono ?_; rintro e w' ⟨rfl, rfl⟩
          go_wp2_with fail
          refine (num_Cmp _ _ _).mono ?_; rintro e w' ⟨rfl, rfl⟩
          go_wp2_with fail
          go_ret
          exact ⟨rfl, below_dn (HBB.out _ _) _⟩
        · rw [if_neg h4, if_pos (by decide)]
          have h6 : (A.name.toList == B.name.toList) = false := by simpa using h4
          clear h3 h4
          go_enter Try.func44, Try.ntmps44
          go_wp2_with fail
          go_quiet (first
            | (go_at_call 54; exact quiet_left (dev_rank _ _))
            | (go_at_call 53; exact quiet_left (num_Cmp _ _ _)))
          go_wp2_with fail
          refine (num_Cmp _ _ _).mono ?_; rintro e w' ⟨rfl, rfl⟩
          go_wp2_with fail
          go_ret
          exact ⟨rfl, below_dn (HBB.out _ _) _⟩
    · rw [if_pos h2]
      have e2 : (cmpV (A.args.length : Int) (B.args.length : Int) != 0) = true := by simpa using h2
      clear h2 hl
      go_enter Try.func44, Try.ntmps44
      go_wp2_with fail
      go_quiet (first
        | (go_at_call 54; exact quiet_left (dev_rank _ _))
        | (go_at_call 53; exact quiet_left (num_Cmp _ _ _)))
      go_wp2_with fail
      refine (num_Cmp _ _ _).mono ?_; rintro e w' ⟨rfl, rfl⟩
      go_wp2_with fail
      go_ret
      exact ⟨rfl, below_dn (HBB.out _ _) _⟩
  · rw [if_pos h1]
    have e1 : (cmpV (rankD A.kind) (rankD B.kind) != 0) = true := by simpa using h1
    clear h1 hl
    go_enter Try.func44, Try.ntmps44
    go_wp2_with fail
    go_quiet (first
      | (go_at_call 54; exact quiet_left (dev_rank _ _))
      | (go_at_call 53; exact quiet_left (num_Cmp _ _ _)))
    go_wp2_with fail
    go_ret
    exact ⟨rfl, below_dn (HBB.out _ _) _⟩

/-- The first of some pairs that differ as far as their arguments are not asked. -/
noncomputable def cmpz : List (Tm × Tm) → Int
  | [] => 0
  | p :: l => if cmpo p ≠ 0 then cmpo p else cmpz l
theorem cmpz_append (l m : List (Tm × Tm)) : cmpz (l ++ m) = if cmpz l ≠ 0 then cmpz l else cmpz m := by
  induction l with
  | nil => show cmpz m = if (0 : Int) ≠ 0 then (0 : Int) else cmpz m; rw [if_neg (by simp)]
  | cons p l ih =>
    show (if cmpo p ≠ 0 then cmpo p else cmpz (l ++ m)) = if (if cmpo p ≠ 0 then cmpo p else cmpz l) ≠ 0 then (if cmpo p ≠ 0 then cmpo p else cmpz l) else cmpz m
    by_cases h : cmpo p = 0
    · have h' : ¬ cmpo p ≠ 0 := by simpa using h
      rw [if_neg h', if_neg h', ih]
    · rw [if_pos h, if_pos h, if_pos h]
theorem cmpz_none {l : List (Tm × Tm)} (h : ∀ p ∈ l, cmpo p = 0) : cmpz l = 0 := by
  induction l with
  | nil => rfl
  | cons p l ih => show (if cmpo p ≠ 0 then cmpo p else cmpz l) = 0; rw [if_neg (by simpa using h p (.head _)), ih fun q hq => h q (.tail _ hq)]
theorem cmpz_hit : ∀ (l : List (Tm × Tm)) (k : Nat) (p : Tm × Tm), l[k]? = some p → (∀ q ∈ l.take k, cmpo q = 0) → cmpo p ≠ 0 → cmpz l = cmpo p
  | [], k, p, h, _, _ => by simp at h
  | q :: l, 0, p, h, _, hn => by
    have : q = p := by simpa using h
    subst this
    show (if cmpo q ≠ 0 then cmpo q else cmpz l) = _
    rw [if_pos hn]
  | q :: l, k + 1, p, h, hz, hn => by
    show (if cmpo q ≠ 0 then cmpo q else cmpz l) = _
    rw [if_neg (by simpa using hz q (by simp))]
    exact cmpz_hit l k p (by simpa using h) (fun q hq => hz q (by rw [List.take_succ_cons]; exact .tail _ hq)) hn
theorem cmpV_n {a b : Int} : cmpV a b ≠ 0 ↔ a ≠ b := ⟨fun h e => h (by rw [e, cmpV_self]), fun h e => h (cmpV_zero e)⟩
theorem rankD_of {t : Tm} (h : t.may = true) : rankD t.kind = rankV t.kind + 1 := by
  rcases rank_of h with ⟨h, h'⟩ | ⟨h, h'⟩ | ⟨h, h'⟩ | ⟨h, h'⟩ <;> rw [h'] <;> rw [h] <;> rfl
theorem cmpV_add (a b : Int) : cmpV (a + 1) (b + 1) = cmpV a b := by unfold cmpV; split <;> split <;> (try split) <;> (try split) <;> omega
theorem rankV_inj {a b : Tm} (ha : a.may = true) (hb : b.may = true) (h : rankV a.kind = rankV b.kind) : a.kind = b.kind := by
  rcases rank_of ha with ⟨h1, h1'⟩ | ⟨h1, h1'⟩ | ⟨h1, h1'⟩ | ⟨h1, h1'⟩ <;> rcases rank_of hb with ⟨h2, h2'⟩ | ⟨h2, h2'⟩ | ⟨h2, h2'⟩ | ⟨h2, h2'⟩ <;> omega
theorem cmpo_may {a b : Tm} (ha : a.may = true) (hb : b.may = true) : a.cmp b = if cmpo (a, b) ≠ 0 then cmpo (a, b) else if a.kind = 4 then Tm.cmps a.args b.args else 0 := by
  have hr : cmpV (rankD a.kind) (rankD b.kind) = cmpV (rankV a.kind) (rankV b.kind) := by rw [rankD_of ha, rankD_of hb, cmpV_add]
  by_cases hk : a.kind = b.kind
  · have h0 : cmpV (rankV a.kind) (rankV b.kind) = 0 := by rw [hk, cmpV_self]
    have ho : cmpo (a, b) = if cmpV a.args.length b.args.length ≠ 0 then cmpV a.args.length b.args.length else if textV a.name.data.toList b.name.data.toList ≠ 0 then textV a.name.data.toList b.name.data.toList else cmpV a.n b.n := by
      unfold cmpo
      dsimp only
      rw [hr, if_neg (by rw [h0]; simp)]
    rcases may_parts ha with ⟨h1, h2, h3⟩ | ⟨h1, h2, h3⟩ | ⟨h1, h2, h3⟩ | ⟨h1, h2, h3⟩ <;> rcases may_parts hb with ⟨g1, g2, g3⟩ | ⟨g1, g2, g3⟩ | ⟨g1, g2, g3⟩ | ⟨g1, g2, g3⟩ <;> (try omega)
    · have ho' : cmpo (a, b) = cmpV a.n b.n := by rw [ho, h3, g3, h2, g2, textV_self]; simp [cmpV_self]
      rw [ho', cmp_num hk (.inl h1)]
      by_cases e : cmpV a.n b.n = 0
      · rw [e]; simp [h1]
      · rw [if_pos e]
    · have ho' : cmpo (a, b) = textV a.name.data.toList b.name.data.toList := by
        rw [ho, h3, g3, h2, g2]
        by_cases e : textV a.name.data.toList b.name.data.toList = 0
        · rw [e]; simp [cmpV_self]
        · rw [if_pos e]; simp [cmpV_self]
      rw [ho', cmp_atom hk h1]
      by_cases e : textV a.name.data.toList b.name.data.toList = 0
      · rw [e]; simp [h1]
      · rw [if_pos e]
    · have ho' : cmpo (a, b) = cmpV a.n b.n := by rw [ho, h3, g3, h2, g2, textV_self]; simp [cmpV_self]
      rw [ho', cmp_num hk (.inr h1)]
      by_cases e : cmpV a.n b.n = 0
      · rw [e]; simp [h1]
      · rw [if_pos e]
    · rw [cmp_four h1 g1, if_pos h1]
      by_cases e : a.args.length = b.args.length
      · have e' : cmpV (a.args.length : Int) (b.args.length : Int) = 0 := by rw [e, cmpV_self]
        have ho' : cmpo (a, b) = textV a.name.data.toList b.name.data.toList := by
          rw [ho, e', h2, g2, cmpV_self]
          by_cases e2 : textV a.name.data.toList b.name.data.toList = 0
          · rw [e2]; simp
          · rw [if_pos e2]; simp
        rw [ho', if_neg (by simpa using e)]
      · have e' : cmpV (a.args.length : Int) (b.args.length : Int) ≠ 0 := cmpV_n.2 (by omega)
        have ho' : cmpo (a, b) = cmpV (a.args.length : Int) (b.args.length : Int) := by rw [ho, if_pos e']
        rw [ho', if_pos e, if_pos e']
  · have h0 : cmpV (rankV a.kind) (rankV b.kind) ≠ 0 := cmpV_n.2 fun e => hk (rankV_inj ha hb e)
    have ho : cmpo (a, b) = cmpV (rankV a.kind) (rankV b.kind) := by
      unfold cmpo
      dsimp only
      rw [hr, if_pos h0]
    rw [ho, if_pos h0, cmp_kinds hk]
theorem cmpo_len {a b : Tm} (h : cmpo (a, b) = 0) : a.args.length = b.args.length := by
  by_cases e : a.args.length = b.args.length
  · exact e
  · have e' : cmpV (a.args.length : Int) (b.args.length : Int) ≠ 0 := cmpV_n.2 (by omega)
    unfold cmpo at h
    dsimp only at h
    by_cases h0 : cmpV (rankD a.kind) (rankD b.kind) = 0
    · rw [if_neg (by simpa using h0), if_pos e'] at h
      exact absurd h e'
    · rw [if_pos h0] at h
      exact absurd h h0
theorem mays_args {a : Tm} (h : a.may = true) : Tm.mays a.args = true := by
  rcases may_parts h with ⟨_, _, h⟩ | ⟨_, _, h⟩ | ⟨_, _, h⟩ | ⟨_, _, h⟩
  · rw [h]; rfl
  · rw [h]; rfl
  · rw [h]; rfl
  · exact h
theorem cmps_leaf {a b : Tm} (ha : a.may = true) (h : a.kind ≠ 4) : Tm.cmps a.args b.args = 0 := by
  rcases may_parts ha with ⟨_, _, h⟩ | ⟨_, _, h⟩ | ⟨_, _, h⟩ | ⟨h, _, _⟩
  · rw [h]; rw [Tm.cmps]
  · rw [h]; rw [Tm.cmps]
  · rw [h]; rw [Tm.cmps]
  · contradiction
theorem cmps_zps' (k : Nat) : ∀ (l m : List Tm), Tm.sizes l ≤ k → l.length = m.length → Tm.mays l = true → Tm.mays m = true → cmpz (Tm.zps l m) = Tm.cmps l m := by
  induction k with
  | zero =>
    intro l m h hl _ _
    cases l with
    | nil => cases m with
      | nil => rfl
      | cons u m => cases hl
    | cons t l => rw [Tm.sizes_cons] at h; have := t.size_pos; omega
  | succ k ih =>
    intro l m h hl hml hmm
    cases l with
    | nil => cases m with
      | nil => rfl
      | cons u m => cases hl
    | cons t l =>
      cases m with
      | nil => cases hl
      | cons u m =>
        rw [Tm.sizes_cons] at h
        have h1 := t.size_eq
        obtain ⟨ht, hl'⟩ := mays_cons hml
        obtain ⟨hu, hm'⟩ := mays_cons hmm
        have h3 := ih l m (by have := t.size_pos; omega) (by simpa using hl) hl' hm'
        have hz : cmpz (Tm.zp t u) = t.cmp u := by
          rw [Tm.zp_eq, cmpo_may ht hu]
          show (if cmpo (t, u) ≠ 0 then cmpo (t, u) else cmpz (Tm.zps t.args u.args)) = _
          by_cases h0 : cmpo (t, u) = 0
          · have h0' : ¬ cmpo (t, u) ≠ 0 := by simpa using h0
            rw [if_neg h0', if_neg h0', ih t.args u.args (by omega) (cmpo_len h0) (mays_args ht) (mays_args hu)]
            by_cases h4 : t.kind = 4
            · rw [if_pos h4]
            · rw [if_neg h4, cmps_leaf ht h4]
          · rw [if_pos h0, if_pos h0]
        rw [Tm.zps_cons, cmpz_append, h3, cmps_cons, hz]
theorem cmp_zp {A B : Tm} (hA : A.may = true) (hB : B.may = true) : cmpz (A.zp B) = A.cmp B := by
  have h := cmps_zps' _ [A] [B] (Nat.le_refl _) rfl (by show (A.may && true) = true; rw [hA]; rfl) (by show (B.may && true) = true; rw [hB]; rfl)
  rw [Tm.zps_cons, show Tm.zps [] [] = [] from rfl, List.append_nil, cmps_cons] at h
  rw [h]
  split
  · rfl
  · rename_i h2
    have : A.cmp B = 0 := by simpa using h2
    rw [this]; rfl
end Go.Proofs.Ytlpmofmhcnclhaa

/-
  The contract of package term's own Compare.
-/
namespace Go.Proofs.Ytlpmofmhcnclhaa
open Go.RowKit Go.Shelf
attribute [local go_sem] Oper.semAt_some

/-- The first k pairs do not differ as far as their arguments are not asked. -/
def CmpUpto (A B : Tm) (k : Nat) : Prop := ∀ q ∈ (A.zp B).take k, cmpo q = 0
theorem cmpu_step {A B : Tm} {k : Nat} {p : Tm × Tm} (h : (A.zp B)[k]? = some p) (h1 : CmpUpto A B k) (h2 : cmpo p = 0) : CmpUpto A B (k + 1) := by
  intro q hq
  rw [List.take_add_one, h, List.mem_append] at hq
  rcases hq with hq | hq
  · exact h1 q hq
  · obtain rfl : q = p := by simpa using hq
    exact h2

set_option maxRecDepth 100000 in
set_option maxHeartbeats 4000000 in
theorem term_Cmpz (A B : Tm) (ad bd : Option Addr) (ca cb : Nat) (w : World) (hMA : A.size ≤ 1000000) (hA : TmIn w A ad ca) (hB : TmIn w B bd cb) :
    Calls Try.prog 35 #[tmv A ad ca, tmv B bd cb] w fun e w' => e = .returned (.int .i64 (cmpz (A.zp B))) ∧ Below w.heap.size w w' := by
  have HPA := Lib.hid hA.inP
  have HPB := Lib.hid hB.inP
  clear hA hB
  have HPART := Lib.hid (fun w => term_pairs A B ad bd ca cb w)
  unfold tmv at *
  refine (callsIn_wide (n := 4)).1 ?_
  refine callsIn_of_wp_marks Try.func35 rfl trivial ?_ rfl
  simp only [Try.ntmps35, List.size_toArray, List.length_cons, List.length_nil, Nat.reduceAdd, Nat.reduceSub, Array.replicate_succ, Array.replicate_zero, List.push_toArray, List.append_toArray, List.nil_append, List.cons_append]
  gi_wp2_with ((refine ⟨trivial, ?_⟩; gi_at_call 43; refine (callsIn_wide.2 (HPART.out _)).mono ?_; rintro e w' ⟨rfl, rfl⟩))
  have hseq := fun w0 h1 h2 h3 h4 h5 => pairs_seq A B ad bd ca cb (w.heap.size + 3) (w.heap.size + 4) w.heap.size w0 hMA h1 h2 h3 h4 h5
  generalize hox : Obj.cells #[.int .i64 A.kind, .string A.name, .int .i64 A.n, .slice ad A.args.length ca] 25 = ox at *
  generalize hoy : Obj.cells #[.int .i64 B.kind, .string B.name, .int .i64 B.n, .slice bd B.args.length cb] 25 = oy at *
  have hs := hseq (((((w.alloc ox).alloc oy).alloc (.cells #[.int .i64 0] 3)).alloc ox).alloc oy) ((Below.heap_alloc _ _ _ (by simp)).trans (new4 w _ _ _ _)) (new5 w _ _ _ _ _) (HPA.out.kept (fun b _ hlt => old5 w _ _ _ _ _ hlt) (fun b h _ => h)) (HPB.out.kept (fun b _ hlt => old5 w _ _ _ _ _ hlt) (fun b h _ => h)) (by simp; omega)
  have hst := stay5 w ox oy (.cells #[.int .i64 0] 3) ox oy
  have hsz := size5 w ox oy (.cells #[.int .i64 0] 3) ox oy
  generalize ((((w.alloc ox).alloc oy).alloc (.cells #[.int .i64 0] 3)).alloc ox).alloc oy = W0 at *
  clear HPA HPB HPART hseq hox hoy
  refine range_walk (gf := 52) (lb := #[.pointer (some ⟨w.heap.size + 3, 0, none⟩), .pointer (some ⟨w.heap.size + 4, 0, none⟩)]) rfl (enters_of Try.func52 (by kernel_rfl) rfl) hs (Below.refl _ _) (by omega) (fun _ => rfl)
    (StayI w.heap.size w (fun _ (_ : Unit) => [(w.heap.size + 2, .cells #[.int .i64 0] 3 (0, 0))]) (fun k _ => CmpUpto A B k))
    (fun c => StayI w.heap.size w (fun _ (_ : Unit) => [(w.heap.size + 2, .cells #[.int .i64 (cmpz (A.zp B))] 3 (0, 0))]) (fun _ _ => c = .ret))
    (stay_abides (Nat.le_refl _) _ _) (fun _ => stay_abides (Nat.le_refl _) _ _) ⟨(), hst, fun q hq => absurd hq (by simp)⟩ ?round ?done ?stop
  case round =>
    rintro l M k ⟨x, xd, xc, y, yd, yc⟩ W ⟨_, hS, hall⟩ hk hx hMl
    have hM1 : ∀ j, M j → j < W.heap.size := fun j hj => (hMl j hj).2
    have HALL := Lib.hid hall
    have HX := Lib.hid hx
    have HS := Lib.hid hS
    have HM1 := Lib.hid hM1
    clear hS hx hMl hM1 hst hs hall
    unfold pairv tmv
    dsimp only
    gi_wp2
    obtain ⟨a1, a2, a3⟩ := HS.out.two (Nat.le_refl _) HM1.out (.cells #[.int .i64 x.kind, .string x.name, .int .i64 x.n, .slice xd x.args.length xc] 25) (.cells #[.int .i64 y.kind, .string y.name, .int .i64 y.n, .slice yd y.args.length yc] 25)
    refine ⟨a1, a2, fun W₂ ht hs2 => ?_⟩
    have hS3 := a3.turn (M' := M) (Nat.le_refl _) ht (fun j hj => .inl hj)
    obtain ⟨c0, c1, c2, c3⟩ := cell4 (hS3.has _ (.head _))
    obtain ⟨d0, d1, d2, d3⟩ := cell4 (hS3.has _ (.tail _ (.head _)))
    have hs2' : W₂.heap.size = W.heap.size + 2 := by rw [hs2]
    have hM3 : ∀ j, M j → j < W₂.heap.size := fun j hj => by have := HM1.out j hj; omega
    have HS3 := Lib.hid hS3
    have HM3 := Lib.hid hM3
    have hal := dev_outsides x y xd yd xc yc W₂
    have HS2 := Lib.hid hs2'
    unfold tmv at hal
    clear hS3 hM3 ht a1 a2 a3 hs2 hs2'
    by_cases h0 : cmpo (x, y) = 0
    · rw [h0] at hal
      have HAL := Lib.hid hal
      have HYES := Lib.hid (cmpu_step HX.out.1 HALL.out h0)
      clear h0 hal
      gi_wp2_with ((refine ⟨trivial, ?_⟩; gi_at_call 44; refine (CallsIn.inRound l (callsIn_wide.2 HAL.out)).mono ?_; rintro e W₄ ⟨rfl, hb4⟩; obtain ⟨k4, b4, s4⟩ := HS3.out.grow (Nat.le_refl _) HM3.out hb4; have K4 := Lib.hid k4; have B4 := Lib.hid b4; have S4 := Lib.hid s4; clear k4 b4 s4 hb4))
      exact ⟨K4.out, B4.out, (), S4.out.less fun p hp => .tail _ (.tail _ hp), HYES.out⟩
    · have HNO := Lib.hid (cmpz_hit _ k (x, y) HX.out.1 HALL.out h0)
      have en : (cmpo (x, y) != 0) = true := by simpa using h0
      generalize cmpo (x, y) = c at *
      have HAL := Lib.hid hal
      clear h0 hal
      gi_wp2_with ((refine ⟨trivial, ?_⟩; gi_at_call 44; refine (CallsIn.inRound l (callsIn_wide.2 HAL.out)).mono ?_; rintro e W₄ ⟨rfl, hb4⟩; obtain ⟨k4, b4, s4⟩ := HS3.out.grow (Nat.le_refl _) HM3.out hb4; obtain ⟨hc4, hf4⟩ := cell1 (s4.has _ (.tail _ (.tail _ (.head _)))); have K4 := Lib.hid k4; have B4 := Lib.hid b4; have S4 := Lib.hid s4; clear k4 b4 s4 hb4))
      have hWs := HS.out.lt (.head _)
      dsimp only at hWs
      obtain ⟨g1, g2, g3⟩ := S4.out.store (.tail _ (.tail _ (.head _))) (by omega) 0 (.int .i64 c)
      refine ⟨K4.out.trans g1, (), g3.less fun p hp => ?_, rfl⟩
      obtain rfl := List.mem_singleton.1 hp
      simp only [setL, List.map_cons, List.map_nil]
      rw [if_neg (by omega), if_neg (by omega), if_pos trivial, HNO.out]
      exact .tail _ (.tail _ (.head _))
  case done =>
    rintro D M W hD _ ⟨_, hS, hall⟩ hK
    unfold CmpUpto at hall
    rw [List.take_of_length_le (Nat.le_refl _)] at hall
    have hall := cmpz_none hall
    obtain ⟨hc, hf⟩ := cell1 (hS.has _ (.head _))
    have HS := Lib.hid hS
    have HA := Lib.hid hall
    have hD' : w.heap.size + 5 ≤ D := by omega
    have HK := Lib.hid hK
    clear hS hst hs hall hD hK
    gi_wp2
    have g := fun v => (HS.out.store (.head _) (by omega) 0 v).2.2.below
    refine ⟨by simp, .inl ⟨_, _, rfl, run_takeDeferred ((Below.heap_setCell _ _ _ _ (show D ≠ w.heap.size + 2 by omega)).trans HK.out), ?_⟩⟩
    have hres := fun v : Value => (cell1 ((World.putObj_heap_other (o := .deferred none) (show w.heap.size + 2 ≠ D by omega)).trans (block_set1 (v := v) (HS.out.has _ (.head _))))).1
    refine ⟨_, by simp [results, Try.results35, go_sem, hres]; rfl, ?_, below_mark (g _) (by omega)⟩
    rw [HA.out]
  case stop =>
    rintro D c M k W hD _ _ ⟨_, hS, rfl⟩ hK
    have HS := Lib.hid hS
    have HK := Lib.hid hK
    have hD' : w.heap.size + 5 ≤ D := by omega
    clear hS hK hst hs hD
    gi_wp2
    refine ⟨by simp, .inl ⟨_, _, rfl, run_takeDeferred HK.out, ?_⟩⟩
    have hres := (cell1 ((World.putObj_heap_other (o := .deferred none) (show w.heap.size + 2 ≠ D by omega)).trans (HS.out.has _ (.head _)))).1
    refine ⟨_, by simp [results, Try.results35, go_sem, hres]; rfl, ?_, below_mark HS.out.below (by omega)⟩
    rfl
theorem term_Compare (A B : Tm) (ad bd : Option Addr) (ca cb : Nat) (w : World) (hMA : A.size ≤ 1000000) (hmA : A.may = true) (hmB : B.may = true) (hA : TmIn w A ad ca) (hB : TmIn w B bd cb) :
    Calls Try.prog 35 #[tmv A ad ca, tmv B bd cb] w fun e w' => e = .returned (.int .i64 (A.cmp B)) ∧ Below w.heap.size w w' := by
  rw [← cmp_zp hmA hmB]
  exact term_Cmpz A B ad bd ca cb w hMA hA hB
end Go.Proofs.Ytlpmofmhcnclhaa
