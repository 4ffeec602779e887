/-
  Joined texts: TermParts, TermDevA, TermDevB.
-/
import Derived.Test.YtlpmofmhcnclhaaIterAll
import Derived.Test.YtlpmofmhcnclhaaTermMay
import Derived.Test.YtlpmofmhcnclhaaCharDevAC

/-
  Package term's own iterator over the parts of a term: it hands over each part with its depth, a term ahead of its arguments, from the left.
-/
namespace Go.Proofs.Ytlpmofmhcnclhaa
open Go.RowKit
attribute [local go_sem] Oper.semAt_some

/-- The k-th part of T, as it is handed over. -/
def PartAt (T : Tm) (k : Nat) (x : Nat × Tm × Option Addr × Nat) : Prop := (T.parts 1)[k]? = some (x.1, x.2.1) ∧ TmOk x.2.1 x.2.2.2 ∧ x.1 ≤ 1000000
def partv (x : Nat × Tm × Option Addr × Nat) : Array Value := #[.int .i64 (x.1 : Nat), tmv x.2.1 x.2.2.1 x.2.2.2]
/-- The iterator's memory between two rounds; R: its stack, the top first. -/
structure PIn (T : Tm) (n₀ q : Nat) (J : (Nat → Prop) → Nat → World → Prop) (k : Nat) (R : List Ent) (g cap : Nat) (W : World) : Prop where
  own : W.ownsRow (q + 1) 23 1 (.slice (some ⟨g, 0, none⟩) R.length cap) R.length (R.map Ent.v).reverse
  ok : ∀ e ∈ R, e.Ok W (fun b => b < n₀ ∨ b = q)
  j : J (two q g) k W
  le : k ≤ T.size
  rest : (T.parts 1).drop k = remain (R.map Ent.ts)
  depth : R.length ≤ k + 1
  lt : q < W.heap.size
def PInv (T : Tm) (n₀ q : Nat) (J : (Nat → Prop) → Nat → World → Prop) (m : Nat) (p : Value) (W : World) : Prop :=
  ∃ k R g cap, p = .slice (some ⟨g, 0, none⟩) R.length cap ∧ PIn T n₀ q J k R g cap W ∧ m = 2 * (T.size - k) + R.length
theorem PIn.pop {T : Tm} {n₀ q : Nat} {J : (Nat → Prop) → Nat → World → Prop} {k : Nat} {ad : Option Addr} {c : Nat} {R : List Ent} {g cap : Nat} {W : World} (h : PIn T n₀ q J k (⟨[], ad, c⟩ :: R) g cap W) : PIn T n₀ q J k R g cap W :=
  ⟨by have := h.own; rw [List.map_cons, List.reverse_cons] at this; exact ownsRow_pop this, fun e he => h.ok e (.tail _ he), h.j, h.le, by have := h.rest; exact this, by have := h.depth; rw [List.length_cons] at this; omega, h.lt⟩
theorem row1P {w : World} {n₀ : Nat} {T : Tm} {ad : Option Addr} {cap : Nat} (h : TmP w (fun b => b < n₀) T ad cap) :
    TArgsP (w.alloc (.cells #[.int .i64 T.kind, .string T.name, .int .i64 T.n, .slice ad T.args.length cap] 25)) (fun b => b < n₀ ∨ b = w.heap.size) (some ⟨w.heap.size, 0, none⟩) [T] := by
  have h1 := h.args.kept (w' := w.alloc (.cells #[.int .i64 T.kind, .string T.name, .int .i64 T.n, .slice ad T.args.length cap] 25)) (Q := fun b => b < n₀ ∨ b = w.heap.size) (fun b _ hlt => Below.heap_alloc _ _ _ hlt) (fun b hb _ => .inl hb)
  rw [T.eta]
  exact .cons _ _ _ _ _ _ _ ad cap (.inr rfl) (World.cell?_alloc_at _ _ _ _ rfl) (World.cell?_alloc_at _ _ _ _ rfl) (World.cell?_alloc_at _ _ _ _ rfl) (World.cell?_alloc_at _ _ _ _ rfl) h.kind h.n h.name h.len h.cap h1 (.nil _)
theorem PIn.start {T : Tm} {ad : Option Addr} {cap n₀ : Nat} {J : (Nat → Prop) → Nat → World → Prop} {W : World} (hp : TmP W (fun b => b < n₀) T ad cap) (_hn : n₀ ≤ W.heap.size) (hJ : Abides J) (h0 : J (fun _ => False) 0 W) :
    PIn T n₀ W.heap.size J 0 [⟨[T], some ⟨W.heap.size, 0, none⟩, 1⟩] (W.heap.size + 1) 1
      ((W.alloc (.cells #[.int .i64 T.kind, .string T.name, .int .i64 T.n, .slice ad T.args.length cap] 25)).alloc (.cells #[.slice (some ⟨W.heap.size, 0, none⟩) 1 1] 23)) := by
  have hr := row1P hp
  generalize hw : W.alloc (.cells #[.int .i64 T.kind, .string T.name, .int .i64 T.n, .slice ad T.args.length cap] 25) = W1 at *
  have hs : W1.heap.size = W.heap.size + 1 := by rw [← hw]; simp
  refine ⟨?_, ?_, ?_, Nat.zero_le _, ?_, Nat.le_refl _, by simp [hs]; omega⟩
  · have h1 := World.ownsRow_lit (base := W.heap.size + 1) (e := 23) (size := 1) W1 #[.slice (some ⟨W.heap.size, 0, none⟩) 1 1] 1 (by omega) (by decide) rfl
    rw [hs] at h1
    exact h1
  · intro e he
    obtain rfl := List.mem_singleton.1 he
    exact ⟨Nat.le_refl _, by show 1 ≤ maxLen; decide, hr.kept (fun b _ hlt => Below.heap_alloc _ _ _ hlt) fun _ h _ => h⟩
  · refine hJ _ _ 0 W _ h0 ?_ (fun j hj => .inr ?_) (fun j hj => ?_)
    · rw [← hw]; exact (Turn.alloc _ W _).trans (Turn.alloc _ _ _)
    · rcases hj with rfl | rfl <;> omega
    · rcases hj with rfl | rfl <;> simp [hs] <;> omega
  · show (T.parts 1).drop 0 = Tm.partss [T] 1 ++ []
    rw [List.drop_zero, List.append_nil, Tm.partss_cons]; exact (List.append_nil _).symm
theorem infoTerms : (Try.prog.info? 23).map (fun i => (i.zero, i.size, i.bytes)) = some (some (.slice none 0 0), 1, 24) := by kernel_rfl

end Go.Proofs.Ytlpmofmhcnclhaa

/-
  The contracts of package term's own parts, Deep, Size.
-/
namespace Go.Proofs.Ytlpmofmhcnclhaa
open Go.RowKit Go.Shelf
attribute [local go_sem] Oper.semAt_some

theorem ret_nat {a b : Nat} (h : a = b) : Ending.returned (.int .i64 (a : Nat)) = .returned (.int .i64 (b : Nat)) := by rw [h]
/-- The deepest of some parts. -/
def maxd (l : List (Nat × Tm)) : Nat := l.foldl (fun m p => max m p.1) 0
theorem foldmax (l : List (Nat × Tm)) (m : Nat) : l.foldl (fun m p => max m p.1) m = max m (maxd l) := by
  unfold maxd
  induction l generalizing m with
  | nil => simp
  | cons p l ih => rw [List.foldl_cons, List.foldl_cons, ih, ih (max 0 p.1)]; omega
theorem maxd_append (a b : List (Nat × Tm)) : maxd (a ++ b) = max (maxd a) (maxd b) := by
  rw [maxd, List.foldl_append, foldmax]; rfl
theorem maxd_cons (p : Nat × Tm) (l : List (Nat × Tm)) : maxd (p :: l) = max p.1 (maxd l) := by
  rw [maxd, List.foldl_cons, foldmax]; omega
theorem maxd_partss' (m : Nat) : ∀ (l : List Tm) (d : Nat), Tm.sizes l ≤ m → maxd (Tm.partss l (d + 1)) = if l = [] then 0 else d + Tm.deeps l := by
  induction m with
  | zero =>
    intro l d h
    cases l with
    | nil => rfl
    | cons t l => rw [Tm.sizes_cons] at h; have := t.size_pos; omega
  | succ m ih =>
    intro l d h
    cases l with
    | nil => rfl
    | cons t l =>
      rw [Tm.sizes_cons] at h
      have h1 := t.size_eq
      have h2 := ih t.args (d + 1) (by omega)
      have h3 := ih l d (by have := t.size_pos; omega)
      rw [Tm.partss_cons, Tm.parts_eq, maxd_append, maxd_cons, h2, h3, if_neg (show ¬ (t :: l = []) from nofun)]
      show max (max (d + 1) _) _ = d + max t.deep (Tm.deeps l)
      rw [t.deep_eq]
      have e1 : t.args = [] → Tm.deeps t.args = 0 := fun e => by rw [e]; rfl
      have e2 : l = [] → Tm.deeps l = 0 := fun e => by rw [e]; rfl
      by_cases a : t.args = [] <;> by_cases b : l = []
      · rw [if_pos a, if_pos b]; have := e1 a; have := e2 b; omega
      · rw [if_pos a, if_neg b]; have := e1 a; omega
      · rw [if_neg a, if_pos b]; have := e2 b; omega
      · rw [if_neg a, if_neg b]; omega
theorem maxd_parts (t : Tm) : maxd (t.parts 1) = t.deep := by
  rw [Tm.parts_eq, maxd_cons, maxd_partss' _ t.args 1 (Nat.le_refl _), t.deep_eq]
  have e1 : t.args = [] → Tm.deeps t.args = 0 := fun e => by rw [e]; rfl
  split
  · rename_i a; have := e1 a; show max 1 0 = _; omega
  · show max 1 _ = _; omega
theorem maxd_step {l : List (Nat × Tm)} {k : Nat} {p : Nat × Tm} (h : l[k]? = some p) : maxd (l.take (k + 1)) = max (maxd (l.take k)) p.1 := by
  rw [List.take_add_one, h, maxd_append]; show max _ (maxd [p]) = _; rw [maxd_cons]; show max _ (max p.1 0) = _; omega
theorem maxd_le {T : Tm} {k : Nat} (h : T.size ≤ 1000000) : maxd ((T.parts 1).take k) ≤ 1000000 := by
  have h1 := maxd_append ((T.parts 1).take k) ((T.parts 1).drop k)
  rw [List.take_append_drop, maxd_parts] at h1
  have := T.deep_le_size
  omega

theorem new3 (w : World) (o1 o2 o3 : Obj) : (((w.alloc o1).alloc o2).alloc o3).heap[w.heap.size + 2]? = some o3 := by
  have := heap_alloc_new ((w.alloc o1).alloc o2) o3
  rw [World.size_alloc, World.size_alloc] at this
  exact this
theorem old3 (w : World) (o1 o2 o3 : Obj) {b : Nat} (h : b < w.heap.size) : (((w.alloc o1).alloc o2).alloc o3).heap[b]? = w.heap[b]? := by
  rw [Below.heap_alloc _ _ _ (by simp; omega), Below.heap_alloc _ _ _ (by simp; omega), Below.heap_alloc _ _ _ h]

theorem size3 (w : World) (o1 o2 o3 : Obj) : (((w.alloc o1).alloc o2).alloc o3).heap.size = w.heap.size + 3 := by simp
theorem stay3 (w : World) (o1 o2 o3 : Obj) : Stay w.heap.size w [(w.heap.size + 1, o2)] (fun _ => False) (((w.alloc o1).alloc o2).alloc o3) := by
  refine ⟨(((Below.refl _ w).alloc (Nat.le_refl _) _).alloc (by simp) _).alloc (by simp; omega) _, fun _ h => h.elim, fun p hp => ?_⟩
  obtain rfl := List.mem_singleton.1 hp
  rw [Below.heap_alloc _ _ _ (by simp)]
  have := heap_alloc_new (w.alloc o1) o2
  rw [World.size_alloc] at this
  exact this

end Go.Proofs.Ytlpmofmhcnclhaa

/-
  The contracts of package term's own mayBe, Check, Size.
-/
namespace Go.Proofs.Ytlpmofmhcnclhaa
open Go.RowKit Go.Shelf
attribute [local go_sem] Oper.semAt_some

/-- Whether a term may be as far as its arguments are not asked. -/
def own1 (t : Tm) : Bool := mayK t.kind t.name t.n t.args.length true
theorem Tm.may_own (t : Tm) : t.may = (own1 t && Tm.mays t.args) := by
  rw [t.may_eq]
  unfold own1 mayK
  by_cases h0 : t.args.length = 0
  · have : t.args = [] := List.eq_nil_of_length_eq_zero h0
    rw [this]
    show _ = (_ && true)
    rw [Bool.and_true]
    rfl
  · by_cases h1 : t.kind = 1
    · rw [if_pos h1, if_pos h1, decide_eq_false h0]; simp
    rw [if_neg h1, if_neg h1]
    by_cases h2 : t.kind = 2
    · rw [if_pos h2, if_pos h2, decide_eq_false h0]; simp
    rw [if_neg h2, if_neg h2]
    by_cases h3 : t.kind = 3
    · rw [if_pos h3, if_pos h3, decide_eq_false h0]; simp
    rw [if_neg h3, if_neg h3]
    by_cases h4 : t.kind = 4
    · rw [if_pos h4, if_pos h4]; simp [Bool.and_assoc]
    rw [if_neg h4, if_neg h4]
    rfl
theorem mays_parts' (m : Nat) : ∀ (l : List Tm) (d : Nat), Tm.sizes l ≤ m → (Tm.partss l d).all (fun p => own1 p.2) = Tm.mays l := by
  induction m with
  | zero =>
    intro l d h
    cases l with
    | nil => rfl
    | cons t l => rw [Tm.sizes_cons] at h; have := t.size_pos; omega
  | succ m ih =>
    intro l d h
    cases l with
    | nil => rfl
    | cons t l =>
      rw [Tm.sizes_cons] at h
      have h1 := t.size_eq
      have h2 := ih t.args (d + 1) (by omega)
      have h3 := ih l d (by have := t.size_pos; omega)
      rw [Tm.partss_cons, Tm.parts_eq, List.all_append, List.all_cons, h2, h3]
      show _ = (t.may && Tm.mays l)
      rw [t.may_own]
theorem may_allparts (t : Tm) : (t.parts 1).all (fun p => own1 p.2) = t.may := by
  rw [Tm.parts_eq, List.all_cons, mays_parts' _ _ _ (Nat.le_refl _), t.may_own]

theorem size4 (w : World) (o1 o2 o3 o4 : Obj) : ((((w.alloc o1).alloc o2).alloc o3).alloc o4).heap.size = w.heap.size + 4 := by simp
theorem new4 (w : World) (o1 o2 o3 o4 : Obj) : ((((w.alloc o1).alloc o2).alloc o3).alloc o4).heap[w.heap.size + 3]? = some o4 := by
  have := heap_alloc_new (((w.alloc o1).alloc o2).alloc o3) o4
  rw [World.size_alloc, World.size_alloc, World.size_alloc] at this
  exact this
theorem old4 (w : World) (o1 o2 o3 o4 : Obj) {b : Nat} (h : b < w.heap.size) : ((((w.alloc o1).alloc o2).alloc o3).alloc o4).heap[b]? = w.heap[b]? := by
  rw [Below.heap_alloc _ _ _ (by simp; omega), old3 _ _ _ _ h]
theorem stay4 (w : World) (o1 o2 o3 o4 : Obj) : Stay w.heap.size w [(w.heap.size + 1, o2), (w.heap.size + 2, o3)] (fun _ => False) ((((w.alloc o1).alloc o2).alloc o3).alloc o4) := by
  refine ⟨((((Below.refl _ w).alloc (Nat.le_refl _) _).alloc (by simp) _).alloc (by simp; omega) _).alloc (by simp; omega) _, fun _ h => h.elim, fun p hp => ?_⟩
  rcases List.mem_cons.1 hp with rfl | hp
  · have := (stay3 w o1 o2 o3).has _ (.head _)
    exact (Below.heap_alloc _ _ _ (by simp)).trans this
  · obtain rfl := List.mem_singleton.1 hp
    exact (Below.heap_alloc _ _ _ (by simp)).trans (new3 w o1 o2 o3)
/-- The first k parts may be, each as far as its arguments are not asked. -/
def OwnUpto (T : Tm) (k : Nat) : Prop := ((T.parts 1).take k).all (fun p => own1 p.2) = true
theorem cell4 {W : World} {q t : Nat} {v0 v1 v2 v3 : Value} (h : W.heap[q]? = some (.cells #[v0, v1, v2, v3] t (0, 0))) : W.cell? ⟨q, 0, none⟩ = some v0 ∧ W.cell? ⟨q, 1, none⟩ = some v1 ∧ W.cell? ⟨q, 2, none⟩ = some v2 ∧ W.cell? ⟨q, 3, none⟩ = some v3 := by
  simp [World.cell?, h]
theorem all_step {l : List (Nat × Tm)} {k : Nat} {p : Nat × Tm} {f : Nat × Tm → Bool} (h : l[k]? = some p) (h1 : (l.take k).all f = true) (h2 : f p = true) : (l.take (k + 1)).all f = true := by
  rw [List.take_add_one, h, List.all_append, h1]; show (true && (f p && true)) = true; rw [h2]; rfl
theorem all_hit {l : List (Nat × Tm)} {k : Nat} {p : Nat × Tm} {f : Nat × Tm → Bool} (h : l[k]? = some p) (h2 : f p = false) : l.all f = false := by
  rw [List.all_eq_false]; exact ⟨p, List.mem_of_getElem? h, by rw [h2]; simp⟩

end Go.Proofs.Ytlpmofmhcnclhaa
