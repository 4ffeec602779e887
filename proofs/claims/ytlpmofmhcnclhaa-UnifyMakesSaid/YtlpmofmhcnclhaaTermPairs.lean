/-
  Package term's own iterator over two terms side by side: it hands over the pairs of their parts, as far as both have arguments, a pair ahead of its arguments' pairs, from the left.
-/
import Derived.Test.YtlpmofmhcnclhaaTermDevAB
namespace Go.Proofs.Ytlpmofmhcnclhaa
open Go.RowKit
attribute [local go_sem] Oper.semAt_some
attribute [-go_sem] sliced

mutual
def Tm.zp : Tm → Tm → List (Tm × Tm)
  | .mk k s n l, b => (.mk k s n l, b) :: Tm.zps l b.args
def Tm.zps : List Tm → List Tm → List (Tm × Tm)
  | [], _ => []
  | _ :: _, [] => []
  | t :: l, u :: m => t.zp u ++ Tm.zps l m
end
theorem Tm.zp_eq (a b : Tm) : a.zp b = (a, b) :: Tm.zps a.args b.args := by cases a; rfl
theorem Tm.zps_cons (t u : Tm) (l m : List Tm) : Tm.zps (t :: l) (u :: m) = t.zp u ++ Tm.zps l m := rfl
theorem Tm.zps_no {l m : List Tm} (h : l = [] ∨ m = []) : Tm.zps l m = [] := by
  rcases h with rfl | rfl
  · rfl
  · cases l <;> rfl
theorem Tm.zps_len' (m : Nat) : ∀ (l r : List Tm), Tm.sizes l ≤ m → (Tm.zps l r).length ≤ Tm.sizes l := by
  induction m with
  | zero =>
    intro l r h
    cases l with
    | nil => exact Nat.le_refl 0
    | cons t l => rw [Tm.sizes_cons] at h; have := t.size_pos; omega
  | succ m ih =>
    intro l r h
    cases l with
    | nil => exact Nat.le_refl 0
    | cons t l =>
      cases r with
      | nil => exact Nat.zero_le _
      | cons u r =>
        rw [Tm.sizes_cons] at h ⊢
        have h1 := t.size_eq
        have h2 := ih t.args u.args (by omega)
        have h3 := ih l r (by have := t.size_pos; omega)
        rw [Tm.zps_cons, Tm.zp_eq, List.length_append, List.length_cons]
        omega
theorem Tm.zp_len (a b : Tm) : (a.zp b).length ≤ a.size := by
  have := Tm.zps_len' _ a.args b.args (Nat.le_refl _)
  rw [Tm.zp_eq, List.length_cons, a.size_eq]; omega
/-- What is still to be met: the lists of all depths, the deepest first. -/
def remain2 : List (List Tm × List Tm) → List (Tm × Tm)
  | [] => []
  | p :: st => Tm.zps p.1 p.2 ++ remain2 st
theorem remain2_no {l m : List Tm} {st : List (List Tm × List Tm)} (h : l = [] ∨ m = []) : remain2 ((l, m) :: st) = remain2 st := by
  show Tm.zps l m ++ _ = _; rw [Tm.zps_no h]; rfl
theorem remain2_cons (t u : Tm) (l m : List Tm) (st : List (List Tm × List Tm)) : remain2 ((t :: l, u :: m) :: st) = (t, u) :: remain2 ((t.args, u.args) :: (l, m) :: st) := by
  show Tm.zps (t :: l) (u :: m) ++ remain2 st = (t, u) :: (Tm.zps t.args u.args ++ (Tm.zps l m ++ remain2 st))
  rw [Tm.zps_cons, Tm.zp_eq, List.cons_append, List.cons_append, List.append_assoc]
structure Ent2 where
  a : Ent
  b : Ent
def flat2 : List Ent2 → List Value
  | [] => []
  | e :: R => flat2 R ++ [e.a.v, e.b.v]
theorem flat2_len (R : List Ent2) : (flat2 R).length = R.length * 2 := by
  induction R with
  | nil => rfl
  | cons e R ih => show (flat2 R ++ _).length = _; rw [List.length_append, ih, List.length_cons]; show R.length * 2 + 2 = (R.length + 1) * 2; omega
/-- The k-th pair, as it is handed over. -/
structure Pair where
  a : Tm
  ad : Option Addr
  ca : Nat
  b : Tm
  bd : Option Addr
  cb : Nat
def PairAt (A B : Tm) (k : Nat) (x : Pair) : Prop := (A.zp B)[k]? = some (x.a, x.b) ∧ TmOk x.a x.ca ∧ TmOk x.b x.cb
def pairv (x : Pair) : Array Value := #[tmv x.a x.ad x.ca, tmv x.b x.bd x.cb]
/-- The blocks of the iterator: its first lists', its stack's. -/
def three (q g : Nat) : Nat → Prop := fun j => j = q ∨ j = q + 1 ∨ j = g
/-- The iterator's memory between two rounds; R: its stack, the top first. -/
structure QIn (A B : Tm) (n₀ q : Nat) (J : (Nat → Prop) → Nat → World → Prop) (k : Nat) (R : List Ent2) (g cap : Nat) (W : World) : Prop where
  own : W.ownsRow (q + 2) 84 2 (.slice (some ⟨g, 0, none⟩) R.length cap) R.length (flat2 R)
  ok : ∀ e ∈ R, e.a.Ok W (fun b => b < n₀ ∨ b = q ∨ b = q + 1) ∧ e.b.Ok W (fun b => b < n₀ ∨ b = q ∨ b = q + 1)
  j : J (three q g) k W
  le : k ≤ (A.zp B).length
  rest : (A.zp B).drop k = remain2 (R.map fun e => (e.a.ts, e.b.ts))
  depth : R.length ≤ k + 1
  lt : q + 1 < W.heap.size
def QInv (A B : Tm) (n₀ q : Nat) (J : (Nat → Prop) → Nat → World → Prop) (m : Nat) (p : Value) (W : World) : Prop :=
  ∃ k R g cap, p = .slice (some ⟨g, 0, none⟩) R.length cap ∧ QIn A B n₀ q J k R g cap W ∧ m = 2 * ((A.zp B).length - k) + R.length
theorem ownsRow_pop2 {w : World} {base : Nat} {e : TypeId} {g n cap : Nat} {xs : List Value} {x y : Value} (h : w.ownsRow base e 2 (.slice (some ⟨g, 0, none⟩) (n + 1) cap) (n + 1) (xs ++ [x, y])) : w.ownsRow base e 2 (.slice (some ⟨g, 0, none⟩) n cap) n xs := by
  obtain ⟨hl, h2⟩ := h
  have hxl : xs.length = n * 2 := by rw [List.length_append] at hl; simp at hl; omega
  refine ⟨by omega, ?_⟩
  rcases h2 with ⟨h0, _⟩ | ⟨g', cap', cur, hv, hb, hg, hn, hm, hs, ht⟩
  · cases h0
  · cases hv
    refine .inr ⟨g, cap, cur, rfl, hb, hg, by omega, hm, hs, ?_⟩
    have h3 := congrArg (List.take (n * 2)) ht
    rw [List.take_take, List.take_append_of_le_length (by omega), List.take_of_length_le (by omega : xs.length ≤ n * 2), Nat.min_eq_left (by omega)] at h3
    exact h3
theorem QIn.pop {A B : Tm} {n₀ q : Nat} {J : (Nat → Prop) → Nat → World → Prop} {k : Nat} {e : Ent2} {R : List Ent2} {g cap : Nat} {W : World} (h : QIn A B n₀ q J k (e :: R) g cap W) (he : e.a.ts = [] ∨ e.b.ts = []) : QIn A B n₀ q J k R g cap W :=
  ⟨ownsRow_pop2 h.own, fun e he => h.ok e (.tail _ he), h.j, h.le, by have := h.rest; rw [List.map_cons, remain2_no he] at this; exact this, by have := h.depth; rw [List.length_cons] at this; omega, h.lt⟩
theorem QIn.alloc {A B : Tm} {n₀ q : Nat} {J : (Nat → Prop) → Nat → World → Prop} {k : Nat} {R : List Ent2} {g cap : Nat} {W : World} (h : QIn A B n₀ q J k R g cap W) (hJ : Abides J) (o : Obj) : QIn A B n₀ q J k R g cap (W.alloc o) := by
  have hg := (ownsRow_facts h.own).2.1
  have hl := h.lt
  refine ⟨h.own.alloc o, fun e he => ⟨(h.ok e he).1.kept fun b _ hlt => Below.heap_alloc _ _ _ hlt, (h.ok e he).2.kept fun b _ hlt => Below.heap_alloc _ _ _ hlt⟩, hJ _ _ k W _ h.j (Turn.alloc _ _ _) (fun j hj => .inl hj) (fun j hj => ?_), h.le, h.rest, h.depth, by simp; omega⟩
  rcases hj with rfl | rfl | rfl <;> simp <;> omega
theorem QIn.start {A B : Tm} {ad bd : Option Addr} {ca cb n₀ : Nat} {J : (Nat → Prop) → Nat → World → Prop} {W : World} (hp : TmP W (fun b => b < n₀) A ad ca) (hq : TmP W (fun b => b < n₀) B bd cb) (hJ : Abides J) (h0 : J (fun _ => False) 0 W) :
    QIn A B n₀ W.heap.size J 0 [⟨⟨[A], some ⟨W.heap.size, 0, none⟩, 1⟩, ⟨[B], some ⟨W.heap.size + 1, 0, none⟩, 1⟩⟩] (W.heap.size + 2) 1
      (((W.alloc (.cells #[.int .i64 A.kind, .string A.name, .int .i64 A.n, .slice ad A.args.length ca] 25)).alloc (.cells #[.int .i64 B.kind, .string B.name, .int .i64 B.n, .slice bd B.args.length cb] 25)).alloc (.cells #[.slice (some ⟨W.heap.size, 0, none⟩) 1 1, .slice (some ⟨W.heap.size + 1, 0, none⟩) 1 1] 84)) := by
  have hr := row1P hp
  have hr2 := row1P (w := W.alloc (.cells #[.int .i64 A.kind, .string A.name, .int .i64 A.n, .slice ad A.args.length ca] 25)) (hq.kept (Q := fun b => b < n₀) (fun b _ hlt => Below.heap_alloc _ _ _ hlt) (fun _ h _ => h))
  rw [World.size_alloc] at hr2
  have hr1 := hr.kept (w' := (W.alloc (.cells #[.int .i64 A.kind, .string A.name, .int .i64 A.n, .slice ad A.args.length ca] 25)).alloc (.cells #[.int .i64 B.kind, .string B.name, .int .i64 B.n, .slice bd B.args.length cb] 25)) (Q := fun b => b < n₀ ∨ b = W.heap.size) (fun b _ hlt => Below.heap_alloc _ _ _ hlt) (fun _ h _ => h)
  have ht : Turn (fun _ => False) W ((W.alloc (.cells #[.int .i64 A.kind, .string A.name, .int .i64 A.n, .slice ad A.args.length ca] 25)).alloc (.cells #[.int .i64 B.kind, .string B.name, .int .i64 B.n, .slice bd B.args.length cb] 25)) := (Turn.alloc _ W _).trans (Turn.alloc _ _ _)
  have hs : ((W.alloc (.cells #[.int .i64 A.kind, .string A.name, .int .i64 A.n, .slice ad A.args.length ca] 25)).alloc (.cells #[.int .i64 B.kind, .string B.name, .int .i64 B.n, .slice bd B.args.length cb] 25)).heap.size = W.heap.size + 2 := by simp
  generalize (W.alloc (.cells #[.int .i64 A.kind, .string A.name, .int .i64 A.n, .slice ad A.args.length ca] 25)).alloc (.cells #[.int .i64 B.kind, .string B.name, .int .i64 B.n, .slice bd B.args.length cb] 25) = W1 at *
  refine ⟨?_, ?_, ?_, Nat.zero_le _, ?_, Nat.le_refl _, by simp [hs]⟩
  · have h1 := World.ownsRow_lit (base := W.heap.size + 2) (e := 84) (size := 2) W1 #[.slice (some ⟨W.heap.size, 0, none⟩) 1 1, .slice (some ⟨W.heap.size + 1, 0, none⟩) 1 1] 1 (by omega) (by decide) rfl
    rw [hs] at h1
    exact h1
  · intro e he
    obtain rfl := List.mem_singleton.1 he
    exact ⟨⟨Nat.le_refl _, by show 1 ≤ maxLen; decide, hr1.kept (fun b _ hlt => Below.heap_alloc _ _ _ hlt) fun _ h _ => by rcases h with h | h; exact .inl h; exact .inr (.inl h)⟩,
      ⟨Nat.le_refl _, by show 1 ≤ maxLen; decide, hr2.kept (fun b _ hlt => Below.heap_alloc _ _ _ hlt) fun _ h _ => by rcases h with h | h; exact .inl h; exact .inr (.inr h)⟩⟩
  · refine hJ _ _ 0 W _ h0 (ht.trans (Turn.alloc _ _ _)) (fun j hj => .inr ?_) (fun j hj => ?_)
    · rcases hj with rfl | rfl | rfl <;> omega
    · rcases hj with rfl | rfl | rfl <;> simp [hs] <;> omega
  · show (A.zp B).drop 0 = Tm.zps [A] [B] ++ []
    rw [List.drop_zero, List.append_nil, Tm.zps_cons]; exact (List.append_nil _).symm
theorem wpIn_named {F : Fence} {n : Nat} {P : Program} {c : Code} {Q : Exit → Act → World → Prop} {a : Act} {w : World} (h : ∀ W, w = W → c.wpIn F n P Q a W) : c.wpIn F n P Q a w := h w rfl
theorem six {wr W6 : World} {q g r cp : Nat} {R : List Ent2} {e : Ent2} {v v' : Value} {o : Obj} (hown : wr.ownsRow (q + 2) 84 2 (.slice (some ⟨g, 0, none⟩) (e :: R).length cp) (e :: R).length (flat2 (e :: R))) (hR : R.length = r)
    (hW : (((wr.setCell ⟨g, r * 2, none⟩ v).setCell ⟨g, r * 2 + 1, none⟩ v').alloc o).drew = W6) :
    W6.ownsRow (q + 2) 84 2 (.slice (some ⟨g, 0, none⟩) (r + 1) cp) (r + 1) (flat2 R ++ [v, v']) ∧ (∀ x, x ≠ g → x < wr.heap.size → W6.heap[x]? = wr.heap[x]?) ∧ W6.heap.size = wr.heap.size + 1 ∧ W6.heap[wr.heap.size]? = some o ∧ Turn (fun j => j = g) wr W6 := by
  have hs : ((wr.setCell ⟨g, r * 2, none⟩ v).setCell ⟨g, r * 2 + 1, none⟩ v').heap.size = wr.heap.size := by simp [World.setCell]
  refine ⟨?_, fun x h1 h2 => ?_, ?_, ?_, ?_⟩
  · rw [← hW]
    have h7 := ((hown.stored (r * 2) v).1.stored (r * 2 + 1) v').1
    rw [List.length_cons, hR] at h7
    have h8 : ((flat2 (e :: R)).set (r * 2) v).set (r * 2 + 1) v' = flat2 R ++ [v, v'] := by
      show ((flat2 R ++ [_, _]).set _ _).set _ _ = _
      rw [List.set_append_right _ _ (by rw [flat2_len, hR]; exact Nat.le_refl _), flat2_len, hR, Nat.sub_self, List.set_append_right _ _ (by rw [flat2_len, hR]; omega), flat2_len, hR, Nat.add_sub_cancel_left]
      rfl
    rw [h8] at h7
    exact (h7.alloc _).drew
  · rw [← hW]
    show (((wr.setCell ⟨g, r * 2, none⟩ v).setCell ⟨g, r * 2 + 1, none⟩ v').alloc o).heap[x]? = _
    rw [Below.heap_alloc _ _ _ (by omega), Below.heap_setCell _ _ _ _ h1, Below.heap_setCell _ _ _ _ h1]
  · rw [← hW]
    show (((wr.setCell ⟨g, r * 2, none⟩ v).setCell ⟨g, r * 2 + 1, none⟩ v').alloc o).heap.size = _
    rw [World.size_alloc, hs]
  · rw [← hW]
    show (((wr.setCell ⟨g, r * 2, none⟩ v).setCell ⟨g, r * 2 + 1, none⟩ v').alloc o).heap[wr.heap.size]? = _
    rw [← hs]; exact heap_alloc_new _ _
  · rw [← hW]
    exact (((Turn.set (fun j => j = g) wr (p := ⟨g, r * 2, none⟩) rfl v).trans (Turn.set (fun j => j = g) _ (p := ⟨g, r * 2 + 1, none⟩) rfl v')).trans (Turn.alloc _ _ o)).trans (Turn.drew _ _)
theorem cell2 {W : World} {q t : Nat} {v0 v1 : Value} (h : W.heap[q]? = some (.cells #[v0, v1] t (0, 0))) : W.cell? ⟨q, 0, none⟩ = some v0 ∧ W.cell? ⟨q, 1, none⟩ = some v1 := by
  simp [World.cell?, h]
theorem then_named {K : Act → World → Prop} {Q : Exit → Act → World → Prop} {a : Act} {w : World} (h : ∀ W, w = W → Exit.then K Q .normal a W) : Exit.then K Q .normal a w := h w rfl
theorem seven {W6 W7 : World} {o1 o2 : Obj} (h : ((W6.alloc o1).alloc o2).drew = W7) : W7.heap[W6.heap.size]? = some o1 ∧ W7.heap[W6.heap.size + 1]? = some o2 ∧ W7.heap.size = W6.heap.size + 2 ∧ (∀ x, x < W6.heap.size → W7.heap[x]? = W6.heap[x]?) ∧ Turn (fun _ => False) W6 W7 := by
  rw [← h]
  refine ⟨?_, ?_, by show ((W6.alloc o1).alloc o2).heap.size = _; simp, fun x hx => ?_, ((Turn.alloc _ _ _).trans (Turn.alloc _ _ _)).trans (Turn.drew _ _)⟩
  · show ((W6.alloc o1).alloc o2).heap[_]? = _
    rw [Below.heap_alloc _ _ _ (by simp)]; exact heap_alloc_new _ _
  · show ((W6.alloc o1).alloc o2).heap[_]? = _
    have := heap_alloc_new (W6.alloc o1) o2
    rw [World.size_alloc] at this
    exact this
  · show ((W6.alloc o1).alloc o2).heap[_]? = _
    rw [Below.heap_alloc _ _ _ (by simp; omega), Below.heap_alloc _ _ _ hx]
theorem cell4' {W : World} {q t : Nat} {v0 v1 v2 v3 : Value} (h : W.heap[q]? = some (.cells #[v0, v1, v2, v3] t (0, 0))) : W.cell? ⟨q, 0, none⟩ = some v0 ∧ W.cell? ⟨q, 1, none⟩ = some v1 ∧ W.cell? ⟨q, 2, none⟩ = some v2 ∧ W.cell? ⟨q, 3, none⟩ = some v3 := by
  simp [World.cell?, h]
theorem cell_two_new (w : World) (v0 v1 : Value) (t : TypeId) : ∀ j u, [v0, v1][j]? = some u → (w.alloc (.cells #[v0, v1] t)).cell? ((⟨w.heap.size, 0, none⟩ : Addr).add j) = some u := by
  intro j u hu
  have h : (w.alloc (.cells #[v0, v1] t)).cell? ⟨w.heap.size, 0 + j, none⟩ = (#[v0, v1] : Array Value)[0 + j]? := World.cell?_alloc_at _ _ _ _ rfl
  rw [Nat.zero_add] at h
  rw [show (⟨w.heap.size, 0, none⟩ : Addr).add j = ⟨w.heap.size, j, none⟩ by cases j <;> simp [Addr.add], h, ← hu]
  simp
theorem sliced_front (g r cp sz : Nat) : sliced (some ⟨g, 0, none⟩) 0 r cp sz = .slice (some ⟨g, 0, none⟩) r cp := by
  unfold sliced
  rw [Nat.zero_mul, Nat.sub_zero, Nat.sub_zero]
  split <;> simp [Addr.add]
def tailA (a : Addr) (cap : Nat) : Option Addr := if cap = 1 then some a else some (a.add 4)
theorem sliced_tail (a : Addr) (n cap : Nat) : sliced (some a) 1 (n + 1) cap 4 = .slice (tailA a cap) n (cap - 1) := by
  unfold sliced tailA
  rw [Nat.add_sub_cancel]
  rfl
theorem tail_ent {w : World} {P : Nat → Prop} {b o : Nat} {ts : List Tm} {cap : Nat} (hl : ts.length + 1 ≤ cap) (hc : cap ≤ maxLen) (hr : TArgsP w P (some ⟨b, o + 4, none⟩) ts) : Hid (∃ E' : Ent, E'.v = .slice (tailA ⟨b, o, none⟩ cap) ts.length (cap - 1) ∧ E'.ts = ts ∧ E'.Ok w P) := by
  refine ⟨⟨ts, tailA ⟨b, o, none⟩ cap, cap - 1⟩, rfl, rfl, by show ts.length ≤ cap - 1; omega, by show cap - 1 ≤ _; omega, ?_⟩
  show TArgsP w P (tailA ⟨b, o, none⟩ cap) ts
  unfold tailA
  by_cases h1 : cap = 1
  · obtain rfl : ts = [] := List.eq_nil_of_length_eq_zero (by omega)
    exact .nil _
  · rw [if_neg h1]
    simpa [Addr.add] using hr
attribute [local go_sem] sliced_tail
theorem infoSides : (Try.prog.info? 84).map (fun i => (i.zero, i.size, i.bytes)) = some (some (.agg #[.slice none 0 0, .slice none 0 0]), 2, 48) := by kernel_rfl

set_option maxRecDepth 100000 in
set_option maxHeartbeats 4000000 in
theorem pairs_seq (A B : Tm) (ad bd : Option Addr) (ca cb Ba Bb n₀ : Nat) (w : World) (hM : A.size ≤ 1000000)
    (hA : w.heap[Ba]? = some (.cells #[.int .i64 A.kind, .string A.name, .int .i64 A.n, .slice ad A.args.length ca] 25 (0, 0))) (hB : w.heap[Bb]? = some (.cells #[.int .i64 B.kind, .string B.name, .int .i64 B.n, .slice bd B.args.length cb] 25 (0, 0)))
    (hp : TmP w (fun b => b < n₀) A ad ca) (hq : TmP w (fun b => b < n₀) B bd cb) (hn : n₀ ≤ w.heap.size) :
    SeqM Try.prog 52 #[.pointer (some ⟨Ba, 0, none⟩), .pointer (some ⟨Bb, 0, none⟩)] pairv (PairAt A B) (A.zp B).length n₀ w := fun l J Jx W hW hJ hJx hY h0 => by
  have hN := A.zp_len B
  have HJ := Lib.hid hJ
  have HJX := Lib.hid hJx
  have HY := Lib.hid hY
  have HP := Lib.hid (hp.kept (w' := W) (Q := fun b => b < n₀) (fun b _ hlt => hW.block b hlt) (fun b h _ => h))
  have HQ := Lib.hid (hq.kept (w' := W) (Q := fun b => b < n₀) (fun b _ hlt => hW.block b hlt) (fun b h _ => h))
  have hA' := (hW.block Ba (Array.getElem?_eq_some_iff.1 hA).1).trans hA
  have hB' := (hW.block Bb (Array.getElem?_eq_some_iff.1 hB).1).trans hB
  have hnW : n₀ ≤ W.heap.size := Nat.le_trans hn hW.size
  clear hJ hJx hY hp hA hB hn hW hq
  obtain ⟨i0, hi, hz0, hz1, hz2⟩ := info_parts infoSides
  obtain ⟨d0, d1, d2, d3⟩ : W.cell? ⟨Ba, 0, none⟩ = some (.int .i64 A.kind) ∧ W.cell? ⟨Ba, 1, none⟩ = some (.string A.name) ∧ W.cell? ⟨Ba, 2, none⟩ = some (.int .i64 A.n) ∧ W.cell? ⟨Ba, 3, none⟩ = some (.slice ad A.args.length ca) := by
    simp [World.cell?, hA']
  obtain ⟨e0, e1, e2, e3⟩ : W.cell? ⟨Bb, 0, none⟩ = some (.int .i64 B.kind) ∧ W.cell? ⟨Bb, 1, none⟩ = some (.string B.name) ∧ W.cell? ⟨Bb, 2, none⟩ = some (.int .i64 B.n) ∧ W.cell? ⟨Bb, 3, none⟩ = some (.slice bd B.args.length cb) := by
    simp [World.cell?, hB']
  have hBbl : Bb < W.heap.size := (Array.getElem?_eq_some_iff.1 hB').1
  clear hA' hB'
  refine (callsIn_wide (n := 4)).1 ?_
  refine callsIn_of_wp Try.func52 rfl trivial ?_ rfl
  simp only [Try.ntmps52, List.size_toArray, List.length_cons, List.length_nil, Nat.reduceAdd, Nat.reduceSub, Array.replicate_succ, Array.replicate_zero, List.push_toArray, List.append_toArray, List.nil_append, List.cons_append]
  gi_wp2
  gi_loopw [4] (fun p wr => ∃ m, QInv A B n₀ W.heap.size J m p wr) (fun p wr => least fun m => QInv A B n₀ W.heap.size J m p wr)
  case atStart =>
    exact ⟨_, 0, [⟨⟨[A], some ⟨W.heap.size, 0, none⟩, 1⟩, ⟨[B], some ⟨W.heap.size + 1, 0, none⟩, 1⟩⟩], W.heap.size + 2, 1, rfl, QIn.start HP.out HQ.out HJ.out h0, rfl⟩
  case round =>
    obtain ⟨m0, hm0⟩ := hrel
    have hm1 := least_is (R := fun m => QInv A B n₀ W.heap.size J m u4 wr) hm0
    generalize hmm : least (fun m => QInv A B n₀ W.heap.size J m u4 wr) = m at *
    have HMM := Lib.hid hmm
    clear hm0 hmm
    obtain ⟨k, R, g, cp, rfl, hP, hme⟩ := hm1
    have hfr := fun j => hP.own.frozenAt j
    obtain ⟨hg1, hg2, hnc, hcm⟩ := ownsRow_facts hP.own
    have hk1 := hP.le
    have hdp := hP.depth
    have hq := hP.lt
    have hME := Lib.hid hme
    have HPP := Lib.hid hP
    clear hme hP
    unfold maxLen at hcm
    cases R with
    | nil =>
      gi_wp2
      go_end0
      have h9 := HPP.out.rest
      have h8 := congrArg List.length h9
      rw [List.length_drop] at h8
      have : remain2 (([] : List Ent2).map fun e => (e.a.ts, e.b.ts)) = [] := rfl
      rw [this] at h8
      obtain rfl : k = (A.zp B).length := by simp at h8; omega
      exact ⟨⟨_, rfl⟩, .inl ⟨_, HPP.out.j⟩⟩
    | cons e R =>
      obtain ⟨⟨ts, ead, ecap⟩, ⟨us, fad, fcap⟩⟩ := e
      have hrl : (Ent2.mk ⟨ts, ead, ecap⟩ ⟨us, fad, fcap⟩ :: R).length = R.length + 1 := rfl
      rw [hrl] at hnc hdp
      have hown := HPP.out.own
      have hce : wr.cell? ⟨g, R.length * 2, none⟩ = some (.slice ead ts.length ecap) := by
        rw [hown.cellAt (R.length * 2) (by rw [hrl]; omega)]
        show (flat2 R ++ _)[_]? = _
        rw [List.getElem?_append_right (by rw [flat2_len]; exact Nat.le_refl _), flat2_len, Nat.sub_self]; rfl
      have hcf : wr.cell? ⟨g, R.length * 2 + 1, none⟩ = some (.slice fad us.length fcap) := by
        rw [hown.cellAt (R.length * 2 + 1) (by rw [hrl]; omega)]
        show (flat2 R ++ _)[_]? = _
        rw [List.getElem?_append_right (by rw [flat2_len]; omega), flat2_len, Nat.add_sub_cancel_left]; rfl
      have hoka := (HPP.out.ok _ (.head _)).1
      have hokb := (HPP.out.ok _ (.head _)).2
      have hel := hoka.len
      have hec := hoka.cap
      have hfl := hokb.len
      have hfc := hokb.cap
      unfold maxLen at hec hfc
      dsimp only at hel hec hfl hfc
      have HOWN := Lib.hid hown
      have HOKA := Lib.hid hoka
      have HOKB := Lib.hid hokb
      clear hown hoka hokb
      rw [hrl]
      generalize hr : R.length = r at *
      have HR := Lib.hid hr
      clear hr hrl
      by_cases hemp : ts = [] ∨ us = []
      · have h9 := QIn.pop HPP.out hemp
        have H9 := Lib.hid h9
        clear h9
        have hlz : ts.length = 0 ∨ (0 < ts.length ∧ us.length = 0) := by
          rcases hemp with rfl | rfl
          · exact .inl rfl
          · by_cases h : ts.length = 0
            · exact .inl h
            · exact .inr ⟨by omega, rfl⟩
        clear hemp
        have hlz' : ts.length = 0 ∨ (((ts.length : Int) == 0) = false ∧ us.length = 0) := hlz.imp id fun h => ⟨by rw [beq_eq_false_iff_ne]; have := h.1; omega, h.2⟩
        clear hlz
        rcases hlz' with hz | ⟨hz1, hz2⟩
        all_goals
          gi_wp2
          have hsl : sliced (some ⟨g, 0, none⟩) 0 r cp 2 = .slice (some ⟨g, 0, none⟩) R.length cp := by rw [HR.out]; exact sliced_front g r cp 2
          rw [hsl]
          refine ⟨⟨_, k, R, g, cp, rfl, H9.out.alloc HJ.out _, rfl⟩, ?_⟩
          have hmm := HMM.out
          rw [List.length_cons, HR.out] at hmm
          rw [hmm]
          refine Nat.lt_of_le_of_lt (least_le (m := 2 * ((A.zp B).length - k) + R.length) ⟨k, R, g, cp, rfl, H9.out.alloc HJ.out _, rfl⟩) ?_
          have := hME.out
          rw [List.length_cons] at this
          omega
      · obtain ⟨t, ts, rfl⟩ : ∃ t l, ts = t :: l := by cases ts with
          | nil => exact absurd (.inl rfl) hemp
          | cons t l => exact ⟨t, l, rfl⟩
        obtain ⟨u, us, rfl⟩ : ∃ t l, us = t :: l := by cases us with
          | nil => exact absurd (.inr rfl) hemp
          | cons t l => exact ⟨t, l, rfl⟩
        clear hemp
        obtain ⟨b, o, rfl⟩ := HOKA.out.args.addr
        obtain ⟨b', o', rfl⟩ := HOKB.out.args.addr
        obtain ⟨hPb, hblt, ad1, cap1, c0, c1, c2, c3, hto, hta, htr⟩ := HOKA.out.args.head
        obtain ⟨hPb', hblt', ad2, cap2, c0', c1', c2', c3', hto', hta', htr'⟩ := HOKB.out.args.head
        have hbg : b ≠ g := by rcases hPb with h | h | h <;> omega
        have hbg' : b' ≠ g := by rcases hPb' with h | h | h <;> omega
        have hrest := HPP.out.rest
        rw [List.map_cons, remain2_cons] at hrest
        have hkx : (A.zp B)[k]? = some (t, u) := by
          have h8 : ((A.zp B).drop k)[0]? = (A.zp B)[k]? := by rw [List.getElem?_drop, Nat.add_zero]
          rw [← h8, hrest]; rfl
        have hklt : k < (A.zp B).length := (List.getElem?_eq_some_iff.1 hkx).1
        have hrest2 : (A.zp B).drop (k + 1) = remain2 ((t.args, u.args) :: (ts, us) :: R.map fun e => (e.a.ts, e.b.ts)) := by
          rw [← List.drop_drop, hrest]; rfl
        have HAT : Hid (PairAt A B k ⟨t, ad1, cap1, u, ad2, cap2⟩) := ⟨hkx, hto, hto'⟩
        have HTA := Lib.hid hta
        have HTR := Lib.hid htr
        have HTA' := Lib.hid hta'
        have HTR' := Lib.hid htr'
        have HREST := Lib.hid hrest2
        have HPB := Lib.hid hPb
        have HPB' := Lib.hid hPb'
        clear hto hta htr hto' hta' htr' hrest hrest2 hkx hPb hPb'
        rw [List.length_cons] at hce hcf hel hfl
        have hfg := hfr (r * 2)
        have hfg1 := hfr (r * 2 + 1)
        have hE : Hid (∃ E' : Ent, E'.v = .slice (tailA ⟨b, o, none⟩ ecap) ts.length (ecap - 1) ∧ E'.ts = ts ∧ E'.Ok wr (fun b => b < n₀ ∨ b = W.heap.size ∨ b = W.heap.size + 1)) := tail_ent (by omega) (by unfold maxLen; omega) HTR.out
        have hF : Hid (∃ E' : Ent, E'.v = .slice (tailA ⟨b', o', none⟩ fcap) us.length (fcap - 1) ∧ E'.ts = us ∧ E'.Ok wr (fun b => b < n₀ ∨ b = W.heap.size ∨ b = W.heap.size + 1)) := tail_ent (by omega) (by unfold maxLen; omega) HTR'.out
        clear hfr
        have ez1 : ((ts.length : Int) + 1 == 0) = false := by simp; omega
        have ez2 : ((us.length : Int) + 1 == 0) = false := by simp; omega
        focus
          gi_wp2
          gi_region
          gi_wp2
          obtain ⟨E', hE1, hE2, hE3⟩ := hE.out
          obtain ⟨F', hF1, hF2, hF3⟩ := hF.out
          rw [← hE1, ← hF1]
          refine wpIn_named fun W6 hW6 => ?_
          obtain ⟨hown6, K6, S6, L6, hT6⟩ := six HOWN.out HR.out hW6
          have hJ6 : J (three W.heap.size g) k W6 := HJ.out _ _ k _ _ HPP.out.j (hT6.more fun j hj => .inr (.inr hj)) (fun j hj => .inl hj) (fun j hj => by rcases hj with rfl | rfl | rfl <;> omega)
          have HJ6 := Lib.hid hJ6
          have HO6 := Lib.hid hown6
          have HK6 := Lib.hid K6
          have HE1 := Lib.hid hE1
          have HF1 := Lib.hid hF1
          have x0 := (World.cell?_of_block (a := ⟨b, o, none⟩) (K6 b hbg hblt)).trans c0
          have x1 := (World.cell?_of_block (a := ⟨b, o + 1, none⟩) (K6 b hbg hblt)).trans c1
          have x2 := (World.cell?_of_block (a := ⟨b, o + 2, none⟩) (K6 b hbg hblt)).trans c2
          have x3 := (World.cell?_of_block (a := ⟨b, o + 3, none⟩) (K6 b hbg hblt)).trans c3
          have y0 := (World.cell?_of_block (a := ⟨b', o', none⟩) (K6 b' hbg' hblt')).trans c0'
          have y1 := (World.cell?_of_block (a := ⟨b', o' + 1, none⟩) (K6 b' hbg' hblt')).trans c1'
          have y2 := (World.cell?_of_block (a := ⟨b', o' + 2, none⟩) (K6 b' hbg' hblt')).trans c2'
          have y3 := (World.cell?_of_block (a := ⟨b', o' + 3, none⟩) (K6 b' hbg' hblt')).trans c3'
          obtain ⟨z0, z1⟩ := cell2 L6
          have hb6 : b < W6.heap.size := by omega
          have hb6' : b' < W6.heap.size := by omega
          have HS6 := Lib.hid S6
          have hl6 : wr.heap.size < W6.heap.size := by omega
          clear c0 c1 c2 c3 c0' c1' c2' c3' hce hcf hfg hfg1 K6 L6 hT6 hJ6 hown6 hE1 hF1 hW6 S6
          gi_region
          all_goals
            refine then_named fun W7 hW7 => ?_
            obtain ⟨A7, B7, S7, K7, hT7⟩ := seven hW7
            obtain ⟨p0, p1, p2, p3⟩ := cell4' A7
            obtain ⟨r0, r1, r2, r3⟩ := cell4' B7
            have hJ7 : J (fun j => three W.heap.size g j ∨ j = W6.heap.size ∨ j = W6.heap.size + 1) k W7 := HJ.out _ _ k _ _ HJ6.out (hT7.more fun j hj => hj.elim) (fun j hj => by rcases hj with hj | rfl | rfl; exact .inl hj; exact .inr (Nat.le_refl _); exact .inr (Nat.le_succ _)) (fun j hj => by rcases hj with (rfl | rfl | rfl) | rfl | rfl <;> omega)
            have HK7 := Lib.hid K7
            have HS7 := Lib.hid S7
            have HA7 := Lib.hid A7
            have HB7 := Lib.hid B7
            have HJ7 := Lib.hid hJ7
            clear hW7 K7 hT7 S7 A7 B7 hJ7 x0 x1 x2 x3 y0 y1 y2 y3 z0 z1
            gi_wp2
            obtain ⟨fn, tmps, assign, body, hy, hR⟩ := HY.out _ k ⟨t, ad1, cap1, u, ad2, cap2⟩ _ HJ7.out hklt HAT.out
            unfold pairv tmv at hy
            dsimp only at hy
            rw [hy]
            clear hy
            gi_wp2
            refine hR.mono ?_
            rintro e W8 (⟨rfl, hJ8, hb8, hk8⟩ | ⟨rfl, hJx8⟩)
            · have hs8 := hk8.size
              have k8 : ∀ x, three W.heap.size g x ∨ x = W6.heap.size ∨ x = W6.heap.size + 1 → W8.heap[x]? = W7.heap[x]? := hk8.same
              have q3 := (World.cell?_of_block (a := ⟨W6.heap.size, 3, none⟩) (k8 W6.heap.size (.inr (.inl rfl)))).trans p3
              have q4 := (World.cell?_of_block (a := ⟨W6.heap.size + 1, 3, none⟩) (k8 (W6.heap.size + 1) (.inr (.inr rfl)))).trans r3
              have hown8 : W8.ownsRow (W.heap.size + 2) 84 2 (.slice (some ⟨g, 0, none⟩) (r + 1) cp) (r + 1) (flat2 R ++ [E'.v, F'.v]) :=
                ownsRow_block HO6.out ((k8 g (.inl (.inr (.inr rfl)))).trans (HK7.out g (by omega)))
              have keepP : ∀ x, (x < n₀ ∨ x = W.heap.size ∨ x = W.heap.size + 1) → x < wr.heap.size → W8.heap[x]? = wr.heap[x]? := fun x hx hlt => by
                have hne : x ≠ g := by rcases hx with h | h | h <;> omega
                have h67 : W7.heap[x]? = wr.heap[x]? := (HK7.out x (by omega)).trans (HK6.out x hne hlt)
                rcases hx with h | h | h
                · exact (hb8.block x h).trans h67
                · exact (k8 x (.inl (.inl h))).trans h67
                · exact (k8 x (.inl (.inr (.inl h)))).trans h67
              have HK8 := Lib.hid keepP
              have HJ8 := Lib.hid hJ8
              have HT8 := Lib.hid (Turn.refl (fun _ => False) W8)
              have hs67 := HS7.out
              have hs66 := HS6.out
              have hs8' : wr.heap.size + 3 ≤ W8.heap.size := by omega
              clear hJ8 hb8 hk8 hR keepP k8 p0 p1 p2 p3 r0 r1 r2 r3 hs8 hs67 hs66
              gi_wp2_with (gi_at_builtin; refine append_in rfl _ _ 85 rfl (W.heap.size + 2) 84 i0 (.agg #[.slice none 0 0, .slice none 0 0]) 2 48 Try.underlying85 hi hz0 hz1 hz2 rfl (by decide) _ (r + 1) _ rfl (hown8.alloc _) ⟨W8.heap.size, 0, none⟩ 1 1 [.slice ad1 t.args.length cap1, .slice ad2 u.args.length cap2] rfl rfl ?c1 ?c2 (by decide) ?c3 ?c4 ?c5 (W8.heap.size + 1) (by simp) ?_)
              case c1 => exact cell_two_new _ _ _ _
              case c2 => intro v hv; rcases List.mem_cons.1 hv with rfl | hv; rfl; rcases List.mem_cons.1 hv with rfl | hv; rfl; cases hv
              case c3 => unfold maxLen; omega
              case c4 => omega
              case c5 => simp; omega
              intro g' cap' W9 hown9 hgrow hat hlt9
              have hne9 : ∀ x, (x < n₀ ∨ x = W.heap.size ∨ x = W.heap.size + 1) → some x ≠ (Value.slice (some ⟨g, 0, none⟩) (r + 1) cp).ownBlock := fun x hx e => by
                have : x = g := by simpa [Value.ownBlock] using e
                rcases hx with h | h | h <;> omega
              have hsz9 := hgrow.size
              rw [World.size_alloc] at hsz9
              have keep9 : ∀ x, (x < n₀ ∨ x = W.heap.size ∨ x = W.heap.size + 1) → x < wr.heap.size → W9.heap[x]? = wr.heap[x]? := fun x hx hlt =>
                (hgrow.block x (by rw [World.size_alloc]; omega) (hne9 x hx)).trans ((Below.heap_alloc _ _ _ (by omega)).trans (HK8.out x hx hlt))
              have hg' : g' = g ∨ g' = W8.heap.size + 1 := by
                rcases hat with h | h
                · left; simpa [Value.ownBlock] using h.symm
                · exact .inr h
              have hJ9 : J (three W.heap.size g') (k + 1) W9 := by
                refine HJ.out _ _ (k + 1) W8 W9 HJ8.out ⟨hgrow.os, hgrow.tape, hgrow.output, by omega, fun x hx hn => ?_⟩ (fun j hj => ?_) (fun j hj => ?_)
                · exact (hgrow.block x (by rw [World.size_alloc]; omega) (fun e => hn (.inl (.inr (.inr (by simpa [Value.ownBlock] using e)))))).trans (Below.heap_alloc _ _ _ hx)
                · rcases hj with rfl | rfl | rfl
                  · exact .inl (.inl (.inl rfl))
                  · exact .inl (.inl (.inr (.inl rfl)))
                  · rcases hg' with h | h
                    · exact .inl (.inl (.inr (.inr h)))
                    · right; omega
                · rcases hj with rfl | rfl | rfl <;> omega
              have hP9 : QIn A B n₀ W.heap.size J (k + 1) (⟨⟨t.args, ad1, cap1⟩, ⟨u.args, ad2, cap2⟩⟩ :: ⟨E', F'⟩ :: R) g' cap' W9 := by
                refine ⟨?_, ?_, hJ9, by omega, ?_, by rw [List.length_cons, List.length_cons, HR.out]; omega, by omega⟩
                · rw [List.length_cons, List.length_cons, HR.out]
                  show W9.ownsRow _ _ _ _ _ (flat2 R ++ [E'.v, F'.v] ++ [_, _])
                  first | exact hown9 | (rw [List.append_assoc]; exact hown9)
                · intro e he
                  have h1 : e.a.Ok wr (fun b => b < n₀ ∨ b = W.heap.size ∨ b = W.heap.size + 1) ∧ e.b.Ok wr (fun b => b < n₀ ∨ b = W.heap.size ∨ b = W.heap.size + 1) := by
                    rcases List.mem_cons.1 he with rfl | he
                    · exact ⟨⟨HAT.out.2.1.len, HAT.out.2.1.cap, HTA.out⟩, ⟨HAT.out.2.2.len, HAT.out.2.2.cap, HTA'.out⟩⟩
                    · rcases List.mem_cons.1 he with rfl | he
                      · exact ⟨hE3, hF3⟩
                      · exact HPP.out.ok e (.tail _ he)
                  exact ⟨h1.1.kept keep9, h1.2.kept keep9⟩
                · rw [HREST.out, List.map_cons, List.map_cons, hE2, hF2]
              have HP9 := Lib.hid hP9
              clear hown9 hgrow hat hne9 keep9 hJ9 hP9 hown8 hE3 hE2 hF3 hF2 q3 q4
              gi_wp2
              have hlen9 : (⟨⟨t.args, ad1, cap1⟩, ⟨u.args, ad2, cap2⟩⟩ :: ⟨E', F'⟩ :: R : List Ent2).length = r + 1 + 1 := by rw [List.length_cons, List.length_cons, HR.out]
              refine ⟨⟨_, k + 1, _, g', cap', by rw [hlen9], HP9.out, rfl⟩, ?_⟩
              have hmm := HMM.out
              rw [List.length_cons, HR.out] at hmm
              rw [hmm]
              refine Nat.lt_of_le_of_lt (least_le (m := 2 * ((A.zp B).length - (k + 1)) + (r + 1 + 1)) ⟨k + 1, _, g', cap', by rw [hlen9], HP9.out, by rw [hlen9]⟩) ?_
              have := hME.out
              rw [List.length_cons, HR.out] at this
              omega
            · clear hR
              gi_wp2
              refine bodyPost_ret (results_none rfl _ _ _) rfl ?_
              exact ⟨⟨_, rfl⟩, .inr ⟨_, k + 1, by omega, hJx8⟩⟩
end Go.Proofs.Ytlpmofmhcnclhaa
