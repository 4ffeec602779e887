/-
  Joined texts: IterLaw, IterMem, IterStay.
-/
import Derived.RangeFuncNested
import Derived.RangeFuncBound
import Derived.RangeFuncCalls
import Derived.RangeFuncLeaves
import Derived.WalkKit
import Derived.OwnWalkIn
import Derived.TacticsInMore
import Derived.Test.YtpmohibhdnmjlaaTermMR
import Derived.LoopIn
import Derived.LoopNIn
import Derived.Shelf.Abstract

/-
  A range over a function whose iterator keeps memory of its own: M names the blocks that are the loop's and the iterator's; the body leaves them as they are, and whatever the iterator does turns no block but these. Proved: the statement's walk out of one walk of the body (range_walk).
-/
namespace Go.Proofs.Ytpmohibhdnmjlaa
open Go.RowKit

/-- From W to W' no block turned but those of M, and new ones. -/
structure Turn (M : Nat → Prop) (W W' : World) : Prop where
  os : W'.os = W.os
  tape : W'.tape = W.tape
  output : W'.output = W.output
  size : W.heap.size ≤ W'.heap.size
  block : ∀ k, k < W.heap.size → ¬ M k → W'.heap[k]? = W.heap[k]?
/-- What is said of M, a count and a world stays true under such a turn, also if M takes new blocks in. -/
def Abides (I : (Nat → Prop) → Nat → World → Prop) : Prop :=
  ∀ (M M' : Nat → Prop) (k : Nat) (A B : World), I M k A → Turn M A B → (∀ j, M' j → M j ∨ A.heap.size ≤ j) → (∀ j, M' j → j < B.heap.size) → I M' k B
/-- The blocks of M are as they were. -/
structure Keeps (M : Nat → Prop) (W W' : World) : Prop where
  size : W.heap.size ≤ W'.heap.size
  same : ∀ j, M j → W'.heap[j]? = W.heap[j]?
theorem Keeps.refl (M : Nat → Prop) (W : World) : Keeps M W W := ⟨Nat.le_refl _, fun _ _ => rfl⟩
theorem Keeps.trans {M : Nat → Prop} {A B C : World} (h : Keeps M A B) (k : Keeps M B C) : Keeps M A C := ⟨Nat.le_trans h.size k.size, fun j hj => (k.same j hj).trans (h.same j hj)⟩
theorem Keeps.less {M M' : Nat → Prop} {A B : World} (h : Keeps M A B) (hs : ∀ j, M' j → M j) : Keeps M' A B := ⟨h.size, fun j hj => h.same j (hs j hj)⟩
theorem Turn.more {M M' : Nat → Prop} {A B : World} (h : Turn M A B) (hs : ∀ j, M j → M' j) : Turn M' A B := ⟨h.os, h.tape, h.output, h.size, fun k hk hn => h.block k hk (fun hm => hn (hs k hm))⟩
theorem Turn.refl (M : Nat → Prop) (W : World) : Turn M W W := ⟨rfl, rfl, rfl, Nat.le_refl _, fun _ _ _ => rfl⟩
theorem Turn.trans {M : Nat → Prop} {A B C : World} (h : Turn M A B) (k : Turn M B C) : Turn M A C := ⟨k.os.trans h.os, k.tape.trans h.tape, k.output.trans h.output, Nat.le_trans h.size k.size, fun i hi hn => (k.block i (Nat.lt_of_lt_of_le hi h.size) hn).trans (h.block i hi hn)⟩
/-- .. where the second step may turn what the first one laid, too. -/
theorem Turn.trans' {M M' : Nat → Prop} {A B C : World} (h : Turn M A B) (k : Turn M' B C) (hs : ∀ j, M' j → M j ∨ A.heap.size ≤ j) : Turn M A C :=
  ⟨k.os.trans h.os, k.tape.trans h.tape, k.output.trans h.output, Nat.le_trans h.size k.size, fun i hi hn => (k.block i (Nat.lt_of_lt_of_le hi h.size) (fun hm => (hs i hm).elim hn (by omega))).trans (h.block i hi hn)⟩
theorem Turn.below {M : Nat → Prop} {A B : World} {n : Nat} (h : Turn M A B) (hM : ∀ j, M j → n ≤ j) (hn : n ≤ A.heap.size) : Below n A B :=
  ⟨h.os, h.tape, h.output, h.size, fun k hk => h.block k (by omega) (fun hm => by have := hM k hm; omega)⟩
theorem Turn.put (M : Nat → Prop) (W : World) {l : Nat} (hl : M l) (o : Obj) : Turn M W (W.putObj l o) :=
  ⟨rfl, rfl, rfl, by simp, fun k _ hn => World.putObj_heap_other (fun e => hn (e ▸ hl))⟩
theorem Turn.alloc (M : Nat → Prop) (W : World) (o : Obj) : Turn M W (W.alloc o) := ⟨rfl, rfl, rfl, by simp, fun k hk _ => Below.heap_alloc _ _ _ hk⟩
theorem Turn.drew (M : Nat → Prop) (W : World) : Turn M W W.drew := ⟨rfl, rfl, rfl, Nat.le_refl _, fun _ _ _ => rfl⟩
theorem Turn.set (M : Nat → Prop) (W : World) {p : Addr} (hl : M p.block) (v : Value) : Turn M W (W.setCell p v) :=
  ⟨rfl, rfl, rfl, by simp [World.setCell], fun k _ hn => Below.heap_setCell _ _ _ _ (fun e => hn (e ▸ hl))⟩
theorem Turn.of_below {n : Nat} {A B : World} (h : Below n A B) : Turn (fun j => n ≤ j) A B := ⟨h.os, h.tape, h.output, h.size, fun k _ hn => h.block k (Nat.lt_of_not_le hn)⟩
theorem Keeps.alloc {M : Nat → Prop} {W : World} (hM : ∀ j, M j → j < W.heap.size) (o : Obj) : Keeps M W (W.alloc o) := ⟨by simp, fun j hj => Below.heap_alloc _ _ _ (hM j hj)⟩
theorem Keeps.set {M : Nat → Prop} (W : World) {p : Addr} (hp : ¬ M p.block) (v : Value) : Keeps M W (W.setCell p v) := ⟨by simp [World.setCell], fun j hj => Below.heap_setCell _ _ _ _ (fun e => hp (e ▸ hj))⟩
theorem Keeps.of_below {M : Nat → Prop} {n : Nat} {A B : World} (h : Below n A B) (hM : ∀ j, M j → j < n) : Keeps M A B := ⟨h.size, fun j hj => h.block j (hM j hj)⟩

/-- An iterator: called with yield it hands over N things, the k-th one of At k, while yield says so; it turns blocks of its own alone; of what the body does it asks that these stay, and what lies below n₀. -/
def SeqM {α : Type} (P : Program) (g : Nat) (lb : Array Value) (encs : α → Array Value) (At : Nat → α → Prop) (N n₀ : Nat) (w : World) : Prop :=
  ∀ (l : Nat) (J Jx : (Nat → Prop) → Nat → World → Prop) (W : World), Below w.heap.size w W → Abides J → Abides Jx →
    (∀ M k x W1, J M k W1 → k < N → At k x → YieldAt Fence.wide 3 P l (encs x) W1 fun e W' =>
      (e = .returned (.bool true) ∧ J M (k + 1) W' ∧ Below n₀ W1 W' ∧ Keeps M W1 W') ∨ (e = .returned (.bool false) ∧ Jx M (k + 1) W')) →
    J (fun _ => False) 0 W →
    Calls P g (#[.func (.yield l) #[] #[]] ++ lb) W fun e W' => (∃ v, e = .returned v) ∧ ((∃ M, J M N W') ∨ (∃ M k, k ≤ N ∧ Jx M k W'))

/-- How a round may be left. -/
def mPost (n₀ : Nat) (M : Nat → Prop) (I : (Nat → Prop) → Nat → World → Prop) (Ix : Code → (Nat → Prop) → Nat → World → Prop) (k : Nat) (W : World) : Exit → Act → World → Prop
  | .normal, _, W' => Keeps M W W' ∧ Below n₀ W W' ∧ I M k W'
  | .ret, _, W' => Keeps M W W' ∧ Ix .ret M k W'
  | .exit id, _, W' => Keeps M W W' ∧ Ix (.exit id) M k W'
  | .goto t, _, W' => Keeps M W W' ∧ Ix (.goto t) M k W'
  | .panic _, _, _ => False
  | .outgrown, _, _ => False

theorem below_put {n₀ l : Nat} (W : World) (o : Obj) (h : n₀ ≤ l) : Below n₀ W (W.putObj l o) := ⟨rfl, rfl, rfl, by simp, fun k hk => World.putObj_heap_other (by omega)⟩

/-- 'for .. := range g { body }': what is known of the caller's own memory between two rounds is I, when a round was left by a jump Ix. -/
theorem range_walk {α : Type} {P : Program} {n : Nat} {g : Operand} {ps : Array Tmp} {assign body : Code} {Q : Exit → Act → World → Prop} {a : Act} {w : World}
    {gf : Nat} {lb : Array Value} (hg : a.eval g = .func (.func gf) #[] lb) (eg : ∀ args w, (callFunc gf args).run P w = .ok (.enter gf args) w)
    {encs : α → Array Value} {At : Nat → α → Prop} {N n₀ : Nat} {w0 : World} (hseq : SeqM P gf lb encs At N n₀ w0) (hb0 : Below w0.heap.size w0 w) (hn₀ : n₀ ≤ w.heap.size) (hps : ∀ x, (encs x).size = ps.size)
    (I : (Nat → Prop) → Nat → World → Prop) (Ix : Code → (Nat → Prop) → Nat → World → Prop) (hI : Abides I) (hIx : ∀ c, Abides (Ix c))
    (h0 : I (fun _ => False) 0 w)
    (hassign : ∀ (l : Nat) (M : Nat → Prop) (k : Nat) (x : α) (W : World), I M k W → k < N → At k x → (∀ j, M j → w.heap.size ≤ j ∧ j < W.heap.size) →
      assign.wpIn (Fence.wide.inRound l) 3 P (Exit.then (fun a₁ W₁ => Keeps M W W₁ ∧ Below n₀ W W₁ ∧ ∀ W₂, Turn M W₁ W₂ → W₂.heap.size = W₁.heap.size → body.wpIn (Fence.wide.inRound l) 3 P (mPost n₀ M I Ix (k + 1) W₂) a₁ W₂) (fun _ _ _ => False)) { tmps := (ps.zip (encs x)).foldl (fun t (p, v) => t.setIfInBounds p v) a.tmps, defers := [] } W)
    (hdone : ∀ (D : Nat) (M : Nat → Prop) (W : World), w.heap.size ≤ D → M D → I M N W → W.heap[D]? = some (.deferred (some [])) → Q .normal { a with defers := { target := .collected D, args := #[] } :: a.defers } W)
    (hstop : ∀ (D : Nat) (c : Code) (M : Nat → Prop) (k : Nat) (W : World), w.heap.size ≤ D → M D → k ≤ N → Ix c M k W → W.heap[D]? = some (.deferred (some [])) → c.wpIn Fence.wide n P Q { a with defers := { target := .collected D, args := #[] } :: a.defers } W) :
    (Code.rangeFunc g ps assign body).wpIn Fence.wide n P Q a w := by
  refine wpIn_rangeFunc ?_
  intro fn hfn
  obtain ⟨H, hH⟩ : ∃ H, w.heap.size = H := ⟨_, rfl⟩
  rw [hH] at hn₀ hassign hdone hstop
  let rec' : LoopState → Option Code → Loop := fun st pe => { state := st, pending := pe, fn, tmps := a.tmps, params := ps, assign, body, defers := H }
  have hdef : ∀ st pe, rec' st pe = { state := st, pending := pe, fn, tmps := a.tmps, params := ps, assign, body, defers := H } := fun _ _ => rfl
  let U : (Nat → Prop) → Nat → Prop := fun M j => M j ∨ j = H ∨ j = H + 1
  have hUH : ∀ M, U M H := fun M => .inr (.inl rfl)
  have hUL : ∀ M, U M (H + 1) := fun M => .inr (.inr rfl)
  let W1 : World := (w.alloc (.deferred (some []))).alloc (.loop (rec' .ready none))
  have hs1 : W1.heap.size = H + 2 := by show ((w.alloc _).alloc _).heap.size = _; rw [World.size_alloc, World.size_alloc, hH]
  have hL1 : W1.heap[H + 1]? = some (.loop (rec' .ready none)) := by
    have := World.alloc_heap_new (w.alloc (.deferred (some []))) (.loop (rec' .ready none)); rw [World.size_alloc, hH] at this; exact this
  have hK1 : W1.heap[H]? = some (.deferred (some [])) := by
    have h2 := World.alloc_heap_new w (.deferred (some [])); rw [hH] at h2
    exact (Below.heap_alloc _ _ _ (by rw [World.size_alloc]; omega)).trans h2
  have hI1 : I (U fun _ => False) 0 W1 := by
    refine hI _ _ 0 w W1 h0 ((Turn.alloc _ w _).trans (Turn.alloc _ _ _)) (fun j hj => .inr ?_) (fun j hj => ?_)
    · rcases hj with hj | hj | hj
      · exact hj.elim
      all_goals omega
    · rcases hj with hj | hj | hj
      · exact hj.elim
      all_goals omega
  have hb1 : Below w0.heap.size w0 W1 := hb0.trans ((((Below.refl _ w).alloc (Nat.le_refl _) _).alloc (by simp) _).mono hb0.size)
  refine ⟨H + 1, [{ target := .collected H, args := #[] }], W1, { target := .fn (.func gf) lb, args := #[.func (.yield (H + 1)) #[] #[]] }, W1, gf, #[.func (.yield (H + 1)) #[] #[]] ++ lb, W1, ?_, ?_, ?_, ?_, fun h => ?_, ?_⟩
  · have := run_enterLoop_outer (P := P) (w := w) fn a.tmps ps assign body
    rw [hH] at this; exact this
  · simp only [resolve, hg]
    simp [go_sem]
  · intro f' hf'; exact trivial
  · simp [invoke, go_sem, eg]
  · cases h
  · have lv : ∀ {M : Nat → Prop} {W : World}, (∀ j, M j → H + 2 ≤ j ∧ j < W.heap.size) → W.heap[H + 1]? = some (.loop (rec' .ready none)) → ∀ j, U M j → H ≤ j ∧ j < W.heap.size := fun hM hl j hj => by
      have := (Array.getElem?_eq_some_iff.1 hl).1
      rcases hj with hj | hj | hj
      · have := hM j hj; omega
      all_goals omega
    refine callsIn_wide.2 ((hseq (H + 1)
      (fun M k W => I (U M) k W ∧ (∀ j, M j → H + 2 ≤ j ∧ j < W.heap.size) ∧ W.heap[H + 1]? = some (.loop (rec' .ready none)) ∧ W.heap[H]? = some (.deferred (some [])))
      (fun M k W => ∃ c, Ix c (U M) k W ∧ (∀ j, M j → H + 2 ≤ j ∧ j < W.heap.size) ∧ W.heap[H + 1]? = some (.loop (rec' .done (some c))) ∧ W.heap[H]? = some (.deferred (some [])))
      W1 hb1 ?_ ?_ ?_ ⟨hI1, fun j hj => hj.elim, hL1, hK1⟩).mono ?_)
    · -- I under the iterator's own steps
      rintro M M' k A B ⟨hi, hM, hl, hk⟩ ht hs hlt
      have hA1 := (Array.getElem?_eq_some_iff.1 hl).1
      refine ⟨hI _ _ k A B hi (ht.more fun j hj => .inl hj) (fun j hj => ?_) (fun j hj => ?_), fun j hj => ⟨?_, hlt j hj⟩, (ht.block _ hA1 (fun hm => by have := (hM _ hm).1; omega)).trans hl, (ht.block _ (by omega) (fun hm => by have := (hM _ hm).1; omega)).trans hk⟩
      · rcases hj with hj | hj
        · rcases hs j hj with h | h
          · exact .inl (.inl h)
          · exact .inr h
        · exact .inl (.inr hj)
      · have := ht.size
        rcases hj with hj | hj | hj
        · exact hlt j hj
        all_goals omega
      · rcases hs j hj with h | h
        · exact (hM j h).1
        · omega
    · rintro M M' k A B ⟨c, hi, hM, hl, hk⟩ ht hs hlt
      have hA1 := (Array.getElem?_eq_some_iff.1 hl).1
      refine ⟨c, hIx c _ _ k A B hi (ht.more fun j hj => .inl hj) (fun j hj => ?_) (fun j hj => ?_), fun j hj => ⟨?_, hlt j hj⟩, (ht.block _ hA1 (fun hm => by have := (hM _ hm).1; omega)).trans hl, (ht.block _ (by omega) (fun hm => by have := (hM _ hm).1; omega)).trans hk⟩
      · rcases hj with hj | hj
        · rcases hs j hj with h | h
          · exact .inl (.inl h)
          · exact .inr h
        · exact .inl (.inr hj)
      · have := ht.size
        rcases hj with hj | hj | hj
        · exact hlt j hj
        all_goals omega
      · rcases hs j hj with h | h
        · exact (hM j h).1
        · omega
    · -- one round
      rintro M k x W ⟨hi, hM, hl, hk⟩ hlen hx
      have hy := run_yield (P := P) (args := encs x) hl (hps x)
      refine ⟨fn, _, assign, body, hy, roundIn_of_wpIn hfn (wpIn_mono (hassign (H + 1) (U M) k x W hi hlen hx (lv hM hl)) ?_)⟩
      clear hy
      intro e a₁ W₁ he
      cases e with
      | normal =>
        obtain ⟨hk1, hb1, ha1⟩ := he
        have hl1 := (hk1.same _ (hUL M)).trans hl
        have hk1' := (hk1.same _ (hUH M)).trans hk
        have hlt1 := (Array.getElem?_eq_some_iff.1 hl1).1
        refine ⟨_, run_beginRound hl1 rfl, ?_⟩
        let W₂ := W₁.putObj (H + 1) (.loop { rec' .ready none with state := .busy })
        have hs2 : W₂.heap.size = W₁.heap.size := by show (W₁.putObj _ _).heap.size = _; simp
        have hl2 : W₂.heap[H + 1]? = some (.loop { rec' .ready none with state := .busy }) := World.putObj_heap_same hlt1
        have hk2 : W₂.heap[H]? = some (.deferred (some [])) := (World.putObj_heap_other (by omega)).trans hk1'
        have hM1 : ∀ j, U M j → H ≤ j ∧ j < W₁.heap.size := fun j hj => by have := lv hM hl j hj; have := hk1.size; omega
        refine wpIn_mono (ha1 W₂ (Turn.put _ _ (hUL M) _) hs2) ?_
        have back : ∀ (jump : Option Code) (W₃ : World), Keeps (U M) W₂ W₃ →
            (Instr.endRound (H + 1) jump).run P W₃ = .ok (.bool jump.isNone) (W₃.putObj (H + 1) (.loop (rec' (if jump.isNone then .ready else .done) jump))) ∧
            (W₃.putObj (H + 1) (.loop (rec' (if jump.isNone then .ready else .done) jump))).heap[H + 1]? = some (.loop (rec' (if jump.isNone then .ready else .done) jump)) ∧
            (W₃.putObj (H + 1) (.loop (rec' (if jump.isNone then .ready else .done) jump))).heap[H]? = some (.deferred (some [])) ∧ (∀ j, U M j → j < W₃.heap.size) := fun jump W₃ hk3 => by
          have hl3 := (hk3.same _ (hUL M)).trans hl2
          exact ⟨run_endRound (P := P) jump hl3, World.putObj_heap_same (Array.getElem?_eq_some_iff.1 hl3).1, (World.putObj_heap_other (by omega)).trans ((hk3.same _ (hUH M)).trans hk2), fun j hj => by have := hM1 j hj; have := hk3.size; omega⟩
        have keep4 : ∀ (W₃ : World) (o : Obj), Keeps (U M) W₂ W₃ → Keeps M W (W₃.putObj (H + 1) o) := fun W₃ o hk3 => by
          refine ⟨by have := hk1.size; have := hk3.size; simp; omega, fun j hj => ?_⟩
          have := (hM j hj).1
          exact (World.putObj_heap_other (by omega)).trans ((hk3.same j (.inl hj)).trans ((World.putObj_heap_other (by omega)).trans (hk1.same j (.inl hj))))
        have stay : ∀ {W₃ : World} (o : Obj), (∀ j, U M j → j < W₃.heap.size) → ∀ j, U M j → j < (W₃.putObj (H + 1) o).heap.size := fun o h j hj => by rw [World.putObj_size]; exact h j hj
        rintro e a₃ W₃ hp
        cases e with
        | normal =>
          obtain ⟨hk3, hb3, hi3⟩ := hp
          obtain ⟨hr, hl4, hk4, hM3⟩ := back none W₃ hk3
          refine ⟨_, _, hr, .inl ⟨rfl, ⟨hI _ _ (k + 1) W₃ _ hi3 (Turn.put _ _ (hUL M) _) (fun j hj => .inl hj) (stay _ hM3), fun j hj => ⟨(hM j hj).1, stay _ hM3 j (.inl hj)⟩, hl4, hk4⟩, ?_, keep4 _ _ hk3⟩⟩
          exact ((hb1.trans (below_put _ _ (by omega))).trans hb3).trans (below_put _ _ (by omega))
        | ret =>
          obtain ⟨hk3, hi3⟩ := hp
          obtain ⟨hr, hl4, hk4, hM3⟩ := back (some .ret) W₃ hk3
          exact ⟨_, _, hr, .inr ⟨rfl, .ret, hIx _ _ _ (k + 1) W₃ _ hi3 (Turn.put _ _ (hUL M) _) (fun j hj => .inl hj) (stay _ hM3), fun j hj => ⟨(hM j hj).1, stay _ hM3 j (.inl hj)⟩, hl4, hk4⟩⟩
        | exit id =>
          obtain ⟨hk3, hi3⟩ := hp
          obtain ⟨hr, hl4, hk4, hM3⟩ := back (some (.exit id)) W₃ hk3
          exact ⟨_, _, hr, .inr ⟨rfl, .exit id, hIx _ _ _ (k + 1) W₃ _ hi3 (Turn.put _ _ (hUL M) _) (fun j hj => .inl hj) (stay _ hM3), fun j hj => ⟨(hM j hj).1, stay _ hM3 j (.inl hj)⟩, hl4, hk4⟩⟩
        | goto t =>
          obtain ⟨hk3, hi3⟩ := hp
          obtain ⟨hr, hl4, hk4, hM3⟩ := back (some (.goto t)) W₃ hk3
          exact ⟨_, _, hr, .inr ⟨rfl, .goto t, hIx _ _ _ (k + 1) W₃ _ hi3 (Turn.put _ _ (hUL M) _) (fun j hj => .inl hj) (stay _ hM3), fun j hj => ⟨(hM j hj).1, stay _ hM3 j (.inl hj)⟩, hl4, hk4⟩⟩
        | panic ch => exact hp.elim
        | outgrown => exact hp.elim
      | ret => exact he.elim
      | exit id => exact he.elim
      | goto t => exact he.elim
      | panic ch => exact he.elim
      | outgrown => exact he.elim
    · -- behind the iterator
      rintro e W2 ⟨⟨v, rfl⟩, (⟨M, hi, hM, hl, hk⟩ | ⟨M, k, hkN, c, hi, hM, hl, hk⟩)⟩
      · have hlt := (Array.getElem?_eq_some_iff.1 hl).1
        refine ⟨none, _, run_endLoop (P := P) hl (by rw [hdef]; simp), hdone H (U M) _ (Nat.le_refl _) (hUH M) (hI _ _ N W2 _ hi (Turn.put _ _ (hUL M) _) (fun j hj => .inl hj) (fun j hj => ?_)) ((World.putObj_heap_other (by omega)).trans hk)⟩
        rw [World.putObj_size]; exact (lv hM hl j hj).2
      · have hlt := (Array.getElem?_eq_some_iff.1 hl).1
        refine ⟨some c, _, run_endLoop (P := P) hl (by rw [hdef]; simp), hstop H c (U M) k _ (Nat.le_refl _) (hUH M) hkN (hIx c _ _ k W2 _ hi (Turn.put _ _ (hUL M) _) (fun j hj => .inl hj) (fun j hj => ?_)) ((World.putObj_heap_other (by omega)).trans hk)⟩
        rw [World.putObj_size]
        rcases hj with hj | hj | hj
        · exact (hM j hj).2
        all_goals omega
end Go.Proofs.Ytpmohibhdnmjlaa

/-
  The memory of the iterators of package term: a stack of lists of terms in a row of the iterator's own; the least number of which something is said, for loops; append inside a fence, with the place of the new row.
-/
namespace Go.Proofs.Ytpmohibhdnmjlaa
open Go.RowKit

/-- The least number of which R holds. -/
noncomputable def least (R : Nat → Prop) : Nat := Classical.epsilon fun m => R m ∧ ∀ m', R m' → m ≤ m'
theorem least_ex {R : Nat → Prop} {m : Nat} (h : R m) : ∃ m, R m ∧ ∀ m', R m' → m ≤ m' := by
  induction m using Nat.strongRecOn with
  | _ m ih =>
    by_cases hl : ∃ m', m' < m ∧ R m'
    · obtain ⟨m', h1, h2⟩ := hl
      exact ih m' h1 h2
    · exact ⟨m, h, fun m' hr => Nat.le_of_not_lt fun hlt => hl ⟨m', hlt, hr⟩⟩
theorem least_is {R : Nat → Prop} {m : Nat} (h : R m) : R (least R) := (Classical.epsilon_spec (p := fun m => R m ∧ ∀ m', R m' → m ≤ m') (least_ex h)).1
theorem least_le {R : Nat → Prop} {m : Nat} (h : R m) : least R ≤ m := (Classical.epsilon_spec (p := fun m => R m ∧ ∀ m', R m' → m ≤ m') (least_ex h)).2 m h

theorem append_in {F : Fence} {f : Nat} {P : Program} {w : World} {ops : Array Oper} {rest : List Oper} {o : Oper} {a : Act} {Q : Exit → Act → World → Prop} (hgd : o.guard = none) (s x : Operand) (t : TypeId)
    (ho : o.op = .call { callee := .builtin .append, args := #[s, x], argTypes := #[t, t] })
    (base : Nat) (e : TypeId) (i : TypeInfo) (z : Value) (size bytes : Nat) (ht : P.underlying t = some (.slice e)) (hi : P.info? e = some i) (hz : i.zero = some z)
    (hsize : i.size = size) (hby : i.bytes = bytes) (hzs : z.cells.size = size) (hsz : 0 < size)
    (v : Value) (n : Nat) (xs : List Value) (hs : a.eval s = v) (hown : w.ownsRow base e size v n xs)
    (ad : Addr) (m c : Nat) (news : List Value) (hx : a.eval x = .slice (some ad) m c) (hl : news.length = m * size) (hnews : ∀ j u, news[j]? = some u → w.cell? (ad.add j) = some u) (h1 : ∀ u ∈ news, u.oneCell' = true)
    (hm : 0 < m) (h63 : n + m ≤ maxLen) (hbytes : (n + m) * bytes ≤ 140737488355328) (hbase : base ≤ w.heap.size) (H : Nat) (hH : w.heap.size = H)
    (h : ∀ g cap w', w'.ownsRow base e size (.slice (some ⟨g, 0, none⟩) (n + m) cap) (n + m) (xs ++ news) → w.grownBy w' v.ownBlock → (v.ownBlock = some g ∨ g = H) → g < w'.heap.size → wpListIn F f P ops Q rest (a.put o.dst (.slice (some ⟨g, 0, none⟩) (n + m) cap)) w') :
    wpListIn F f P ops Q (o :: rest) a w := by
  refine wpListIn_plain hgd fun K hK' => ?_
  obtain ⟨g, cap, w', hrun, r1, r2, r3, r4⟩ := run_append_lies (P := P) w t o.type base e i z size bytes ht hi hz hsize hby hzs hsz v n xs hown ad m c news hl hnews h1 hm h63 hbytes hbase H hH
  refine ⟨?_, ?_⟩
  · simp [Oper.about, ho, resolve, Target.leads, Sem.run_pure]
  · rw [Oper.semAt_plain F _ _ (by rw [ho]; intro c hc'; cases hc')]
    simp [execOp, ho, resolve, invoke, builtin, hs, hx, hrun, Result.andThen]
    exact hK' _ _ (h g cap w' r1 r2 r3 r4)
theorem ownsRow_pop {w : World} {base : Nat} {e : TypeId} {g n cap : Nat} {xs : List Value} {x : Value} (h : w.ownsRow base e 1 (.slice (some ⟨g, 0, none⟩) (n + 1) cap) (n + 1) (xs ++ [x])) : w.ownsRow base e 1 (.slice (some ⟨g, 0, none⟩) n cap) n xs := by
  obtain ⟨hl, h2⟩ := h
  have hxl : xs.length = n := by rw [List.length_append] at hl; simp at hl; omega
  refine ⟨by omega, ?_⟩
  rcases h2 with ⟨h0, _⟩ | ⟨g', cap', cur, hv, hb, hg, hn, hm, hs, ht⟩
  · cases h0
  · cases hv
    refine .inr ⟨g, cap, cur, rfl, hb, hg, by omega, hm, hs, ?_⟩
    have h3 := congrArg (List.take n) ht
    rw [List.take_take, List.take_append_of_le_length (by omega), List.take_of_length_le (by omega : xs.length ≤ n), Nat.min_eq_left (by omega)] at h3
    rw [Nat.mul_one]; exact h3
/-- A row of which a block is known stays as long as that block does. -/
theorem ownsRow_block {w w' : World} {base : Nat} {e : TypeId} {size : Nat} {g n cap : Nat} {xs : List Value} (h : w.ownsRow base e size (.slice (some ⟨g, 0, none⟩) n cap) n xs) (hg : w'.heap[g]? = w.heap[g]?) : w'.ownsRow base e size (.slice (some ⟨g, 0, none⟩) n cap) n xs := by
  obtain ⟨hl, h2⟩ := h
  refine ⟨hl, ?_⟩
  rcases h2 with ⟨h0, _⟩ | ⟨g', cap', cur, hv, hb, hgg, r⟩
  · cases h0
  · cases hv
    exact .inr ⟨g, cap, cur, rfl, hb, hg.trans hgg, r⟩
theorem ownsRow_facts {w : World} {base : Nat} {e : TypeId} {size : Nat} {g n cap : Nat} {xs : List Value} (h : w.ownsRow base e size (.slice (some ⟨g, 0, none⟩) n cap) n xs) : base ≤ g ∧ g < w.heap.size ∧ n ≤ cap ∧ cap ≤ maxLen := by
  obtain ⟨hl, h2⟩ := h
  rcases h2 with ⟨h0, _⟩ | ⟨g', cap', cur, hv, hb, hgg, hn, hm, _⟩
  · cases h0
  · cases hv
    exact ⟨hb, (Array.getElem?_eq_some_iff.1 hgg).1, hn, hm⟩

mutual
def Tm.parts : Tm → Nat → List (Nat × Tm)
  | .mk k s n l, d => (d, .mk k s n l) :: Tm.partss l (d + 1)
def Tm.partss : List Tm → Nat → List (Nat × Tm)
  | [], _ => []
  | t :: l, d => t.parts d ++ Tm.partss l d
end
theorem Tm.parts_eq (t : Tm) (d : Nat) : t.parts d = (d, t) :: Tm.partss t.args (d + 1) := by cases t; rfl
theorem Tm.partss_cons (t : Tm) (l : List Tm) (d : Nat) : Tm.partss (t :: l) d = t.parts d ++ Tm.partss l d := rfl
theorem Tm.partss_len' (m : Nat) : ∀ (l : List Tm) (d : Nat), Tm.sizes l ≤ m → (Tm.partss l d).length = Tm.sizes l := by
  induction m with
  | zero =>
    intro l d h
    cases l with
    | nil => rfl
    | cons t l => rw [Tm.sizes_cons] at h; have := t.size_pos; omega
  | succ m ih =>
    intro l d h
    cases l with
    | nil => rfl
    | cons t l =>
      rw [Tm.sizes_cons] at h ⊢
      have h1 := t.size_eq
      have h2 := ih t.args (d + 1) (by omega)
      have h3 := ih l d (by have := t.size_pos; omega)
      rw [Tm.partss_cons, Tm.parts_eq, List.length_append, List.length_cons, h2, h3]
      omega
theorem Tm.parts_len (t : Tm) (d : Nat) : (t.parts d).length = t.size := by
  rw [Tm.parts_eq, List.length_cons, Tm.partss_len' _ _ _ (Nat.le_refl _), t.size_eq]; omega

/-- What is still to be met: the lists of all depths, the deepest first. -/
def remain : List (List Tm) → List (Nat × Tm)
  | [] => []
  | ts :: st => Tm.partss ts (st.length + 1) ++ remain st
theorem remain_nil (st : List (List Tm)) : remain ([] :: st) = remain st := rfl
theorem remain_cons (t : Tm) (ts : List Tm) (st : List (List Tm)) : remain ((t :: ts) :: st) = (st.length + 1, t) :: remain (t.args :: ts :: st) := by
  show Tm.partss (t :: ts) (st.length + 1) ++ remain st = (st.length + 1, t) :: (Tm.partss t.args ((ts :: st).length + 1) ++ (Tm.partss ts (st.length + 1) ++ remain st))
  rw [Tm.partss_cons, Tm.parts_eq, List.cons_append, List.cons_append, List.append_assoc]; rfl
/-- A list of terms in memory. -/
structure Ent where
  ts : List Tm
  ad : Option Addr
  cap : Nat
def Ent.v (e : Ent) : Value := .slice e.ad e.ts.length e.cap
structure Ent.Ok (e : Ent) (w : World) (P : Nat → Prop) : Prop where
  len : e.ts.length ≤ e.cap
  cap : e.cap ≤ maxLen
  args : TArgsP w P e.ad e.ts
theorem Ent.Ok.kept {e : Ent} {w w' : World} {P : Nat → Prop} (h : e.Ok w P) (hk : ∀ b, P b → b < w.heap.size → w'.heap[b]? = w.heap[b]?) : e.Ok w' P := ⟨h.len, h.cap, h.args.kept hk fun _ hp _ => hp⟩
/-- What is known of a term that is handed over. -/
structure TmOk (t : Tm) (cap : Nat) : Prop where
  kind : In64 t.kind
  n : In64 t.n
  name : t.name.size ≤ maxLen
  len : t.args.length ≤ cap
  cap : cap ≤ maxLen
theorem TArgsP.head {w : World} {P : Nat → Prop} {b o : Nat} {t : Tm} {ts : List Tm} (h : TArgsP w P (some ⟨b, o, none⟩) (t :: ts)) :
    P b ∧ b < w.heap.size ∧ ∃ ad cap, w.cell? ⟨b, o, none⟩ = some (.int .i64 t.kind) ∧ w.cell? ⟨b, o + 1, none⟩ = some (.string t.name) ∧ w.cell? ⟨b, o + 2, none⟩ = some (.int .i64 t.n) ∧ w.cell? ⟨b, o + 3, none⟩ = some (.slice ad t.args.length cap) ∧
      TmOk t cap ∧ TArgsP w P ad t.args ∧ TArgsP w P (some ⟨b, o + 4, none⟩) ts := by
  cases h with
  | cons _ _ k n nm l ts ad cap hp c0 c1 c2 c3 hk hn hm hl hc ha hr => exact ⟨hp, World.block_lt_of_cell? w ⟨b, o, none⟩ c0, ad, cap, c0, c1, c2, c3, ⟨hk, hn, hm, hl, hc⟩, ha, hr⟩
theorem TArgsP.addr {w : World} {P : Nat → Prop} {ad : Option Addr} {t : Tm} {ts : List Tm} (h : TArgsP w P ad (t :: ts)) : ∃ b o, ad = some ⟨b, o, none⟩ := by
  cases h with
  | cons b o => exact ⟨b, o, rfl⟩
theorem TArgs.inP {w : World} {ad : Option Addr} {ts : List Tm} (h : TArgs w ad ts) : TArgsP w (fun b => b < w.heap.size) ad ts := by
  induction h with
  | nil ad => exact .nil ad
  | cons b o k n nm l ts ad cap c0 c1 c2 c3 hk hn hm hl hc _ _ ih1 ih2 => exact .cons b o k n nm l ts ad cap (World.block_lt_of_cell? w ⟨b, o, none⟩ c0) c0 c1 c2 c3 hk hn hm hl hc ih1 ih2
theorem TmIn.inP {w : World} {t : Tm} {ad : Option Addr} {cap : Nat} (h : TmIn w t ad cap) : TmP w (fun b => b < w.heap.size) t ad cap := ⟨h.kind, h.n, h.name, h.len, h.cap, h.args.inP⟩
theorem TmIn.ok {w : World} {t : Tm} {ad : Option Addr} {cap : Nat} (h : TmIn w t ad cap) : TmOk t cap := ⟨h.kind, h.n, h.name, h.len, h.cap⟩
/-- The blocks of an iterator: its first list's, its stack's. -/
def two (q g : Nat) : Nat → Prop := fun j => j = q ∨ j = g
end Go.Proofs.Ytpmohibhdnmjlaa

/-
  What a caller keeps while it ranges over an iterator with memory of its own: blocks of which it knows what they hold, and that nothing older has turned. Proved: that abides the iterator's own steps (stay_abides).
-/
namespace Go.Proofs.Ytpmohibhdnmjlaa
open Go.RowKit Go.Shelf

/-- Nothing below n₀ has turned since w; the blocks of L hold what L says; none of them is one of M's. -/
structure Stay (n₀ : Nat) (w : World) (L : List (Nat × Obj)) (M : Nat → Prop) (W : World) : Prop where
  below : Below n₀ w W
  far : ∀ j, M j → n₀ ≤ j ∧ ∀ p ∈ L, p.1 ≠ j
  has : ∀ p ∈ L, W.heap[p.1]? = some p.2
theorem Stay.lt {n₀ : Nat} {w W : World} {L : List (Nat × Obj)} {M : Nat → Prop} (h : Stay n₀ w L M W) {p : Nat × Obj} (hp : p ∈ L) : p.1 < W.heap.size := (Array.getElem?_eq_some_iff.1 (h.has p hp)).1
theorem Stay.turn {n₀ : Nat} {w A B : World} {L : List (Nat × Obj)} {M M' : Nat → Prop} (hn : n₀ ≤ w.heap.size) (h : Stay n₀ w L M A) (ht : Turn M A B) (hs : ∀ j, M' j → M j ∨ A.heap.size ≤ j) : Stay n₀ w L M' B := by
  have h1 := h.below.size
  refine ⟨⟨ht.os.trans h.below.os, ht.tape.trans h.below.tape, ht.output.trans h.below.output, Nat.le_trans h1 ht.size, fun k hk => (ht.block k (by omega) (fun hm => by have := (h.far k hm).1; omega)).trans (h.below.block k hk)⟩, fun j hj => ?_, fun p hp => (ht.block p.1 (h.lt hp) (fun hm => (h.far _ hm).2 p hp rfl)).trans (h.has p hp)⟩
  rcases hs j hj with h2 | h2
  · exact h.far j h2
  · exact ⟨by omega, fun p hp e => by have := h.lt hp; omega⟩
/-- Some state s: the blocks of L k s, and P k s. -/
def StayI {σ : Type} (n₀ : Nat) (w : World) (L : Nat → σ → List (Nat × Obj)) (P : Nat → σ → Prop) : (Nat → Prop) → Nat → World → Prop := fun M k W => ∃ s, Stay n₀ w (L k s) M W ∧ P k s
theorem stay_abides {σ : Type} {n₀ : Nat} {w : World} (hn : n₀ ≤ w.heap.size) (L : Nat → σ → List (Nat × Obj)) (P : Nat → σ → Prop) : Abides (StayI n₀ w L P) := by
  rintro M M' k A B ⟨s, h, hp⟩ ht hs _
  exact ⟨s, h.turn hn ht hs, hp⟩
/-- A store into one of the blocks. -/
theorem Stay.keeps {n₀ : Nat} {w W : World} {L : List (Nat × Obj)} {M : Nat → Prop} (h : Stay n₀ w L M W) {q : Nat} {o : Obj} (hq : (q, o) ∈ L) (i : Nat) (v : Value) : Keeps M W (W.setCell ⟨q, i, none⟩ v) :=
  Keeps.set W (p := ⟨q, i, none⟩) (fun hm => (h.far q hm).2 _ hq rfl) v
/-- The same blocks, with others' contents. -/
theorem Stay.put {n₀ : Nat} {w W W' : World} {L L' : List (Nat × Obj)} {M : Nat → Prop} (h : Stay n₀ w L M W) (hb : Below n₀ W W') (hL : ∀ p ∈ L', (∃ o, (p.1, o) ∈ L) ∨ W.heap.size ≤ p.1) (hM : ∀ j, M j → j < W.heap.size) (hh : ∀ p ∈ L', W'.heap[p.1]? = some p.2) : Stay n₀ w L' M W' :=
  ⟨h.below.trans hb, fun j hj => ⟨(h.far j hj).1, fun p hp e => by
    rcases hL p hp with ⟨o, ho⟩ | h2
    · exact (h.far j hj).2 _ ho e
    · have := hM j hj; omega⟩, hh⟩
/-- L with another content of the block q. -/
def setL (L : List (Nat × Obj)) (q : Nat) (o : Obj) : List (Nat × Obj) := L.map fun p => if p.1 = q then (q, o) else p
theorem Stay.store {n₀ : Nat} {w W : World} {L : List (Nat × Obj)} {M : Nat → Prop} (h : Stay n₀ w L M W) {q t : Nat} {cs : Array Value} (hq : (q, .cells cs t (0, 0)) ∈ L) (hn : n₀ ≤ q) (i : Nat) (v : Value) :
    Keeps M W (W.setCell ⟨q, i, none⟩ v) ∧ Below n₀ W (W.setCell ⟨q, i, none⟩ v) ∧ Stay n₀ w (setL L q (.cells (cs.setIfInBounds i v) t (0, 0))) M (W.setCell ⟨q, i, none⟩ v) := by
  have hb : Below n₀ W (W.setCell ⟨q, i, none⟩ v) := (Below.refl n₀ W).setCell (p := ⟨q, i, none⟩) hn v
  refine ⟨h.keeps hq i v, hb, h.below.trans hb, fun j hj => ⟨(h.far j hj).1, fun p hp => ?_⟩, fun p hp => ?_⟩
  · obtain ⟨p0, hp0, rfl⟩ := List.mem_map.1 hp
    have := (h.far j hj).2 p0 hp0
    split
    · rename_i e; rw [e] at this; exact this
    · exact this
  · obtain ⟨p0, hp0, rfl⟩ := List.mem_map.1 hp
    split
    · exact heap_setCell_same W q i cs t v (h.has _ hq)
    · rename_i e; exact (Below.heap_setCell _ _ _ _ e).trans (h.has p0 hp0)
theorem Stay.less {n₀ : Nat} {w W : World} {L L' : List (Nat × Obj)} {M : Nat → Prop} (h : Stay n₀ w L M W) (hs : ∀ p ∈ L', p ∈ L) : Stay n₀ w L' M W := ⟨h.below, fun j hj => ⟨(h.far j hj).1, fun p hp => (h.far j hj).2 p (hs p hp)⟩, fun p hp => h.has p (hs p hp)⟩
/-- A new block, and what is made above all that is there. -/
theorem Stay.grow {n₀ : Nat} {w W W' : World} {L : List (Nat × Obj)} {M : Nat → Prop} (h : Stay n₀ w L M W) (hn : n₀ ≤ w.heap.size) (hM : ∀ j, M j → j < W.heap.size) (hb : Below W.heap.size W W') :
    Keeps M W W' ∧ Below n₀ W W' ∧ Stay n₀ w L M W' := by
  have h1 := h.below.size
  have hb' : Below n₀ W W' := hb.mono (by omega)
  exact ⟨Keeps.of_below hb hM, hb', h.below.trans hb', h.far, fun p hp => (hb.block p.1 (h.lt hp)).trans (h.has p hp)⟩
theorem Stay.cons {n₀ : Nat} {w W : World} {L : List (Nat × Obj)} {M : Nat → Prop} (h : Stay n₀ w L M W) {q : Nat} {o : Obj} (hq : ∀ j, M j → q ≠ j) (ho : W.heap[q]? = some o) : Stay n₀ w ((q, o) :: L) M W :=
  ⟨h.below, fun j hj => ⟨(h.far j hj).1, fun p hp => by
    rcases List.mem_cons.1 hp with rfl | hp
    · exact hq j hj
    · exact (h.far j hj).2 p hp⟩, fun p hp => by
    rcases List.mem_cons.1 hp with rfl | hp
    · exact ho
    · exact h.has p hp⟩
theorem block_set1 {W : World} {q t : Nat} {v0 v : Value} (h : W.heap[q]? = some (.cells #[v0] t (0, 0))) : (W.setCell ⟨q, 0, none⟩ v).heap[q]? = some (.cells #[v] t (0, 0)) := by
  rw [heap_setCell_same W q 0 #[v0] t v h]; rfl
theorem cell1 {W : World} {q t : Nat} {v : Value} (h : W.heap[q]? = some (.cells #[v] t (0, 0))) : W.cell? ⟨q, 0, none⟩ = some v ∧ W.frozen? ⟨q, 0, none⟩ = false := by
  simp [World.cell?, World.frozen?, h]
/-- Behind the loop: the mark's block is shut. -/
theorem below_mark {n₀ D : Nat} {w W : World} (h : Below n₀ w W) (hD : n₀ ≤ D) : Below n₀ w (W.putObj D (.deferred none)) := h.trans (below_put W _ hD)
end Go.Proofs.Ytpmohibhdnmjlaa
