/-
  Ranges over a function whose iterator reads memory that the caller has laid: as range_walk, and the iterator may lean on G, which the caller's own state gives.
-/
import Derived.Test.YtpmohibhdnmjlaaIterAll
namespace Go.Proofs.Ytpmohibhdnmjlaa
open Go.RowKit

/-- As SeqM, and of what the body does it asks G, too. -/
def SeqG {α : Type} (P : Program) (g : Nat) (lb : Array Value) (encs : α → Array Value) (At : Nat → α → Prop) (N n₀ : Nat) (G : World → Prop) (w : World) : Prop :=
  ∀ (l : Nat) (J Jx : (Nat → Prop) → Nat → World → Prop) (W : World), Below w.heap.size w W → Abides J → Abides Jx → (∀ M k W, J M k W → G W) →
    (∀ M k x W1, J M k W1 → k < N → At k x → YieldAt Fence.wide 3 P l (encs x) W1 fun e W' =>
      (e = .returned (.bool true) ∧ J M (k + 1) W' ∧ Below n₀ W1 W' ∧ Keeps M W1 W') ∨ (e = .returned (.bool false) ∧ Jx M (k + 1) W')) →
    J (fun _ => False) 0 W →
    Calls P g (#[.func (.yield l) #[] #[]] ++ lb) W fun e W' => (∃ v, e = .returned v) ∧ ((∃ M, J M N W') ∨ (∃ M k, k ≤ N ∧ Jx M k W'))

/-- 'for .. := range g { body }': what is known of the caller's own memory between two rounds is I, when a round was left by a jump Ix. -/
theorem range_walkG {α : Type} {P : Program} {n : Nat} {g : Operand} {ps : Array Tmp} {assign body : Code} {Q : Exit → Act → World → Prop} {a : Act} {w : World}
    {gf : Nat} {lb : Array Value} (hg : a.eval g = .func (.func gf) #[] lb) (eg : ∀ args w, (callFunc gf args).run P w = .ok (.enter gf args) w)
    {encs : α → Array Value} {At : Nat → α → Prop} {N n₀ : Nat} {w0 : World} {G : World → Prop} (hseq : SeqG P gf lb encs At N n₀ G w0) (hb0 : Below w0.heap.size w0 w) (hn₀ : n₀ ≤ w.heap.size) (hps : ∀ x, (encs x).size = ps.size)
    (I : (Nat → Prop) → Nat → World → Prop) (Ix : Code → (Nat → Prop) → Nat → World → Prop) (hG : ∀ M k W, I M k W → G W) (hI : Abides I) (hIx : ∀ c, Abides (Ix c))
    (h0 : I (fun _ => False) 0 w)
    (hassign : ∀ (l : Nat) (M : Nat → Prop) (k : Nat) (x : α) (W : World), I M k W → k < N → At k x → (∀ j, M j → w.heap.size ≤ j ∧ j < W.heap.size) →
      assign.wpIn (Fence.wide.inRound l) 3 P (Exit.then (fun a₁ W₁ => Keeps M W W₁ ∧ Below n₀ W W₁ ∧ ∀ W₂, Turn M W₁ W₂ → W₂.heap.size = W₁.heap.size → body.wpIn (Fence.wide.inRound l) 3 P (mPost n₀ M I Ix (k + 1) W₂) a₁ W₂) (fun _ _ _ => False)) { tmps := (ps.zip (encs x)).foldl (fun t (p, v) => t.setIfInBounds p v) a.tmps, defers := [] } W)
    (hdone : ∀ (D : Nat) (M : Nat → Prop) (W : World), w.heap.size ≤ D → M D → I M N W → W.heap[D]? = some (.deferred (some [])) → Q .normal { a with defers := { target := .collected D, args := #[] } :: a.defers } W)
    (hstop : ∀ (D : Nat) (c : Code) (M : Nat → Prop) (k : Nat) (W : World), w.heap.size ≤ D → M D → k ≤ N → Ix c M k W → W.heap[D]? = some (.deferred (some [])) → c.wpIn Fence.wide n P Q { a with defers := { target := .collected D, args := #[] } :: a.defers } W) :
    (Code.rangeFunc g ps assign body).wpIn Fence.wide n P Q a w := by
  refine wpIn_rangeFunc ?_
  intro fn hfn
  obtain ⟨H, hH⟩ : ∃ H, w.heap.size = H := ⟨_, rfl⟩
  rw [hH] at hn₀ hassign hdone hstop
  let rec' : LoopState → Option Code → Loop := fun st pe => { state := st, pending := pe, fn, tmps := a.tmps, params := ps, assign, body, defers := H }
  have hdef : ∀ st pe, rec' st pe = { state := st, pending := pe, fn, tmps := a.tmps, params := ps, assign, body, defers := H } := fun _ _ => rfl
  let U : (Nat → Prop) → Nat → Prop := fun M j => M j ∨ j = H ∨ j = H + 1
  have hUH : ∀ M, U M H := fun M => .inr (.inl rfl)
  have hUL : ∀ M, U M (H + 1) := fun M => .inr (.inr rfl)
  let W1 : World := (w.alloc (.deferred (some []))).alloc (.loop (rec' .ready none))
  have hs1 : W1.heap.size = H + 2 := by show ((w.alloc _).alloc _).heap.size = _; rw [World.size_alloc, World.size_alloc, hH]
  have hL1 : W1.heap[H + 1]? = some (.loop (rec' .ready none)) := by
    have := World.alloc_heap_new (w.alloc (.deferred (some []))) (.loop (rec' .ready none)); rw [World.size_alloc, hH] at this; exact this
  have hK1 : W1.heap[H]? = some (.deferred (some [])) := by
    have h2 := World.alloc_heap_new w (.deferred (some [])); rw [hH] at h2
    exact (Below.heap_alloc _ _ _ (by rw [World.size_alloc]; omega)).trans h2
  have hI1 : I (U fun _ => False) 0 W1 := by
    refine hI _ _ 0 w W1 h0 ((Turn.alloc _ w _).trans (Turn.alloc _ _ _)) (fun j hj => .inr ?_) (fun j hj => ?_)
    · rcases hj with hj | hj | hj
      · exact hj.elim
      all_goals omega
    · rcases hj with hj | hj | hj
      · exact hj.elim
      all_goals omega
  have hb1 : Below w0.heap.size w0 W1 := hb0.trans ((((Below.refl _ w).alloc (Nat.le_refl _) _).alloc (by simp) _).mono hb0.size)
  refine ⟨H + 1, [{ target := .collected H, args := #[] }], W1, { target := .fn (.func gf) lb, args := #[.func (.yield (H + 1)) #[] #[]] }, W1, gf, #[.func (.yield (H + 1)) #[] #[]] ++ lb, W1, ?_, ?_, ?_, ?_, fun h => ?_, ?_⟩
  · have := run_enterLoop_outer (P := P) (w := w) fn a.tmps ps assign body
    rw [hH] at this; exact this
  · simp only [resolve, hg]
    simp [go_sem]
  · intro f' hf'; exact trivial
  · simp [invoke, go_sem, eg]
  · cases h
  · have lv : ∀ {M : Nat → Prop} {W : World}, (∀ j, M j → H + 2 ≤ j ∧ j < W.heap.size) → W.heap[H + 1]? = some (.loop (rec' .ready none)) → ∀ j, U M j → H ≤ j ∧ j < W.heap.size := fun hM hl j hj => by
      have := (Array.getElem?_eq_some_iff.1 hl).1
      rcases hj with hj | hj | hj
      · have := hM j hj; omega
      all_goals omega
    refine callsIn_wide.2 ((hseq (H + 1)
      (fun M k W => I (U M) k W ∧ (∀ j, M j → H + 2 ≤ j ∧ j < W.heap.size) ∧ W.heap[H + 1]? = some (.loop (rec' .ready none)) ∧ W.heap[H]? = some (.deferred (some [])))
      (fun M k W => ∃ c, Ix c (U M) k W ∧ (∀ j, M j → H + 2 ≤ j ∧ j < W.heap.size) ∧ W.heap[H + 1]? = some (.loop (rec' .done (some c))) ∧ W.heap[H]? = some (.deferred (some [])))
      W1 hb1 ?_ ?_ (fun M k W h => hG _ _ _ h.1) ?_ ⟨hI1, fun j hj => hj.elim, hL1, hK1⟩).mono ?_)
    · -- I under the iterator's own steps
      rintro M M' k A B ⟨hi, hM, hl, hk⟩ ht hs hlt
      have hA1 := (Array.getElem?_eq_some_iff.1 hl).1
      refine ⟨hI _ _ k A B hi (ht.more fun j hj => .inl hj) (fun j hj => ?_) (fun j hj => ?_), fun j hj => ⟨?_, hlt j hj⟩, (ht.block _ hA1 (fun hm => by have := (hM _ hm).1; omega)).trans hl, (ht.block _ (by omega) (fun hm => by have := (hM _ hm).1; omega)).trans hk⟩
      · rcases hj with hj | hj
        · rcases hs j hj with h | h
          · exact .inl (.inl h)
          · exact .inr h
        · exact .inl (.inr hj)
      · have := ht.size
        rcases hj with hj | hj | hj
        · exact hlt j hj
        all_goals omega
      · rcases hs j hj with h | h
        · exact (hM j h).1
        · omega
    · rintro M M' k A B ⟨c, hi, hM, hl, hk⟩ ht hs hlt
      have hA1 := (Array.getElem?_eq_some_iff.1 hl).1
      refine ⟨c, hIx c _ _ k A B hi (ht.more fun j hj => .inl hj) (fun j hj => ?_) (fun j hj => ?_), fun j hj => ⟨?_, hlt j hj⟩, (ht.block _ hA1 (fun hm => by have := (hM _ hm).1; omega)).trans hl, (ht.block _ (by omega) (fun hm => by have := (hM _ hm).1; omega)).trans hk⟩
      · rcases hj with hj | hj
        · rcases hs j hj with h | h
          · exact .inl (.inl h)
          · exact .inr h
        · exact .inl (.inr hj)
      · have := ht.size
        rcases hj with hj | hj | hj
        · exact hlt j hj
        all_goals omega
      · rcases hs j hj with h | h
        · exact (hM j h).1
        · omega
    · -- one round
      rintro M k x W ⟨hi, hM, hl, hk⟩ hlen hx
      have hy := run_yield (P := P) (args := encs x) hl (hps x)
      refine ⟨fn, _, assign, body, hy, roundIn_of_wpIn hfn (wpIn_mono (hassign (H + 1) (U M) k x W hi hlen hx (lv hM hl)) ?_)⟩
      clear hy
      intro e a₁ W₁ he
      cases e with
      | normal =>
        obtain ⟨hk1, hb1, ha1⟩ := he
        have hl1 := (hk1.same _ (hUL M)).trans hl
        have hk1' := (hk1.same _ (hUH M)).trans hk
        have hlt1 := (Array.getElem?_eq_some_iff.1 hl1).1
        refine ⟨_, run_beginRound hl1 rfl, ?_⟩
        let W₂ := W₁.putObj (H + 1) (.loop { rec' .ready none with state := .busy })
        have hs2 : W₂.heap.size = W₁.heap.size := by show (W₁.putObj _ _).heap.size = _; simp
        have hl2 : W₂.heap[H + 1]? = some (.loop { rec' .ready none with state := .busy }) := World.putObj_heap_same hlt1
        have hk2 : W₂.heap[H]? = some (.deferred (some [])) := (World.putObj_heap_other (by omega)).trans hk1'
        have hM1 : ∀ j, U M j → H ≤ j ∧ j < W₁.heap.size := fun j hj => by have := lv hM hl j hj; have := hk1.size; omega
        refine wpIn_mono (ha1 W₂ (Turn.put _ _ (hUL M) _) hs2) ?_
        have back : ∀ (jump : Option Code) (W₃ : World), Keeps (U M) W₂ W₃ →
            (Instr.endRound (H + 1) jump).run P W₃ = .ok (.bool jump.isNone) (W₃.putObj (H + 1) (.loop (rec' (if jump.isNone then .ready else .done) jump))) ∧
            (W₃.putObj (H + 1) (.loop (rec' (if jump.isNone then .ready else .done) jump))).heap[H + 1]? = some (.loop (rec' (if jump.isNone then .ready else .done) jump)) ∧
            (W₃.putObj (H + 1) (.loop (rec' (if jump.isNone then .ready else .done) jump))).heap[H]? = some (.deferred (some [])) ∧ (∀ j, U M j → j < W₃.heap.size) := fun jump W₃ hk3 => by
          have hl3 := (hk3.same _ (hUL M)).trans hl2
          exact ⟨run_endRound (P := P) jump hl3, World.putObj_heap_same (Array.getElem?_eq_some_iff.1 hl3).1, (World.putObj_heap_other (by omega)).trans ((hk3.same _ (hUH M)).trans hk2), fun j hj => by have := hM1 j hj; have := hk3.size; omega⟩
        have keep4 : ∀ (W₃ : World) (o : Obj), Keeps (U M) W₂ W₃ → Keeps M W (W₃.putObj (H + 1) o) := fun W₃ o hk3 => by
          refine ⟨by have := hk1.size; have := hk3.size; simp; omega, fun j hj => ?_⟩
          have := (hM j hj).1
          exact (World.putObj_heap_other (by omega)).trans ((hk3.same j (.inl hj)).trans ((World.putObj_heap_other (by omega)).trans (hk1.same j (.inl hj))))
        have stay : ∀ {W₃ : World} (o : Obj), (∀ j, U M j → j < W₃.heap.size) → ∀ j, U M j → j < (W₃.putObj (H + 1) o).heap.size := fun o h j hj => by rw [World.putObj_size]; exact h j hj
        rintro e a₃ W₃ hp
        cases e with
        | normal =>
          obtain ⟨hk3, hb3, hi3⟩ := hp
          obtain ⟨hr, hl4, hk4, hM3⟩ := back none W₃ hk3
          refine ⟨_, _, hr, .inl ⟨rfl, ⟨hI _ _ (k + 1) W₃ _ hi3 (Turn.put _ _ (hUL M) _) (fun j hj => .inl hj) (stay _ hM3), fun j hj => ⟨(hM j hj).1, stay _ hM3 j (.inl hj)⟩, hl4, hk4⟩, ?_, keep4 _ _ hk3⟩⟩
          exact ((hb1.trans (below_put _ _ (by omega))).trans hb3).trans (below_put _ _ (by omega))
        | ret =>
          obtain ⟨hk3, hi3⟩ := hp
          obtain ⟨hr, hl4, hk4, hM3⟩ := back (some .ret) W₃ hk3
          exact ⟨_, _, hr, .inr ⟨rfl, .ret, hIx _ _ _ (k + 1) W₃ _ hi3 (Turn.put _ _ (hUL M) _) (fun j hj => .inl hj) (stay _ hM3), fun j hj => ⟨(hM j hj).1, stay _ hM3 j (.inl hj)⟩, hl4, hk4⟩⟩
        | exit id =>
          obtain ⟨hk3, hi3⟩ := hp
          obtain ⟨hr, hl4, hk4, hM3⟩ := back (some (.exit id)) W₃ hk3
          exact ⟨_, _, hr, .inr ⟨rfl, .exit id, hIx _ _ _ (k + 1) W₃ _ hi3 (Turn.put _ _ (hUL M) _) (fun j hj => .inl hj) (stay _ hM3), fun j hj => ⟨(hM j hj).1, stay _ hM3 j (.inl hj)⟩, hl4, hk4⟩⟩
        | goto t =>
          obtain ⟨hk3, hi3⟩ := hp
          obtain ⟨hr, hl4, hk4, hM3⟩ := back (some (.goto t)) W₃ hk3
          exact ⟨_, _, hr, .inr ⟨rfl, .goto t, hIx _ _ _ (k + 1) W₃ _ hi3 (Turn.put _ _ (hUL M) _) (fun j hj => .inl hj) (stay _ hM3), fun j hj => ⟨(hM j hj).1, stay _ hM3 j (.inl hj)⟩, hl4, hk4⟩⟩
        | panic ch => exact hp.elim
        | outgrown => exact hp.elim
      | ret => exact he.elim
      | exit id => exact he.elim
      | goto t => exact he.elim
      | panic ch => exact he.elim
      | outgrown => exact he.elim
    · -- behind the iterator
      rintro e W2 ⟨⟨v, rfl⟩, (⟨M, hi, hM, hl, hk⟩ | ⟨M, k, hkN, c, hi, hM, hl, hk⟩)⟩
      · have hlt := (Array.getElem?_eq_some_iff.1 hl).1
        refine ⟨none, _, run_endLoop (P := P) hl (by rw [hdef]; simp), hdone H (U M) _ (Nat.le_refl _) (hUH M) (hI _ _ N W2 _ hi (Turn.put _ _ (hUL M) _) (fun j hj => .inl hj) (fun j hj => ?_)) ((World.putObj_heap_other (by omega)).trans hk)⟩
        rw [World.putObj_size]; exact (lv hM hl j hj).2
      · have hlt := (Array.getElem?_eq_some_iff.1 hl).1
        refine ⟨some c, _, run_endLoop (P := P) hl (by rw [hdef]; simp), hstop H c (U M) k _ (Nat.le_refl _) (hUH M) hkN (hIx c _ _ k W2 _ hi (Turn.put _ _ (hUL M) _) (fun j hj => .inl hj) (fun j hj => ?_)) ((World.putObj_heap_other (by omega)).trans hk)⟩
        rw [World.putObj_size]
        rcases hj with hj | hj | hj
        · exact (hM j hj).2
        all_goals omega
end Go.Proofs.Ytpmohibhdnmjlaa
