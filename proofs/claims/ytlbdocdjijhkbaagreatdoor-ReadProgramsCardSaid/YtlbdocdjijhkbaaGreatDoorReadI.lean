import Derived.Test.YtlbdocdjijhkbaaGreatDoorReadGH
import Derived.Test.YtlbdocdjijhkbaaGreatDoorIterAll
import Derived.Test.YtlbdocdjijhkbaaGreatDoorTermDevAB
namespace Go.Proofs.YtlbdocdjijhkbaaGreatDoor
open Go.RowKit
def SeqG {α : Type} (P : Program) (g : Nat) (lb : Array Value) (encs : α -> Array Value) (At : Nat -> α -> Prop) (N n₀ : Nat) (G : World -> Prop) (w : World) : Prop :=
 ∀ (l : Nat) (J Jx : (Nat -> Prop) -> Nat -> World -> Prop) (W : World), Below w.heap.size w W -> Abides J -> Abides Jx -> (∀ M k W, J M k W -> G W) ->
  (∀ M k x W1, J M k W1 -> k < N -> At k x -> YieldAt Fence.wide 3 P l (encs x) W1 fun e W' =>
    (e = .returned (.bool true) /\ J M (k + 1) W' /\ Below n₀ W1 W' /\ Keeps M W1 W') \/ (e = .returned (.bool false) /\ Jx M (k + 1) W')) ->
  J (fun _ => False) 0 W ->
  Calls P g (#[.func (.yield l) #[] #[]] ++ lb) W fun e W' => (∃ v, e = .returned v) /\ ((∃ M, J M N W') \/ (∃ M k, k <= N /\ Jx M k W'))
theorem range_walkG {α : Type} {P : Program} {n : Nat} {g : Operand} {ps : Array Tmp} {assign body : Code} {Q : Exit -> Act -> World -> Prop} {a : Act} {w : World}
 {gf : Nat} {lb : Array Value} (hg : a.eval g = .func (.func gf) #[] lb) (eg : ∀ args w, (callFunc gf args).run P w = .ok (.enter gf args) w)
 {encs : α -> Array Value} {At : Nat -> α -> Prop} {N n₀ : Nat} {w0 : World} {G : World -> Prop} (hseq : SeqG P gf lb encs At N n₀ G w0) (hb0 : Below w0.heap.size w0 w) (hn₀ : n₀ <= w.heap.size) (hps : ∀ x, (encs x).size = ps.size)
 (I : (Nat -> Prop) -> Nat -> World -> Prop) (Ix : Code -> (Nat -> Prop) -> Nat -> World -> Prop) (hG : ∀ M k W, I M k W -> G W) (hI : Abides I) (hIx : ∀ c, Abides (Ix c))
 (h0 : I (fun _ => False) 0 w)
 (hassign : ∀ (l : Nat) (M : Nat -> Prop) (k : Nat) (x : α) (W : World), I M k W -> k < N -> At k x -> (∀ j, M j -> w.heap.size <= j /\ j < W.heap.size) ->
   assign.wpIn (Fence.wide.inRound l) 3 P (Exit.then (fun a₁ W₁ => Keeps M W W₁ /\ Below n₀ W W₁ /\ ∀ W₂, Turn M W₁ W₂ -> W₂.heap.size = W₁.heap.size -> body.wpIn (Fence.wide.inRound l) 3 P (mPost n₀ M I Ix (k + 1) W₂) a₁ W₂) (fun _ _ _ => False)) { tmps := (ps.zip (encs x)).foldl (fun t (p, v) => t.setIfInBounds p v) a.tmps, defers := [] } W)
 (hdone : ∀ (D : Nat) (M : Nat -> Prop) (W : World), w.heap.size <= D -> M D -> I M N W -> W.heap[D]? = some (.deferred (some [])) -> Q .normal { a with defers := { target := .collected D, args := #[] } :: a.defers } W)
 (hstop : ∀ (D : Nat) (c : Code) (M : Nat -> Prop) (k : Nat) (W : World), w.heap.size <= D -> M D -> k <= N -> Ix c M k W -> W.heap[D]? = some (.deferred (some [])) -> c.wpIn Fence.wide n P Q { a with defers := { target := .collected D, args := #[] } :: a.defers } W) :
 (Code.rangeFunc g ps assign body).wpIn Fence.wide n P Q a w := by
 refine wpIn_rangeFunc ?_;intro fn hfn;obtain ⟨H, hH⟩ : ∃ H, w.heap.size = H := ⟨_, rfl⟩;rw [hH] at hn₀ hassign hdone hstop;let rec' : LoopState -> Option Code -> Loop := fun st pe => { state := st, pending := pe, fn, tmps := a.tmps, params := ps, assign, body, defers := H }
 have hdef : ∀ st pe, rec' st pe = { state := st, pending := pe, fn, tmps := a.tmps, params := ps, assign, body, defers := H } := fun _ _ => rfl;let U : (Nat -> Prop) -> Nat -> Prop := fun M j => M j \/ j = H \/ j = H + 1
 have hUH : ∀ M, U M H := fun M => .inr (.inl rfl);have hUL : ∀ M, U M (H + 1) := fun M => .inr (.inr rfl);let W1 : World := (w.alloc (.deferred (some []))).alloc (.loop (rec' .ready none))
 have hs1 : W1.heap.size = H + 2 := by show ((w.alloc _).alloc _).heap.size = _; rw [World.size_alloc, World.size_alloc, hH]
 have hL1 : W1.heap[H + 1]? = some (.loop (rec' .ready none)) := by
  have := World.alloc_heap_new (w.alloc (.deferred (some []))) (.loop (rec' .ready none)); rw [World.size_alloc, hH] at this; exact this
 have hK1 : W1.heap[H]? = some (.deferred (some [])) := by
  have h2 := World.alloc_heap_new w (.deferred (some [])); rw [hH] at h2;exact (Below.heap_alloc _ _ _ (by rw [World.size_alloc]; omega)).trans h2
 have hI1 : I (U fun _ => False) 0 W1 := by
  refine hI _ _ 0 w W1 h0 ((Turn.alloc _ w _).trans (Turn.alloc _ _ _)) (fun j hj => .inr ?_) (fun j hj => ?_)
  · rcases hj with hj | hj | hj
    · exact hj.elim
    all_goals omega
  · rcases hj with hj | hj | hj
    · exact hj.elim
    all_goals omega
 have hb1 : Below w0.heap.size w0 W1 := hb0.trans ((((Below.refl _ w).alloc (Nat.le_refl _) _).alloc (by simp) _).mono hb0.size);refine ⟨H + 1, [{ target := .collected H, args := #[] }], W1, { target := .fn (.func gf) lb, args := #[.func (.yield (H + 1)) #[] #[]] }, W1, gf, #[.func (.yield (H + 1)) #[] #[]] ++ lb, W1, ?_, ?_, ?_, ?_, fun h => ?_, ?_⟩
 · have := run_enterLoop_outer (P := P) (w := w) fn a.tmps ps assign body;rw [hH] at this; exact this
 · simp only [resolve, hg]
   simp [go_sem]
 · intro f' hf'; exact trivial
 · simp [invoke, go_sem, eg]
 · cases h
 · have lv : ∀ {M : Nat -> Prop} {W : World}, (∀ j, M j -> H + 2 <= j /\ j < W.heap.size) -> W.heap[H + 1]? = some (.loop (rec' .ready none)) -> ∀ j, U M j -> H <= j /\ j < W.heap.size := fun hM hl j hj => by
    have := (Array.getElem?_eq_some_iff.1 hl).1;rcases hj with hj | hj | hj
    · have := hM j hj; omega
    all_goals omega
   refine callsIn_wide.2 ((hseq (H + 1)
    (fun M k W => I (U M) k W /\ (∀ j, M j -> H + 2 <= j /\ j < W.heap.size) /\ W.heap[H + 1]? = some (.loop (rec' .ready none)) /\ W.heap[H]? = some (.deferred (some [])))
    (fun M k W => ∃ c, Ix c (U M) k W /\ (∀ j, M j -> H + 2 <= j /\ j < W.heap.size) /\ W.heap[H + 1]? = some (.loop (rec' .done (some c))) /\ W.heap[H]? = some (.deferred (some [])))
    W1 hb1 ?_ ?_ (fun M k W h => hG _ _ _ h.1) ?_ ⟨hI1, fun j hj => hj.elim, hL1, hK1⟩).mono ?_)
   ·
    rintro M M' k A B ⟨hi, hM, hl, hk⟩ ht hs hlt;have hA1 := (Array.getElem?_eq_some_iff.1 hl).1;refine ⟨hI _ _ k A B hi (ht.more fun j hj => .inl hj) (fun j hj => ?_) (fun j hj => ?_), fun j hj => ⟨?_, hlt j hj⟩, (ht.block _ hA1 (fun hm => by have := (hM _ hm).1; omega)).trans hl, (ht.block _ (by omega) (fun hm => by have := (hM _ hm).1; omega)).trans hk⟩
    · rcases hj with hj | hj
      · rcases hs j hj with h | h
        · exact .inl (.inl h)
        · exact .inr h
      · exact .inl (.inr hj)
    · have := ht.size;rcases hj with hj | hj | hj
      · exact hlt j hj
      all_goals omega
    · rcases hs j hj with h | h
      · exact (hM j h).1
      · omega
   · rintro M M' k A B ⟨c, hi, hM, hl, hk⟩ ht hs hlt;have hA1 := (Array.getElem?_eq_some_iff.1 hl).1;refine ⟨c, hIx c _ _ k A B hi (ht.more fun j hj => .inl hj) (fun j hj => ?_) (fun j hj => ?_), fun j hj => ⟨?_, hlt j hj⟩, (ht.block _ hA1 (fun hm => by have := (hM _ hm).1; omega)).trans hl, (ht.block _ (by omega) (fun hm => by have := (hM _ hm).1; omega)).trans hk⟩
     · rcases hj with hj | hj
       · rcases hs j hj with h | h
         · exact .inl (.inl h)
         · exact .inr h
       · exact .inl (.inr hj)
     · have := ht.size;rcases hj with hj | hj | hj
       · exact hlt j hj
       all_goals omega
     · rcases hs j hj with h | h
       · exact (hM j h).1
       · omega
   ·
    rintro M k x W ⟨hi, hM, hl, hk⟩ hlen hx;have hy := run_yield (P := P) (args := encs x) hl (hps x);refine ⟨fn, _, assign, body, hy, roundIn_of_wpIn hfn (wpIn_mono (hassign (H + 1) (U M) k x W hi hlen hx (lv hM hl)) ?_)⟩;clear hy;intro e a₁ W₁ he;cases e with
    | normal =>
     obtain ⟨hk1, hb1, ha1⟩ := he;have hl1 := (hk1.same _ (hUL M)).trans hl;have hk1' := (hk1.same _ (hUH M)).trans hk;have hlt1 := (Array.getElem?_eq_some_iff.1 hl1).1;refine ⟨_, run_beginRound hl1 rfl, ?_⟩;let W₂ := W₁.putObj (H + 1) (.loop { rec' .ready none with state := .busy })
     have hs2 : W₂.heap.size = W₁.heap.size := by show (W₁.putObj _ _).heap.size = _; simp
     have hl2 : W₂.heap[H + 1]? = some (.loop { rec' .ready none with state := .busy }) := World.putObj_heap_same hlt1;have hk2 : W₂.heap[H]? = some (.deferred (some [])) := (World.putObj_heap_other (by omega)).trans hk1';have hM1 : ∀ j, U M j -> H <= j /\ j < W₁.heap.size := fun j hj => by have := lv hM hl j hj; have := hk1.size; omega
     refine wpIn_mono (ha1 W₂ (Turn.put _ _ (hUL M) _) hs2) ?_;have back : ∀ (jump : Option Code) (W₃ : World), Keeps (U M) W₂ W₃ ->
      (Instr.endRound (H + 1) jump).run P W₃ = .ok (.bool jump.isNone) (W₃.putObj (H + 1) (.loop (rec' (if jump.isNone then .ready else .done) jump))) /\
      (W₃.putObj (H + 1) (.loop (rec' (if jump.isNone then .ready else .done) jump))).heap[H + 1]? = some (.loop (rec' (if jump.isNone then .ready else .done) jump)) /\
      (W₃.putObj (H + 1) (.loop (rec' (if jump.isNone then .ready else .done) jump))).heap[H]? = some (.deferred (some [])) /\ (∀ j, U M j -> j < W₃.heap.size) := fun jump W₃ hk3 => by
      have hl3 := (hk3.same _ (hUL M)).trans hl2;exact ⟨run_endRound (P := P) jump hl3, World.putObj_heap_same (Array.getElem?_eq_some_iff.1 hl3).1, (World.putObj_heap_other (by omega)).trans ((hk3.same _ (hUH M)).trans hk2), fun j hj => by have := hM1 j hj; have := hk3.size; omega⟩
     have keep4 : ∀ (W₃ : World) (o : Obj), Keeps (U M) W₂ W₃ -> Keeps M W (W₃.putObj (H + 1) o) := fun W₃ o hk3 => by
      refine ⟨by have := hk1.size; have := hk3.size; simp; omega, fun j hj => ?_⟩;have := (hM j hj).1;exact (World.putObj_heap_other (by omega)).trans ((hk3.same j (.inl hj)).trans ((World.putObj_heap_other (by omega)).trans (hk1.same j (.inl hj))))
     have stay : ∀ {W₃ : World} (o : Obj), (∀ j, U M j -> j < W₃.heap.size) -> ∀ j, U M j -> j < (W₃.putObj (H + 1) o).heap.size := fun o h j hj => by rw [World.putObj_size]; exact h j hj
     rintro e a₃ W₃ hp;cases e with
     | normal =>
      obtain ⟨hk3, hb3, hi3⟩ := hp;obtain ⟨hr, hl4, hk4, hM3⟩ := back none W₃ hk3;refine ⟨_, _, hr, .inl ⟨rfl, ⟨hI _ _ (k + 1) W₃ _ hi3 (Turn.put _ _ (hUL M) _) (fun j hj => .inl hj) (stay _ hM3), fun j hj => ⟨(hM j hj).1, stay _ hM3 j (.inl hj)⟩, hl4, hk4⟩, ?_, keep4 _ _ hk3⟩⟩;exact ((hb1.trans (below_put _ _ (by omega))).trans hb3).trans (below_put _ _ (by omega))
     | ret =>
      obtain ⟨hk3, hi3⟩ := hp;obtain ⟨hr, hl4, hk4, hM3⟩ := back (some .ret) W₃ hk3;exact ⟨_, _, hr, .inr ⟨rfl, .ret, hIx _ _ _ (k + 1) W₃ _ hi3 (Turn.put _ _ (hUL M) _) (fun j hj => .inl hj) (stay _ hM3), fun j hj => ⟨(hM j hj).1, stay _ hM3 j (.inl hj)⟩, hl4, hk4⟩⟩
     | exit id =>
      obtain ⟨hk3, hi3⟩ := hp;obtain ⟨hr, hl4, hk4, hM3⟩ := back (some (.exit id)) W₃ hk3;exact ⟨_, _, hr, .inr ⟨rfl, .exit id, hIx _ _ _ (k + 1) W₃ _ hi3 (Turn.put _ _ (hUL M) _) (fun j hj => .inl hj) (stay _ hM3), fun j hj => ⟨(hM j hj).1, stay _ hM3 j (.inl hj)⟩, hl4, hk4⟩⟩
     | goto t =>
      obtain ⟨hk3, hi3⟩ := hp;obtain ⟨hr, hl4, hk4, hM3⟩ := back (some (.goto t)) W₃ hk3;exact ⟨_, _, hr, .inr ⟨rfl, .goto t, hIx _ _ _ (k + 1) W₃ _ hi3 (Turn.put _ _ (hUL M) _) (fun j hj => .inl hj) (stay _ hM3), fun j hj => ⟨(hM j hj).1, stay _ hM3 j (.inl hj)⟩, hl4, hk4⟩⟩
     | panic ch => exact hp.elim
     | outgrown => exact hp.elim
    | ret => exact he.elim
    | exit id => exact he.elim
    | goto t => exact he.elim
    | panic ch => exact he.elim
    | outgrown => exact he.elim
   ·
    rintro e W2 ⟨⟨v, rfl⟩, (⟨M, hi, hM, hl, hk⟩ | ⟨M, k, hkN, c, hi, hM, hl, hk⟩)⟩
    · have hlt := (Array.getElem?_eq_some_iff.1 hl).1;refine ⟨none, _, run_endLoop (P := P) hl (by rw [hdef]; simp), hdone H (U M) _ (Nat.le_refl _) (hUH M) (hI _ _ N W2 _ hi (Turn.put _ _ (hUL M) _) (fun j hj => .inl hj) (fun j hj => ?_)) ((World.putObj_heap_other (by omega)).trans hk)⟩;rw [World.putObj_size]; exact (lv hM hl j hj).2
    · have hlt := (Array.getElem?_eq_some_iff.1 hl).1;refine ⟨some c, _, run_endLoop (P := P) hl (by rw [hdef]; simp), hstop H c (U M) k _ (Nat.le_refl _) (hUH M) hkN (hIx c _ _ k W2 _ hi (Turn.put _ _ (hUL M) _) (fun j hj => .inl hj) (fun j hj => ?_)) ((World.putObj_heap_other (by omega)).trans hk)⟩;rw [World.putObj_size];rcases hj with hj | hj | hj
      · exact (hM j hj).2
      all_goals omega
theorem TArgsP.get {w : World} {P : Nat -> Prop} {b o : Nat} {ts : List Tm} (h : TArgsP w P (some ⟨b, o, none⟩) ts) (i : Nat) (hi : i < ts.length) :
 ∃ ad cap, P b /\ w.cell? ⟨b, o + i * 4, none⟩ = some (.int .i64 (ts[i]'hi).kind) /\ w.cell? ⟨b, o + i * 4 + 1, none⟩ = some (.string (ts[i]'hi).name) /\ w.cell? ⟨b, o + i * 4 + 2, none⟩ = some (.int .i64 (ts[i]'hi).n) /\
  w.cell? ⟨b, o + i * 4 + 3, none⟩ = some (.slice ad (ts[i]'hi).args.length cap) /\ TmP w P (ts[i]'hi) ad cap := by
 induction i generalizing o ts with
 | zero =>
  rw [Nat.zero_mul, Nat.add_zero];cases h with
  | nil => cases hi
  | cons _ _ k n nm l ts ad cap hp c0 c1 c2 c3 hk hn hm hl hc ha _ => exact ⟨ad, cap, hp, c0, c1, c2, c3, ⟨hk, hn, hm, hl, hc, ha⟩⟩
 | succ i ih =>
  cases h with
  | nil => cases hi
  | cons _ _ k n nm l ts ad cap hp c0 c1 c2 c3 hk hn hm hl hc ha hr =>
   have h9 := ih hr (by simpa using hi);rw [show o + (i + 1) * 4 = o + 4 + i * 4 by omega];exact h9
theorem TArgsP.addr2 {w : World} {P : Nat -> Prop} {ad : Option Addr} {ts : List Tm} (h : TArgsP w P ad ts) (hp : 0 < ts.length) : ∃ b o, ad = some ⟨b, o, none⟩ := by
 cases h with
 | nil => cases hp
 | cons b o => exact ⟨b, o, rfl⟩
def BackAt (L : List Tm) (w : World) (P : Nat -> Prop) (k : Nat) (x : Nat × Tm × Option Addr × Nat) : Prop := x.1 + k + 1 = L.length /\ L[x.1]? = some x.2.1 /\ TmP w P x.2.1 x.2.2.1 x.2.2.2
def backv (x : Nat × Tm × Option Addr × Nat) : Array Value := #[.int .i64 (x.1 : Nat), tmv x.2.1 x.2.2.1 x.2.2.2]
def BoxAt (Bt : Nat) (ad : Option Addr) (len cap : Nat) (W : World) : Prop := W.heap[Bt]? = some (.cells #[.slice ad len cap] 23 (0, 0))
set_option maxRecDepth 100000 in
set_option maxHeartbeats 4000000 in
theorem back_seq (L : List Tm) (ad : Option Addr) (cap Bt n₀ : Nat) (w : World) (P : Nat -> Prop) (hP : ∀ b, P b -> b < n₀) (hlen : L.length <= 1000000) (hargs : TArgsP w P ad L) (hn : n₀ <= w.heap.size) :
 SeqG Tryz.prog 171 #[.pointer (some ⟨Bt, 0, none⟩)] backv (BackAt L w P) L.length n₀ (BoxAt Bt ad L.length cap) w := fun l J Jx W hW hJ hJx hG hY h0 => by
 have HY := Lib.hid hY;have HG := Lib.hid hG;have HA := Lib.hid hargs;have HW := Lib.hid (hW.mono hn);have hB' := hG _ _ _ h0;have HJ0 := Lib.hid h0;obtain ⟨d0, e0⟩ := cellsR1 hB';clear hJ hJx hY hG hargs hW hB' h0;refine (callsIn_wide (n := 4)).1 ?_;refine callsIn_of_wp Tryz.func171 rfl trivial ?_ rfl;simp only [Tryz.ntmps171, List.size_toArray, List.length_cons, List.length_nil, Nat.reduceAdd, Nat.reduceSub, Array.replicate_succ, Array.replicate_zero, List.push_toArray, List.append_toArray, List.nil_append, List.cons_append]
 gi_wp2
 gi_loopw [3] (fun iv wr => ∃ k : Nat, ((∃ j : Nat, j + k + 1 = L.length /\ iv = .int .i64 (j : Nat)) \/ (k = L.length /\ iv = .int .i64 (-1))) /\ J (fun _ => False) k wr /\ Below n₀ W wr) (fun iv _ => (intOf iv + 1).toNat)
 case atStart =>
  refine ⟨0, ?_, HJ0.out, Below.refl _ _⟩;by_cases h : L.length = 0
  · exact .inr ⟨h.symm, by rw [h]; rfl⟩
  · exact .inl ⟨L.length - 1, by omega, by congr 1; omega⟩
 case round =>
  obtain ⟨k, hiv, hj, hb⟩ := hrel;rcases hiv with ⟨j, hjk, rfl⟩ | ⟨hkl, rfl⟩
  · have hbox := HG.out _ _ _ hj;obtain ⟨d0, e0⟩ := cellsR1 hbox;have ha2 := HA.out.kept (w' := wr) (Q := fun b => b < n₀) (fun b hp _ => (HW.out.trans hb).block b (hP b hp)) (fun b hp _ => hP b hp);obtain ⟨b, o, rfl⟩ := ha2.addr2 (by omega);obtain ⟨ad1, cap1, hbn, c0, c1, c2, c3, _⟩ := ha2.get j (by omega);obtain ⟨ad2, cap2, _, _, _, _, c3', htp⟩ := HA.out.get j (by omega);have hcc : wr.cell? ⟨b, o + j * 4 + 3, none⟩ = w.cell? ⟨b, o + j * 4 + 3, none⟩ := (HW.out.trans hb).cell (p := ⟨b, o + j * 4 + 3, none⟩) hbn;rw [c3, c3'] at hcc;have hac : ad1 = ad2 /\ cap1 = cap2 := by
     injection hcc with hcc;injection hcc with h1 _ h3;exact ⟨h1, h3⟩
    obtain ⟨rfl, rfl⟩ := hac;have hat : BackAt L w P k (j, L[j]'(by omega), ad1, cap1) := ⟨hjk, List.getElem?_eq_getElem _, htp⟩;generalize L[j]'(by omega) = t at *;have hi0 : (0 : Int) <= (j : Int) /\ (j : Int) < (L.length : Int) := by omega
    have hge : (0 : Int) <= (j : Int) := by omega
    obtain ⟨fn, tmps, assign, body, hy, hR⟩ := HY.out (fun _ => False) k (j, t, ad1, cap1) wr hj (by omega) hat;unfold backv tmv at hy;dsimp only at hy;have HR := Lib.hid hR;have HB := Lib.hid hb;clear hR hj hbox ha2 hat htp c3' hb hcc;gi_wp2
    refine HR.out.mono ?_;rintro e W3 (⟨rfl, hJ3, hb3, hk3⟩ | ⟨rfl, hJx3⟩)
    · have HJ3 := Lib.hid hJ3;have HB3 := Lib.hid (HB.out.trans hb3);clear hJ3 hb3 hk3;gi_wp2
      refine ⟨⟨k + 1, ?_, HJ3.out, HB3.out⟩, by simp [intOf]⟩;by_cases hj0 : j = 0
      · exact .inr ⟨by omega, by subst hj0; rfl⟩
      · exact .inl ⟨j - 1, by omega, by congr 1; omega⟩
    · have HJX := Lib.hid hJx3;clear hJx3;gi_wp2
      refine bodyPost_ret (results_none rfl _ _ _) rfl ?_;exact ⟨⟨_, rfl⟩, .inr ⟨_, k + 1, by omega, HJX.out⟩⟩
  · gi_wp2
    go_end0;exact ⟨⟨_, rfl⟩, .inl ⟨_, hkl ▸ hj⟩⟩
set_option maxHeartbeats 1000000 in
theorem sl_Backward (ad : Option Addr) (len cap : Nat) (w : World) :
 Calls Tryz.prog 161 #[.slice ad len cap] w fun e w' => e = .returned (.func (.func 171) #[] #[.pointer (some ⟨w.heap.size, 0, none⟩)]) /\ w' = w.alloc (.cells #[.slice ad len cap] 23) := by
 have hmf : ∀ (fn : Fn) (first cap : Array Value) (w : World), (Instr.makeFunc fn first cap).run Tryz.prog w = .ok (.func fn first cap) w := fun _ _ _ _ => rfl;go_enter Tryz.func161, Tryz.ntmps161;go_wp2_with fail;go_ret;exact ⟨rfl, rfl⟩
def BackI (w : World) (q B : Nat) (v : Value) (L : List Tm) (e : Tm) (M : Nat -> Prop) (k : Nat) (W : World) : Prop :=
 ∃ ad cap, Turn (fun j => j = q) w W /\ (∀ j, M j -> w.heap.size <= j) /\ W.heap[q]? = some (.cells (tcells (consT (L.drop (L.length - k)) e) ad cap).toArray 30 (0, 0)) /\
  TmP W (fun b => B <= b /\ some b ≠ v.ownBlock /\ b ≠ q /\ ¬ M b) (consT (L.drop (L.length - k)) e) ad cap
theorem backI_abides (w : World) (q B : Nat) (v : Value) (L : List Tm) (e : Tm) (hq : q < w.heap.size) : Abides (BackI w q B v L e) := by
 rintro M M' k X Y ⟨ad, cap, h1, h2, h3, h5⟩ ht hs hl;have hsz := h1.size;have keep : ∀ b, b < X.heap.size -> ¬ M b -> Y.heap[b]? = X.heap[b]? := fun b hb hm => ht.block b hb hm;refine ⟨ad, cap, ⟨ht.os.trans h1.os, ht.tape.trans h1.tape, ht.output.trans h1.output, Nat.le_trans h1.size ht.size, fun b hb hn => (keep b (by omega) (fun hm => by have := h2 b hm; omega)).trans (h1.block b hb hn)⟩, fun j hj => ?_, (keep q (by omega) (fun hm => by have := h2 q hm; omega)).trans h3, ?_⟩
 · rcases hs j hj with h | h
   · exact h2 j h
   · omega
 · refine h5.kept (fun b hp hb => keep b hb hp.2.2.2) (fun b hp hb => ⟨hp.1, hp.2.1, hp.2.2.1, fun hm => ?_⟩);rcases hs b hm with h | h
   · exact hp.2.2.2 h
   · omega
theorem args2P {B q : Nat} {M : Nat -> Prop} {w : World} {v : Value} {t u : Tm} {ad ad2 : Option Addr} {cap cap2 : Nat} (hB : B <= w.heap.size) (hltv : ∀ k, v.ownBlock = some k -> k < w.heap.size) (hq : q < w.heap.size) (hM : ∀ j, M j -> j < w.heap.size)
 (ht : TmP w (fun b => B <= b /\ some b ≠ v.ownBlock /\ b ≠ q /\ ¬ M b) t ad cap) (hu : TmP w (fun b => B <= b /\ some b ≠ v.ownBlock /\ b ≠ q /\ ¬ M b) u ad2 cap2) :
 TArgsP (w.alloc (.cells (tcells t ad cap ++ tcells u ad2 cap2).toArray 30)) (fun b => B <= b /\ some b ≠ v.ownBlock /\ b ≠ q /\ ¬ M b) (some ⟨w.heap.size, 0, none⟩) [t, u] := by
 have hP : ∀ {x : Tm} {a : Option Addr} {c : Nat}, TmP w (fun b => B <= b /\ some b ≠ v.ownBlock /\ b ≠ q /\ ¬ M b) x a c -> TmP (w.alloc (.cells (tcells t ad cap ++ tcells u ad2 cap2).toArray 30)) (fun b => B <= b /\ some b ≠ v.ownBlock /\ b ≠ q /\ ¬ M b) x a c := fun h => TmP.kept h (fun b _ hb => Below.heap_alloc _ _ _ hb) (fun _ hp _ => hp);have hT : TRow (w.alloc (.cells (tcells t ad cap ++ tcells u ad2 cap2).toArray 30)) (fun b => B <= b /\ some b ≠ v.ownBlock /\ b ≠ q /\ ¬ M b) (tcells t ad cap ++ (tcells u ad2 cap2 ++ [])) [t, u] := .cons t ad cap _ _ (hP ht) (.cons u ad2 cap2 _ _ (hP hu) .nil);refine hT.args w.heap.size ⟨hB, fun e => by have := hltv _ e.symm; omega, by omega, fun hm => by have := hM _ hm; omega⟩ (fun _ hp => hp) 0 (fun j hj => ?_);rw [Nat.zero_add, List.append_nil];exact (World.cell?_alloc_at _ _ _ _ rfl).trans (by rw [List.getElem?_toArray])
theorem consT_step (L : List Tm) (e : Tm) (i k : Nat) (t : Tm) (h : i + k + 1 = L.length) (ht : L[i]? = some t) : consT (L.drop (L.length - (k + 1))) e = compT [46] [t, consT (L.drop (L.length - k)) e] := by
 obtain ⟨hi, hg⟩ := List.getElem?_eq_some_iff.1 ht;rw [show L.length - (k + 1) = i by omega, show L.length - k = i + 1 by omega, List.drop_eq_getElem_cons hi, hg]; rfl
theorem RMem.keptOn {w w' : World} {r : Nat} {v : Value} {ts : List Tok} {ns : Nms} (h : RMem w r v ts ns) (hb : ∀ b, (b <= r \/ v.ownBlock = some b) -> b < w.heap.size -> w'.heap[b]? = w.heap[b]?) : RMem w' r v ts ns := by
 have hlt := h.lt;obtain ⟨g, k, cap, hg, hr, hl, hc, ht⟩ := h.ex;exact ⟨⟨g, k, cap, hg, (hb r (.inl (Nat.le_refl _)) hlt).trans hr, hl, hc, ht.kept (fun hs => hb g (.inl (by omega)) hs)⟩, h.names.kept (fun b hv hs => hb b (.inr hv) hs)⟩
end Go.Proofs.YtlbdocdjijhkbaaGreatDoor
