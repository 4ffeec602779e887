/-
  Joined texts: UniPA, UniPB, UniPC, UniPD, UniPE.
-/
import Derived.Test.YtlpmofmhcnclhaaSubKAC
import Derived.Test.YtlpmofmhcnclhaaSubW
import Derived.Test.YtlpmofmhcnclhaaUniPl
import Derived.Deep.RegionLawGrows
import Derived.WalkSmall
import Derived.Deep.RegionHeld3
import Derived.Deep.DeepCutAuto
import Derived.RegionTactic
import Derived.BigRegion

/-
  What a call of package unify goes by, in memory: the bindings, the steps that are left, the pairs that wait.
-/
namespace Go.Proofs.Ytlpmofmhcnclhaa
open Go.RowKit

/-- Two terms' eight cells. -/
def pcells (p : Tm × Tm) (a : Option Addr) (c : Nat) (a' : Option Addr) (c' : Nat) : List Value := tcells p.1 a c ++ tcells p.2 a' c'
theorem pcells_len (p : Tm × Tm) (a : Option Addr) (c : Nat) (a' : Option Addr) (c' : Nat) : (pcells p a c a' c').length = 8 := rfl
/-- The cells xs are the pairs L. -/
def PRow (w : World) (P : Nat → Prop) (xs : List Value) (L : List (Tm × Tm)) : Prop := xs.length = L.length * 8 ∧ ∀ k (hk : k < L.length), ∃ a c a' c', (TmP w P L[k].1 a c ∧ TmP w P L[k].2 a' c') ∧ ∀ j, j < 8 → xs[k * 8 + j]? = (pcells L[k] a c a' c')[j]?
theorem PRow.nil {w : World} {P : Nat → Prop} : PRow w P [] [] := ⟨rfl, fun k hk => by simp at hk⟩
theorem PRow.kept {w w' : World} {P Q : Nat → Prop} {xs : List Value} {L : List (Tm × Tm)} (h : PRow w P xs L) (hk : ∀ b, P b → b < w.heap.size → w'.heap[b]? = w.heap[b]?) (hPQ : ∀ b, P b → b < w.heap.size → Q b) : PRow w' Q xs L :=
  ⟨h.1, fun k hlt => by obtain ⟨a, c, a', c', ⟨h1, h2⟩, h3⟩ := h.2 k hlt; exact ⟨a, c, a', c', ⟨h1.kept hk hPQ, h2.kept hk hPQ⟩, h3⟩⟩
theorem PRow.snoc {w : World} {P : Nat → Prop} {xs : List Value} {L : List (Tm × Tm)} {p : Tm × Tm} {a : Option Addr} {c : Nat} {a' : Option Addr} {c' : Nat} (h : PRow w P xs L) (h1 : TmP w P p.1 a c) (h2 : TmP w P p.2 a' c') : PRow w P (xs ++ pcells p a c a' c') (L ++ [p]) := by
  refine ⟨by rw [List.length_append, List.length_append, h.1]; show _ + 8 = (_ + 1) * 8; omega, fun k hk => ?_⟩
  by_cases hlt : k < L.length
  · obtain ⟨b, d, b', d', g1, g2⟩ := h.2 k hlt
    have e : (L ++ [p])[k] = L[k] := List.getElem_append_left hlt
    rw [e]
    exact ⟨b, d, b', d', g1, fun j hj => by rw [List.getElem?_append_left (by rw [h.1]; omega)]; exact g2 j hj⟩
  · rw [List.length_append, List.length_singleton] at hk
    obtain rfl : k = L.length := by omega
    have e : (L ++ [p])[L.length] = p := by simp
    rw [e]
    exact ⟨a, c, a', c', ⟨h1, h2⟩, fun j hj => by rw [List.getElem?_append_right (by rw [h.1]; omega), h.1, Nat.add_sub_cancel_left]⟩
theorem PRow.pop {w : World} {P : Nat → Prop} {xs : List Value} {L : List (Tm × Tm)} {p : Tm × Tm} (h : PRow w P xs (L ++ [p])) : ∃ ys a c a' c', xs = ys ++ pcells p a c a' c' ∧ PRow w P ys L ∧ TmP w P p.1 a c ∧ TmP w P p.2 a' c' := by
  obtain ⟨hl, h⟩ := h
  rw [List.length_append, List.length_singleton] at hl
  obtain ⟨a, c, a', c', ⟨h1, h2⟩, h3⟩ := h L.length (by simp)
  rw [show (L ++ [p])[L.length]'(by simp) = p by simp] at h1 h2 h3
  refine ⟨xs.take (L.length * 8), a, c, a', c', ?_, ⟨by rw [List.length_take]; omega, fun k hk => ?_⟩, h1, h2⟩
  · have e : xs.drop (L.length * 8) = pcells p a c a' c' := by
      refine List.ext_getElem? fun j => ?_
      rw [List.getElem?_drop]
      by_cases hj : j < 8
      · exact h3 j hj
      · rw [List.getElem?_eq_none (by omega), List.getElem?_eq_none (by rw [pcells_len]; omega)]
    rw [← e, List.take_append_drop]
  · obtain ⟨b, d, b', d', g1, g2⟩ := h k (by rw [List.length_append, List.length_singleton]; omega)
    have e : (L ++ [p])[k]'(by rw [List.length_append, List.length_singleton]; omega) = L[k] := List.getElem_append_left hk
    rw [e] at g1 g2
    exact ⟨b, d, b', d', g1, fun j hj => by rw [List.getElem?_take, if_pos (by omega)]; exact g2 j hj⟩
theorem infoPr : (Try.prog.info? 61).map (fun i => (i.zero, i.size, i.bytes)) = some (some (.agg #[.int .i64 0, .string ⟨#[]⟩, .int .i64 0, .slice none 0 0, .int .i64 0, .string ⟨#[]⟩, .int .i64 0, .slice none 0 0]), 8, 112) := by kernel_rfl

/-- The bindings: those that came in (with no room behind them, where full), or a row of the call's own. -/
def BHold (n₀ : Nat) (full : Bool) (w : World) (v : Value) (r : Option Nat) (n : Nat) (xs : List Value) : Prop :=
  (r = v.ownBlock ∧ w.ownsRow n₀ 34 5 v n xs) ∨
  (r = none ∧ ∃ ad cap, v = .slice ad n cap ∧ n ≤ cap ∧ cap ≤ maxLen ∧ (full = true → cap = n) ∧ xs.length = n * 5 ∧ ∀ j u, xs[j]? = some u → ∃ b o, ad = some ⟨b, o, none⟩ ∧ b < n₀ ∧ w.cell? ⟨b, o + j, none⟩ = some u)
theorem ownsRow_lowU {w : World} {base base' : Nat} {e : TypeId} {size : Nat} {v : Value} {n : Nat} {xs : List Value} (h : w.ownsRow base e size v n xs) (hb : base' ≤ base) : w.ownsRow base' e size v n xs := by
  obtain ⟨hl, h1⟩ := h
  refine ⟨hl, ?_⟩
  rcases h1 with h0 | ⟨g, cap, cur, hv, hbg, r⟩
  · exact .inl h0
  · exact .inr ⟨g, cap, cur, hv, Nat.le_trans hb hbg, r⟩
theorem ownsRow_formU {w : World} {base : Nat} {e : TypeId} {size : Nat} {v : Value} {n : Nat} {xs : List Value} (h : w.ownsRow base e size v (n + 1) xs) : ∃ g cap, v = .slice (some ⟨g, 0, none⟩) (n + 1) cap ∧ base ≤ g ∧ g < w.heap.size ∧ n + 1 ≤ cap ∧ cap ≤ maxLen := by
  obtain ⟨hl, h1⟩ := h
  rcases h1 with ⟨_, h0⟩ | ⟨g, cap, cur, hv, hbg, hh, hn, hc, _⟩
  · omega
  · exact ⟨g, cap, hv, hbg, (Array.getElem?_eq_some_iff.1 hh).1, hn, hc⟩
theorem step_app_bd {w : World} {ops : Array Oper} {o : Oper} {a : Act} {K : Act → World → Prop} {Q : Exit → Act → World → Prop} {E : Prop} (hgd : o.guard = none) (s x : Operand)
    (ho : o.op = .call { callee := .builtin .append, args := #[s, x], argTypes := #[22, 22] }) {n₀ : Nat} {v : Value} {r : Option Nat} {n : Nat} {xs : List Value} (hs : a.eval s = v) (hold : BHold n₀ true w v r n xs)
    {g c : Nat} {news : List Value} (hx : a.eval x = .slice (some ⟨g, 0, none⟩) 1 c) (hl : news.length = 5) (hnews : ∀ j u, news[j]? = some u → w.cell? ((⟨g, 0, none⟩ : Addr).add j) = some u) (h1 : ∀ u ∈ news, u.oneCell' = true)
    (hn : n ≤ 1000000) (hbase : n₀ ≤ w.heap.size)
    (h : ∀ g cap w', w'.ownsRow n₀ 34 5 (.slice (some ⟨g, 0, none⟩) (n + 1) cap) (n + 1) (xs ++ news) → w.grownBy w' r → (r = some g ∨ w.heap.size ≤ g) → K (a.put o.dst (.slice (some ⟨g, 0, none⟩) (n + 1) cap)) w') :
    if Region.wanted o (yielded ops a.tmps) = true then Oper.wp Try.prog o a w K Q else E := by
  obtain ⟨i0, hi, hz0, hz1, hz2⟩ := info_partsB infoBd
  rcases hold with ⟨rfl, hown⟩ | ⟨rfl, ad, cap, rfl, hnc, hcm, hfull, hlen, hcl⟩
  · exact step_append_lies w hgd s x 22 ho n₀ 34 i0 _ 5 64 Try.underlying22 hi hz0 hz1 hz2 rfl (by decide) v n xs hs hown _ 1 c news hx (by omega) hnews h1 (by decide) (by unfold maxLen; omega) (by omega) hbase _ rfl fun g cap w' a1 a2 a3 _ => h g cap w' a1 a2 (a3.imp id fun e => by omega)
  · obtain rfl : n = cap := (hfull rfl).symm
    refine step_append_grows hgd s x 22 ho 34 i0 _ 5 64 Try.underlying22 hi hz0 hz1 hz2 rfl (by decide) ad n n xs hs (fun e => ?_) hlen (fun b e j u hu => ?_) _ 1 c news hx (by omega) hnews h1 (by omega) (by unfold maxLen; omega) (by omega) fun v' w' a1 a2 => ?_
    · subst e
      cases n with
      | zero => exact ⟨rfl, rfl⟩
      | succ n => obtain ⟨_, _, e, _⟩ := hcl 0 _ (List.getElem?_eq_getElem (by omega)); cases e
    · obtain ⟨b', o, e', _, h2⟩ := hcl j u hu
      obtain rfl := Option.some.inj (e.symm.trans e')
      rw [addr_atB]; exact h2
    · obtain ⟨g', cap', rfl, hb, _⟩ := ownsRow_formU a1
      exact h g' cap' w' (ownsRow_lowU a1 hbase) a2 (.inr hb)

/-- What is written to as a call of package unify goes on, beside the work itself: where the bindings and the pairs stand. -/
structure WS where
  ab : Option Addr
  cb : Nat
  r : Option Nat
  aw : Option Addr
  cw : Nat
  s : Option Nat
/-- A block that nothing is written to. -/
def UFree (q : Nat) (S : WS) (b : Nat) : Prop := b ≠ q ∧ some b ≠ S.r ∧ some b ≠ S.s
/-- The work at q: the bindings, how many steps are left, the pairs that wait, the next one first. -/
structure Wk (n₀ q : Nat) (full : Bool) (S : WS) (bs : Bds) (left : Nat) (L : List (Tm × Tm)) (w : World) : Prop where
  low : n₀ ≤ q
  blk : w.heap[q]? = some (.cells #[.slice S.ab bs.length S.cb, .int .i64 (left : Nat), .slice S.aw L.length S.cw] 51 (0, 0))
  bds : ∃ xs, BHold n₀ full w (.slice S.ab bs.length S.cb) S.r bs.length xs ∧ BRow w (UFree q S) xs bs
  wts : ∃ ys, w.ownsRow n₀ 61 8 (.slice S.aw L.length S.cw) L.length ys ∧ PRow w (UFree q S) ys L.reverse
  ws : S.s = (Value.slice S.aw L.length S.cw).ownBlock
  nr : S.r ≠ some q
  ns : S.s ≠ some q
  rs : ∀ g, S.r = some g → S.s ≠ some g
theorem Wk.lt {n₀ q : Nat} {full : Bool} {S : WS} {bs : Bds} {left : Nat} {L : List (Tm × Tm)} {w : World} (h : Wk n₀ q full S bs left L w) : q < w.heap.size := (Array.getElem?_eq_some_iff.1 h.blk).1
theorem BHold.rlt {n₀ : Nat} {full : Bool} {w : World} {v : Value} {r : Option Nat} {n : Nat} {xs : List Value} (h : BHold n₀ full w v r n xs) : ∀ g, r = some g → n₀ ≤ g ∧ g < w.heap.size := fun g e => by
  rcases h with ⟨h1, h2⟩ | ⟨h1, _⟩
  · exact h2.lt g (h1.symm.trans e)
  · rw [h1] at e; cases e
theorem Wk.rlt {n₀ q : Nat} {full : Bool} {S : WS} {bs : Bds} {left : Nat} {L : List (Tm × Tm)} {w : World} (h : Wk n₀ q full S bs left L w) : ∀ g, S.r = some g → n₀ ≤ g ∧ g < w.heap.size := by
  obtain ⟨xs, h1, _⟩ := h.bds; exact h1.rlt
theorem Wk.slt {n₀ q : Nat} {full : Bool} {S : WS} {bs : Bds} {left : Nat} {L : List (Tm × Tm)} {w : World} (h : Wk n₀ q full S bs left L w) : ∀ g, S.s = some g → n₀ ≤ g ∧ g < w.heap.size := fun g e => by
  obtain ⟨xs, h1, _⟩ := h.wts; exact h1.lt g (h.ws.symm.trans e)
/-- A block that is new is free. -/
theorem Wk.free {n₀ q : Nat} {full : Bool} {S : WS} {bs : Bds} {left : Nat} {L : List (Tm × Tm)} {w : World} (h : Wk n₀ q full S bs left L w) {b : Nat} (hb : w.heap.size ≤ b) : UFree q S b :=
  ⟨fun e => by have := h.lt; omega, fun e => by have := (h.rlt b e.symm).2; omega, fun e => by have := (h.slt b e.symm).2; omega⟩
/-- What came in is free. -/
theorem Wk.old {n₀ q : Nat} {full : Bool} {S : WS} {bs : Bds} {left : Nat} {L : List (Tm × Tm)} {w : World} (h : Wk n₀ q full S bs left L w) {b : Nat} (hb : b < n₀) : UFree q S b :=
  ⟨fun e => by have := h.low; omega, fun e => by have := (h.rlt b e.symm).1; omega, fun e => by have := (h.slt b e.symm).1; omega⟩
theorem BHold.keptB {n₀ : Nat} {full : Bool} {w w' : World} {v : Value} {r : Option Nat} {n : Nat} {xs : List Value} (h : BHold n₀ full w v r n xs) (hk : ∀ b, (b < n₀ ∨ r = some b) → b < w.heap.size → w'.heap[b]? = w.heap[b]?) : BHold n₀ full w' v r n xs := by
  rcases h with ⟨h1, h2⟩ | ⟨h1, ad, cap, h2, h3, h4, h5, h6, h7⟩
  · exact .inl ⟨h1, ownsRow_keptP h2 fun b e hl => hk b (.inr (h1.trans e)) hl⟩
  · refine .inr ⟨h1, ad, cap, h2, h3, h4, h5, h6, fun j u hu => ?_⟩
    obtain ⟨b, o, e, hb, hc⟩ := h7 j u hu
    exact ⟨b, o, e, hb, (World.cell?_of_block (a := ⟨b, o + j, none⟩) (hk b (.inl hb) (World.block_lt_of_cell? w ⟨b, o + j, none⟩ hc))).trans hc⟩
/-- As long as nothing old is written, all stays. -/
theorem Wk.on {n₀ q : Nat} {full : Bool} {S : WS} {bs : Bds} {left : Nat} {L : List (Tm × Tm)} {w w' : World} (h : Wk n₀ q full S bs left L w) (hb : Below w.heap.size w w') : Wk n₀ q full S bs left L w' := by
  obtain ⟨xs, h1, h2⟩ := h.bds
  obtain ⟨ys, h3, h4⟩ := h.wts
  exact ⟨h.low, (hb.block q h.lt).trans h.blk, ⟨xs, h1.keptB fun b _ hl => hb.block b hl, h2.kept (fun b _ hl => hb.block b hl) fun _ h _ => h⟩, ⟨ys, ownsRow_keptP h3 fun b _ hl => hb.block b hl, h4.kept (fun b _ hl => hb.block b hl) fun _ h _ => h⟩, h.ws, h.nr, h.ns, h.rs⟩
/-- The work itself is written to: the steps that are left. -/
theorem Wk.left {n₀ q : Nat} {full : Bool} {S : WS} {bs : Bds} {left : Nat} {L : List (Tm × Tm)} {w w' : World} (h : Wk n₀ q full S bs left L w) (left' : Nat) (ht : Turn (fun j => j = q ∨ w.heap.size ≤ j) w w') (hq : w'.heap[q]? = some (.cells #[.slice S.ab bs.length S.cb, .int .i64 (left' : Nat), .slice S.aw L.length S.cw] 51 (0, 0))) : Wk n₀ q full S bs left' L w' := by
  obtain ⟨xs, h1, h2⟩ := h.bds
  obtain ⟨ys, h3, h4⟩ := h.wts
  have hlow := h.low
  have k : ∀ b, b ≠ q → b < w.heap.size → w'.heap[b]? = w.heap[b]? := fun b hne hl => ht.block b hl (by omega)
  exact ⟨h.low, hq, ⟨xs, h1.keptB fun b hb hl => k b (fun e => hb.elim (fun h' => by omega) (fun h' => h.nr (e ▸ h'))) hl, h2.kept (fun b hp hl => k b hp.1 hl) fun _ h _ => h⟩,
    ⟨ys, ownsRow_keptP h3 fun b hb hl => k b (fun e => h.ns (h.ws.trans (e ▸ hb))) hl, h4.kept (fun b hp hl => k b hp.1 hl) fun _ h _ => h⟩, h.ws, h.nr, h.ns, h.rs⟩
theorem Wk.spend {n₀ q : Nat} {full : Bool} {S : WS} {bs : Bds} {left : Nat} {L : List (Tm × Tm)} {w : World} (h : Wk n₀ q full S bs left L w) (left' : Nat) : Wk n₀ q full S bs left' L (w.setCell ⟨q, 1, none⟩ (.int .i64 (left' : Nat))) :=
  h.left left' (Turn.set (fun j => j = q ∨ w.heap.size ≤ j) w (p := ⟨q, 1, none⟩) (.inl rfl) _) (by have := Lib.heap_setCell_same (i := 1) h.blk (.int .i64 (left' : Nat)); simpa using this)
/-- The bindings as they can be looked up. -/
theorem Wk.at {n₀ q : Nat} {full : Bool} {S : WS} {bs : Bds} {left : Nat} {L : List (Tm × Tm)} {w : World} (h : Wk n₀ q full S bs left L w) (hn : n₀ ≤ w.heap.size) : bs.length ≤ S.cb ∧ S.cb ≤ maxLen ∧ BdsAt w (fun b => b < w.heap.size) S.ab bs := by
  obtain ⟨xs, h1, h2⟩ := h.bds
  have key : ∀ (C : ∀ j u, xs[j]? = some u → ∃ b o, S.ab = some ⟨b, o, none⟩ ∧ b < w.heap.size ∧ w.cell? ⟨b, o + j, none⟩ = some u), BdsAt w (fun b => b < w.heap.size) S.ab bs := fun C k hk => by
    obtain ⟨a1, c1, ⟨hi, hp⟩, hc⟩ := h2.2 k hk
    have hx := h2.1
    have g : ∀ j, j < 5 → ∃ u, (bcellsP bs[k] a1 c1)[j]? = some u ∧ xs[k * 5 + j]? = some u := fun j hj => by
      have e := hc j hj
      rw [List.getElem?_eq_getElem (by omega)] at e
      exact ⟨_, e.symm, List.getElem?_eq_getElem (by omega)⟩
    obtain ⟨u0, e0, d0⟩ := g 0 (by omega)
    obtain ⟨u1, e1, d1⟩ := g 1 (by omega)
    obtain ⟨u2, e2, d2⟩ := g 2 (by omega)
    obtain ⟨u3, e3, d3⟩ := g 3 (by omega)
    obtain ⟨u4, e4, d4⟩ := g 4 (by omega)
    obtain ⟨b, o, ea, hb, x0⟩ := C _ _ d0
    have at' : ∀ j u, xs[k * 5 + j]? = some u → w.cell? ⟨b, o + k * 5 + j, none⟩ = some u := fun j u hu => by
      obtain ⟨b', o', ea', _, x⟩ := C _ _ hu
      rw [ea] at ea'; injection ea' with ea'; injection ea' with e1 e2; subst e1; subst e2
      rw [Nat.add_assoc]; exact x
    exact ⟨b, o, a1, c1, ea, hb, hi, hp.kept (fun _ _ _ => rfl) fun b _ hl => hl, (at' 0 _ d0).trans e0.symm, (at' 1 _ d1).trans e1.symm, (at' 2 _ d2).trans e2.symm, (at' 3 _ d3).trans e3.symm, (at' 4 _ d4).trans e4.symm⟩
  rcases h1 with ⟨_, hown⟩ | ⟨_, ad, cap, e, g1, g2, _, _, hc⟩
  · have h0 := hown
    obtain ⟨hl, ⟨e, hz⟩ | ⟨g, cap, cur, e, hb, hh, g1, g2, _⟩⟩ := hown
    · injection e with e1 e2 e3
      refine ⟨by omega, by rw [e3]; exact Nat.zero_le _, key fun j u hu => ?_⟩
      rw [List.eq_nil_of_length_eq_zero (by rw [hl, hz]) (l := xs)] at hu; cases hu
    · injection e with e1 e2 e3
      refine ⟨by omega, by omega, key fun j u hu => ⟨g, 0, e1, (Array.getElem?_eq_some_iff.1 hh).1, ?_⟩⟩
      rw [e1] at h0
      rw [Nat.zero_add, h0.cellAt j (by rw [← hl]; exact (List.getElem?_eq_some_iff.1 hu).1), hu]
  · injection e with e1 e2 e3
    refine ⟨by omega, by omega, key fun j u hu => ?_⟩
    obtain ⟨b, o, e', hb, x⟩ := hc j u hu
    exact ⟨b, o, e1.trans e', by omega, x⟩
/-- One binding more, behind an append. -/
theorem Wk.bound {n₀ q : Nat} {S : WS} {bs : Bds} {left : Nat} {L : List (Tm × Tm)} {w w' W : World} {g cap : Nat} {xs : List Value} {v : Int} {t : Tm} {ad : Option Addr} {c : Nat} (h : Wk n₀ q true S bs left L w) (hb : Below w.heap.size w w') (hrow : BRow w (UFree q S) xs bs) (hi : In64 v) (ht : TmP w (UFree q S) t ad c)
    (ho : W.ownsRow n₀ 34 5 (.slice (some ⟨g, 0, none⟩) (bs.length + 1) cap) (bs.length + 1) (xs ++ bcellsP (v, t) ad c)) (hg : w'.grownBy W S.r) (hat : S.r = some g ∨ w'.heap.size ≤ g) :
    Wk n₀ q true { S with ab := some ⟨g, 0, none⟩, cb := cap, r := some g } (bs ++ [(v, t)]) left L (W.setCell ⟨q, 0, none⟩ (.slice (some ⟨g, 0, none⟩) (bs.length + 1) cap)) := by
  have hgq : g ≠ q := fun e => by
    rcases hat with h1 | h1
    · exact h.nr (e ▸ h1)
    · have := h.lt; have := hb.size; omega
  have kb : ∀ b, b ≠ q → some b ≠ S.r → b < w.heap.size → (W.setCell ⟨q, 0, none⟩ (.slice (some ⟨g, 0, none⟩) (bs.length + 1) cap)).heap[b]? = w.heap[b]? := fun b h1 h2 h3 => by
    rw [Below.heap_setCell _ _ _ _ (show b ≠ q from h1), hg.block b (by have := hb.size; omega) h2, hb.block b h3]
  have fr : ∀ b, UFree q S b → b < w.heap.size → UFree q { S with ab := some ⟨g, 0, none⟩, cb := cap, r := some g } b := fun b hf hl => ⟨hf.1, fun e => by
    injection e with e
    rcases hat with h1 | h1
    · exact hf.2.1 (by rw [h1, e])
    · have := hb.size; omega, hf.2.2⟩
  have hlt : g < W.heap.size := (ho.lt g rfl).2
  obtain ⟨ys, h3, h4⟩ := h.wts
  have hlen : (bs ++ [(v, t)]).length = bs.length + 1 := by simp
  have hblk : W.heap[q]? = some (.cells #[.slice S.ab bs.length S.cb, .int .i64 (left : Nat), .slice S.aw L.length S.cw] 51 (0, 0)) := by
    rw [hg.block q (by have := h.lt; have := hb.size; omega) (fun e => h.nr e.symm), hb.block q h.lt, h.blk]
  refine ⟨h.low, ?_, ⟨xs ++ bcellsP (v, t) ad c, .inl ⟨rfl, ?_⟩, ?_⟩, ⟨ys, ?_, h4.kept (fun b hf hl => kb b hf.1 hf.2.1 hl) fr⟩, h.ws, fun e => hgq (Option.some.inj e), h.ns, fun g' e => ?_⟩
  · rw [hlen]
    have := Lib.heap_setCell_same (i := 0) hblk (.slice (some ⟨g, 0, none⟩) (bs.length + 1) cap)
    simpa using this
  · rw [hlen]
    exact ownsRow_keptP ho fun b e hl => Below.heap_setCell _ _ _ _ (show b ≠ q from fun e' => hgq ((Option.some.inj e).trans e'))
  · exact (hrow.kept (fun b hf hl => kb b hf.1 hf.2.1 hl) fr).snoc hi (ht.kept (fun b hf hl => kb b hf.1 hf.2.1 hl) fr)
  · refine ownsRow_keptP h3 fun b e hl => kb b (fun e' => h.ns (h.ws.trans (e' ▸ e))) (fun e' => h.rs b e'.symm (h.ws.trans e)) hl
  · injection e with e
    subst e
    rcases hat with h1 | h1
    · exact h.rs g h1
    · exact fun e => by have := (h.slt g e).2; have := hb.size; omega
/-- One pair more, behind an append. -/
theorem Wk.waited {n₀ q : Nat} {full : Bool} {S : WS} {bs : Bds} {left : Nat} {L : List (Tm × Tm)} {w w' W : World} {g cap : Nat} {ys : List Value} {p : Tm × Tm} {a a' : Option Addr} {c c' : Nat} (h : Wk n₀ q full S bs left L w) (hb : Below w.heap.size w w') (hrow : PRow w (UFree q S) ys L.reverse) (h1 : TmP w (UFree q S) p.1 a c) (h2 : TmP w (UFree q S) p.2 a' c')
    (ho : W.ownsRow n₀ 61 8 (.slice (some ⟨g, 0, none⟩) (L.length + 1) cap) (L.length + 1) (ys ++ pcells p a c a' c')) (hg : w'.grownBy W S.s) (hat : S.s = some g ∨ w'.heap.size ≤ g) :
    Wk n₀ q full { S with aw := some ⟨g, 0, none⟩, cw := cap, s := some g } bs left (p :: L) (W.setCell ⟨q, 2, none⟩ (.slice (some ⟨g, 0, none⟩) (L.length + 1) cap)) ∧ ∀ b, UFree q S b → b < w.heap.size → (W.setCell ⟨q, 2, none⟩ (.slice (some ⟨g, 0, none⟩) (L.length + 1) cap)).heap[b]? = w.heap[b]? ∧ UFree q { S with aw := some ⟨g, 0, none⟩, cw := cap, s := some g } b := by
  have hgq : g ≠ q := fun e => by
    rcases hat with h1 | h1
    · exact h.ns (e ▸ h1)
    · have := h.lt; have := hb.size; omega
  have kb : ∀ b, b ≠ q → some b ≠ S.s → b < w.heap.size → (W.setCell ⟨q, 2, none⟩ (.slice (some ⟨g, 0, none⟩) (L.length + 1) cap)).heap[b]? = w.heap[b]? := fun b h1 h2 h3 => by
    rw [Below.heap_setCell _ _ _ _ (show b ≠ q from h1), hg.block b (by have := hb.size; omega) h2, hb.block b h3]
  have fr : ∀ b, UFree q S b → b < w.heap.size → UFree q { S with aw := some ⟨g, 0, none⟩, cw := cap, s := some g } b := fun b hf hl => ⟨hf.1, hf.2.1, fun e => by
    injection e with e
    rcases hat with h1 | h1
    · exact hf.2.2 (by rw [h1, e])
    · have := hb.size; omega⟩
  obtain ⟨xs, h3, h4⟩ := h.bds
  have hlow := h.low
  have hblk : W.heap[q]? = some (.cells #[.slice S.ab bs.length S.cb, .int .i64 (left : Nat), .slice S.aw L.length S.cw] 51 (0, 0)) := by
    rw [hg.block q (by have := h.lt; have := hb.size; omega) (fun e => h.ns e.symm), hb.block q h.lt, h.blk]
  refine ⟨⟨h.low, ?_, ⟨xs, h3.keptB fun b hb hl => ?_, h4.kept (fun b hf hl => kb b hf.1 hf.2.2 hl) fr⟩, ⟨ys ++ pcells p a c a' c', ?_, ?_⟩, rfl, h.nr, fun e => hgq (Option.some.inj e), fun g' e => ?_⟩, fun b hf hl => ⟨kb b hf.1 hf.2.2 hl, fr b hf hl⟩⟩
  · have := Lib.heap_setCell_same (i := 2) hblk (.slice (some ⟨g, 0, none⟩) (L.length + 1) cap)
    simpa using this
  · refine kb b (fun e => ?_) (fun e => ?_) hl
    · exact hb.elim (fun h' => by omega) (fun h' => h.nr (e ▸ h'))
    · exact hb.elim (fun h' => by have := (h.slt b e.symm).1; omega) (fun h' => h.rs b h' e.symm)
  · exact ownsRow_keptP ho fun b e hl => Below.heap_setCell _ _ _ _ (show b ≠ q from fun e' => hgq ((Option.some.inj e).trans e'))
  · rw [List.reverse_cons]
    exact (hrow.kept (fun b hf hl => kb b hf.1 hf.2.2 hl) fr).snoc (h1.kept (fun b hf hl => kb b hf.1 hf.2.2 hl) fr) (h2.kept (fun b hf hl => kb b hf.1 hf.2.2 hl) fr)
  · show some g ≠ some g'
    intro e'
    injection e' with e'
    subst e'
    rcases hat with h1 | h1
    · exact h.rs g e h1
    · have := (h.rlt g e).2; have := hb.size; omega
/-- The next pair taken. -/
theorem Wk.taken {n₀ q : Nat} {full : Bool} {S : WS} {bs : Bds} {left : Nat} {L : List (Tm × Tm)} {p : Tm × Tm} {w w' : World} (h : Wk n₀ q full S bs left (p :: L) w) (hb : Below w.heap.size w w') : Wk n₀ q full S bs left L (w'.setCell ⟨q, 2, none⟩ (.slice S.aw L.length S.cw)) := by
  have h := h.on hb
  obtain ⟨xs, h1, h2⟩ := h.bds
  obtain ⟨ys, h3, h4⟩ := h.wts
  rw [List.reverse_cons] at h4
  obtain ⟨zs, a, c, a', c', rfl, h5, _⟩ := h4.pop
  have hlow := h.low
  have k : ∀ b, b ≠ q → (w'.setCell ⟨q, 2, none⟩ (.slice S.aw L.length S.cw)).heap[b]? = w'.heap[b]? := fun b hne => Below.heap_setCell _ _ _ _ (show b ≠ q from hne)
  obtain ⟨g, cap, e, hbg, hgl, hnc, hcm⟩ := ownsRow_formU h3
  have e' : S.aw = some ⟨g, 0, none⟩ := by injection e
  have hpop := Go.ownsRow_pop (show zs.length = L.length * 8 by rw [h5.1, List.length_reverse]) (e' ▸ h3)
  have hws := h.ws
  refine ⟨h.low, ?_, ⟨xs, h1.keptB fun b hb hl => k b fun e => hb.elim (fun h' => by omega) (fun h' => h.nr (e ▸ h')), h2.kept (fun b hp hl => k b hp.1) fun _ h _ => h⟩,
    ⟨zs, ownsRow_keptP (e'.symm ▸ hpop) fun b hb hl => k b fun e0 => h.ns ?_, h5.kept (fun b hp hl => k b hp.1) fun _ h _ => h⟩, ?_, h.nr, h.ns, h.rs⟩
  · have := Lib.heap_setCell_same (i := 2) h.blk (.slice S.aw L.length S.cw)
    simpa using this
  · rw [hws, ← e0, ← hb]
    cases S.aw <;> rfl
  · rw [hws]
    cases S.aw <;> rfl
/-- The next pair's cells. -/
theorem Wk.head {n₀ q : Nat} {full : Bool} {S : WS} {bs : Bds} {left : Nat} {L : List (Tm × Tm)} {p : Tm × Tm} {w : World} (h : Wk n₀ q full S bs left (p :: L) w) : ∃ g a c a' c', S.aw = some ⟨g, 0, none⟩ ∧ g < w.heap.size ∧ g ≠ q ∧ L.length + 1 ≤ S.cw ∧ S.cw ≤ maxLen ∧ TmP w (UFree q S) p.1 a c ∧ TmP w (UFree q S) p.2 a' c' ∧ ∀ j, j < 8 → w.cell? ⟨g, L.length * 8 + j, none⟩ = (pcells p a c a' c')[j]? := by
  obtain ⟨ys, h3, h4⟩ := h.wts
  rw [List.reverse_cons] at h4
  obtain ⟨zs, a, c, a', c', rfl, h5, h6, h7⟩ := h4.pop
  obtain ⟨g, cap, e, hbg, hgl, hnc, hcm⟩ := ownsRow_formU h3
  have e' : S.aw = some ⟨g, 0, none⟩ := by injection e
  have e2 : S.cw = cap := by injection e
  have hzl : zs.length = L.length * 8 := by rw [h5.1, List.length_reverse]
  refine ⟨g, a, c, a', c', e', hgl, fun e0 => h.ns (by rw [h.ws, e', e0]; rfl), by omega, by omega, h6, h7, fun j hj => ?_⟩
  have hc := (e' ▸ h3 : w.ownsRow n₀ 61 8 (.slice (some ⟨g, 0, none⟩) (L.length + 1) S.cw) (L.length + 1) (zs ++ pcells p a c a' c')).cellAt (L.length * 8 + j) (by omega)
  rw [hc, List.getElem?_append_right (by omega), hzl, Nat.add_sub_cancel_left]
end Go.Proofs.Ytlpmofmhcnclhaa

/-
  The contracts of package unify's begin, waits, isVar, alike, meet.
-/
namespace Go.Proofs.Ytlpmofmhcnclhaa
open Go.RowKit

/-- A term laid into the result's own block, of new blocks alone. -/
theorem laid_resultU {w w0 w2 : World} {B q : Nat} {R : Tm} {ad : Option Addr} {cap : Nat} (hp : TmP w2 (fun b => B ≤ b) R ad cap) (h0 : Below w.heap.size w w0) (hb : Below w0.heap.size w0 w2) (hB : q < B) (hq : w.heap.size ≤ q) (x y z u : Value) :
    TmP ((((w2.setCell ⟨q, 0, none⟩ x).setCell ⟨q, 1, none⟩ y).setCell ⟨q, 2, none⟩ z).setCell ⟨q, 3, none⟩ u) (fun b => w.heap.size ≤ b) R ad cap ∧ Below w.heap.size w ((((w2.setCell ⟨q, 0, none⟩ x).setCell ⟨q, 1, none⟩ y).setCell ⟨q, 2, none⟩ z).setCell ⟨q, 3, none⟩ u) :=
  ⟨hp.kept (fun b hb _ => set4_oth (W := w2) (q := q) x y z u (by omega)) fun b _ _ => by omega, set4_low (h0.trans (hb.mono h0.size)) hq⟩

set_option maxRecDepth 100000 in
set_option maxHeartbeats 4000000 in
theorem sb_LookU (bs : List (Int × Tm)) (v : Int) (ab : Option Addr) (cb : Nat) (w : World) (hlen : bs.length ≤ 1000000) (hsz : ∀ b ∈ bs, b.2.size ≤ 1000000) (h : BdsAt w (fun b => b < w.heap.size) ab bs) :
    Calls Try.prog 40 #[.slice ab bs.length cb, .int .i64 v] w fun e w' => ∃ a2 c2, e = .returned (.tuple #[tmv ((lookL bs v).getD zeroT) a2 c2, .bool (lookL bs v).isSome]) ∧ TmP w' (fun b => w.heap.size ≤ b) ((lookL bs v).getD zeroT) a2 c2 ∧ Below w.heap.size w w' := by
  have hXs := lookK_size hsz v
  have HLK := Lib.hid (fun W (hb : Below w.heap.size w W) => dv_look bs v ab cb W (fun b => b < w.heap.size) (fun b hb' => Nat.lt_of_lt_of_le hb' hb.size) hlen (h.kept (fun b hb' _ => hb.block b hb') fun _ h _ => h))
  have HC := Lib.hid (fun a c W (hin : TmIn W ((lookL bs v).getD zeroT) a c) => term_Copy ((lookL bs v).getD zeroT) a c W hXs hin)
  clear h hXs hsz
  generalize (lookL bs v).getD zeroT = X at *
  generalize (lookL bs v).isSome = f at *
  unfold MadeTerm tmv at *
  have hb0 := (Below.refl w.heap.size w).alloc (Nat.le_refl _) (.cells #[.int .i64 0, .string ⟨#[]⟩, .int .i64 0, .slice none 0 0] 25)
  have hq0 := alloc_new w (.cells #[.int .i64 0, .string ⟨#[]⟩, .int .i64 0, .slice none 0 0] 25)
  have HB0 := Lib.hid hb0
  have HQ0 := Lib.hid hq0
  clear hb0 hq0
  go_enter Try.func40, Try.ntmps40
  go_wp2_with fail
  have hz := (Array.getElem?_eq_some_iff.1 HQ0.out).1
  generalize w.alloc _ = w0 at *
  refine (HLK.out _ HB0.out).mono ?_; rintro e w1 ⟨a2, c2, rfl, hx, hb1⟩
  have HX1 := Lib.hid hx.toIn
  have HB1 := Lib.hid hb1
  have hs1 := hb1.size
  have HBA := Lib.hid ((Below.refl _ w1).alloc (Nat.le_refl _) (.cells #[.int .i64 X.kind, .string X.name, .int .i64 X.n, .slice a2 X.args.length c2] 25))
  clear hx hb1
  go_wp2_with fail
  refine (HC.out a2 c2 _ (HX1.out.on HBA.out)).mono ?_; rintro e w2 ⟨a3, c3, rfl, hp, hb2⟩
  have HB2 := Lib.hid (HB1.out.trans ((HBA.out.trans (hb2.mono HBA.out.size)).mono hs1))
  have hq2 := keptR9 HB2.out HQ0.out
  have HR := Lib.hid (laid_resultU hp HB0.out HB2.out (by simp; omega) (Nat.le_refl _) (.int .i64 X.kind) (.string X.name) (.int .i64 X.n) (.slice a3 X.args.length c3))
  have G4 := Lib.hid (set4_blk hq2 (.int .i64 X.kind) (.string X.name) (.int .i64 X.n) (.slice a3 X.args.length c3))
  obtain ⟨z0, z1, z2, z3, e0, e1, e2, e3⟩ := cellsT hq2
  clear hp hb2 hq2
  go_wp2_with fail
  obtain ⟨y0, y1, y2, y3, _⟩ := cellsT G4.out
  refine bodyPost_ret (v := .tuple #[tmv X a3 c3, .bool f]) (by simp [results, Try.results40, go_sem, tmv, y0, y1, y2, y3]) rfl ?_
  exact ⟨a3, c3, rfl, HR.out.1, HR.out.2⟩

theorem cells3U {w : World} {q : Nat} {a b c : Value} {t : TypeId} (h : w.heap[q]? = some (.cells #[a, b, c] t (0, 0))) : w.cell? ⟨q, 0, none⟩ = some a ∧ w.cell? ⟨q, 1, none⟩ = some b ∧ w.cell? ⟨q, 2, none⟩ = some c ∧ w.frozen? ⟨q, 0, none⟩ = false ∧ w.frozen? ⟨q, 1, none⟩ = false ∧ w.frozen? ⟨q, 2, none⟩ = false := by
  simp [World.cell?, World.frozen?, h]
/-- The call's first world: four blocks of its own, the last one is the work. -/
theorem wk_first (full : Bool) (bs : Bds) (ab : Option Addr) (cb : Nat) (x y : Tm) (ax : Option Addr) (cx : Nat) (ay : Option Addr) (cy : Nat) (w : World) (hl : bs.length ≤ cb) (hc : cb ≤ maxLen) (hfull : full = true → cb = bs.length) (hb : BdsAt w (fun b => b < w.heap.size) ab bs) (hx : TmIn w x ax cx) (hy : TmIn w y ay cy) (o1 o2 : Obj) (W : World)
    (hW : W = ((((w.alloc o1).alloc o2).alloc (.cells #[.int .i64 x.kind, .string x.name, .int .i64 x.n, .slice ax x.args.length cx, .int .i64 y.kind, .string y.name, .int .i64 y.n, .slice ay y.args.length cy] 61)).alloc (.cells #[.slice ab bs.length cb, .int .i64 2000, .slice (some ⟨w.heap.size + 2, 0, none⟩) 1 1] 51))) :
    Wk w.heap.size (w.heap.size + 3) full ⟨ab, cb, none, some ⟨w.heap.size + 2, 0, none⟩, 1, some (w.heap.size + 2)⟩ bs 2000 [(x, y)] W ∧ Below w.heap.size w W := by
  have hbl : Below w.heap.size w W := by rw [hW]; exact ((((Below.refl _ w).alloc (Nat.le_refl _) o1).alloc (by simp) o2).alloc (by simp <;> omega) _).alloc (by simp <;> omega) _
  have fr : ∀ b, b < w.heap.size → UFree (w.heap.size + 3) ⟨ab, cb, none, some ⟨w.heap.size + 2, 0, none⟩, 1, some (w.heap.size + 2)⟩ b := fun b h => ⟨by omega, nofun, fun e => by have := Option.some.inj e; omega⟩
  have hrow := World.ownsRow_lit (base := w.heap.size) (e := 61) (size := 8) ((w.alloc o1).alloc o2) #[.int .i64 x.kind, .string x.name, .int .i64 x.n, .slice ax x.args.length cx, .int .i64 y.kind, .string y.name, .int .i64 y.n, .slice ay y.args.length cy] 1 (by simp <;> omega) (by decide) rfl
  have hs2 : ((w.alloc o1).alloc o2).heap.size = w.heap.size + 2 := by simp
  rw [hs2] at hrow
  refine ⟨⟨Nat.le_add_right _ _, ?_, ?_, ⟨[] ++ pcells (x, y) ax cx ay cy, ?_, ?_⟩, rfl, nofun, fun e => by have := Option.some.inj e; omega, fun _ e => by cases e⟩, hbl⟩
  · have h := alloc_new (((w.alloc o1).alloc o2).alloc (.cells #[.int .i64 x.kind, .string x.name, .int .i64 x.n, .slice ax x.args.length cx, .int .i64 y.kind, .string y.name, .int .i64 y.n, .slice ay y.args.length cy] 61)) (.cells #[.slice ab bs.length cb, .int .i64 2000, .slice (some ⟨w.heap.size + 2, 0, none⟩) 1 1] 51)
    rw [World.size_alloc, hs2, ← hW] at h
    exact h
  · obtain ⟨xs, h1, h2, _⟩ := brow_of hb bs.length (Nat.le_refl _)
    rw [List.take_length] at h1
    refine ⟨xs, .inr ⟨rfl, ab, cb, rfl, hl, hc, hfull, h1.1, fun j u hu => ?_⟩, h1.kept (fun b hb' _ => hbl.block b hb') fun b hb' _ => fr b hb'⟩
    obtain ⟨g, o, e, hcell⟩ := h2 j u hu
    have hgl := World.block_lt_of_cell? w ⟨g, o + j, none⟩ hcell
    exact ⟨g, o, e, hgl, (hbl.cell (p := ⟨g, o + j, none⟩) hgl).trans hcell⟩
  · rw [hW]
    exact ownsRow_keptP hrow fun b _ hl => Below.heap_alloc _ _ _ hl
  · have h1 := (hx.inP.kept (Q := UFree (w.heap.size + 3) ⟨ab, cb, none, some ⟨w.heap.size + 2, 0, none⟩, 1, some (w.heap.size + 2)⟩) (fun b hb' _ => hbl.block b hb') fun b hb' _ => fr b hb')
    have h2 := (hy.inP.kept (Q := UFree (w.heap.size + 3) ⟨ab, cb, none, some ⟨w.heap.size + 2, 0, none⟩, 1, some (w.heap.size + 2)⟩) (fun b hb' _ => hbl.block b hb') fun b hb' _ => fr b hb')
    exact PRow.nil.snoc (p := (x, y)) h1 h2

set_option maxRecDepth 100000 in
set_option maxHeartbeats 4000000 in
theorem um_begin (full : Bool) (bs : Bds) (ab : Option Addr) (cb : Nat) (x y : Tm) (ax : Option Addr) (cx : Nat) (ay : Option Addr) (cy : Nat) (w : World) (hl : bs.length ≤ cb) (hc : cb ≤ maxLen) (hfull : full = true → cb = bs.length) (hb : BdsAt w (fun b => b < w.heap.size) ab bs) (hx : TmIn w x ax cx) (hy : TmIn w y ay cy) :
    Calls Try.prog 17 #[.slice ab bs.length cb, tmv x ax cx, tmv y ay cy] w fun e w' => ∃ q S, e = .returned (.pointer (some ⟨q, 0, none⟩)) ∧ Wk w.heap.size q full S bs 2000 [(x, y)] w' ∧ Below w.heap.size w w' := by
  have HF := Lib.hid (wk_first full bs ab cb x y ax cx ay cy w hl hc hfull hb hx hy (.cells #[.int .i64 x.kind, .string x.name, .int .i64 x.n, .slice ax x.args.length cx] 25) (.cells #[.int .i64 y.kind, .string y.name, .int .i64 y.n, .slice ay y.args.length cy] 25) _ rfl)
  clear hb hx hy hl hc hfull
  unfold tmv
  go_enter Try.func17, Try.ntmps17
  go_wp2_with fail
  go_ret
  exact ⟨_, _, rfl, HF.out.1, HF.out.2⟩

set_option maxRecDepth 100000 in
set_option maxHeartbeats 2000000 in
theorem um_waits {n₀ q : Nat} {full : Bool} {S : WS} {bs : Bds} {left : Nat} {L : List (Tm × Tm)} (w : World) (h : Wk n₀ q full S bs left L w) :
    Calls Try.prog 18 #[.pointer (some ⟨q, 0, none⟩)] w fun e w' => e = .returned (.bool (decide (0 < L.length))) ∧ w = w' := by
  obtain ⟨c0, c1, c2, _⟩ := cells3U h.blk
  clear h c0 c1
  go_enter Try.func18, Try.ntmps18
  go_wp2_with fail
  go_ret
  exact ⟨by simp, rfl⟩

set_option maxHeartbeats 2000000 in
theorem um_isVar (t : Tm) (ad : Option Addr) (cap : Nat) (w : World) :
    Calls Try.prog 29 #[tmv t ad cap] w fun e w' => e = .returned (.bool (t.kind == 1)) ∧ Below w.heap.size w w' := by
  have HB := Lib.hid ((Below.refl w.heap.size w).alloc (Nat.le_refl _) (.cells #[.int .i64 t.kind, .string t.name, .int .i64 t.n, .slice ad t.args.length cap] 25))
  unfold tmv
  go_enter Try.func29, Try.ntmps29
  go_wp2_with fail
  go_ret
  exact ⟨rfl, HB.out⟩
end Go.Proofs.Ytlpmofmhcnclhaa

/-
  The contract of package unify's own meet.
-/
namespace Go.Proofs.Ytlpmofmhcnclhaa
open Go.RowKit

theorem meetL_step {bs : Bds} {n : Nat} {t x : Tm} (hn : n < 2000) (hk : t.kind = 1) (hl : lookL bs t.n = some x) : meetL bs n t = meetL bs (n + 1) x := by
  unfold meetL
  rw [if_pos hn]
  by_cases h : n + 1 < 2000
  · rw [if_pos h, walk_step h hk hl]
  · obtain rfl : n = 1999 := by omega
    rw [if_neg h, walk_over hk hl]
theorem meetL_over (bs : Bds) (t : Tm) : meetL bs 2000 t = (zeroT, 140, 2001) := if_neg (by decide)
/-- How many steps are left. -/
def wkOf (w : World) (q : Nat) : Nat := match w.cell? ⟨q, 1, none⟩ with | some (.int _ n) => n.toNat | _ => 0
theorem wkOf_at {n₀ q : Nat} {full : Bool} {S : WS} {bs : Bds} {left : Nat} {L : List (Tm × Tm)} {w : World} (h : Wk n₀ q full S bs left L w) : wkOf w q = left := by
  unfold wkOf
  rw [(cells3U h.blk).2.1]
  exact Int.toNat_natCast left
/-- Where a term may lie that is met. -/
def MFree (P : Nat → Prop) (B b : Nat) : Prop := (P b ∧ b < B) ∨ B + 2 ≤ b
/-- What meeting a term leaves. -/
def MetO (P : Nat → Prop) (n₀ q : Nat) (full : Bool) (S : WS) (bs : Bds) (L : List (Tm × Tm)) (w : World) (r : Tm × Int × Nat) (e : Ending) (w' : World) : Prop :=
  ∃ a2 c2, e = .returned (.tuple #[tmv r.1 a2 c2, .int .i64 r.2.1]) ∧ TmP w' (fun b => (P b ∧ b < w.heap.size) ∨ w.heap.size ≤ b) r.1 a2 c2 ∧ Wk n₀ q full S bs (2000 - r.2.2) L w' ∧ Turn (fun j => j = q) w w'
/-- The work's cells. -/
def wkC (S : WS) (bs : Bds) (left : Nat) (L : List (Tm × Tm)) : Obj := .cells #[.slice S.ab bs.length S.cb, .int .i64 (left : Nat), .slice S.aw L.length S.cw] 51 (0, 0)
/-- Within meet: the term's own box, the work, what is still to do. -/
structure MtI (P : Nat → Prop) (q : Nat) (S : WS) (bs : Bds) (L : List (Tm × Tm)) (w : World) (r : Tm × Int × Nat) (n : Nat) (t : Tm) (W : World) : Prop where
  le : n ≤ 2000
  ans : meetL bs n t = r
  wk : W.heap[q]? = some (wkC S bs (2000 - n) L)
  box : ∃ ad cap, W.heap[w.heap.size]? = some (.cells #[.int .i64 t.kind, .string t.name, .int .i64 t.n, .slice ad t.args.length cap] 25 (0, 0)) ∧ TmP W (MFree P w.heap.size) t ad cap
  res : W.heap[w.heap.size + 1]? = some (.cells #[.int .i64 0, .string ⟨#[]⟩, .int .i64 0, .slice none 0 0] 25 (0, 0))
  turn : Turn (fun j => j = q ∨ w.heap.size ≤ j) w W
theorem MtI.start {P : Nat → Prop} {n₀ q n : Nat} {full : Bool} {S : WS} {bs : Bds} {L : List (Tm × Tm)} {w : World} {t : Tm} {ad : Option Addr} {cap : Nat} (h : Wk n₀ q full S bs (2000 - n) L w) (hn : n ≤ 2000) (ht : TmP w P t ad cap) :
    MtI P q S bs L w (meetL bs n t) n t ((w.alloc (.cells #[.int .i64 t.kind, .string t.name, .int .i64 t.n, .slice ad t.args.length cap] 25)).alloc (.cells #[.int .i64 0, .string ⟨#[]⟩, .int .i64 0, .slice none 0 0] 25)) := by
  have hb : ∀ o1 o2 : Obj, Below w.heap.size w ((w.alloc o1).alloc o2) := fun o1 o2 => ((Below.refl _ w).alloc (Nat.le_refl _) o1).alloc (by simp) o2
  exact ⟨hn, rfl, keptR9 (hb _ _) h.blk, ⟨ad, cap, (Below.heap_alloc (w.alloc _) _ _ (by simp)).trans (alloc_new w _), ht.kept (fun b _ hl => (hb _ _).block b hl) fun b hf hl => .inl ⟨hf, hl⟩⟩, alloc_new2 w _ _, ⟨(hb _ _).os, (hb _ _).tape, (hb _ _).output, (hb _ _).size, fun k hk _ => (hb _ _).block k hk⟩⟩
theorem turn_on {M : Nat → Prop} {w W W' : World} (h : Turn M w W) (hb : Below W.heap.size W W') : Turn M w W' := ⟨hb.os.trans h.os, hb.tape.trans h.tape, hb.output.trans h.output, Nat.le_trans h.size hb.size, fun k hk hn => (hb.block k (Nat.lt_of_lt_of_le hk h.size)).trans (h.block k hk hn)⟩
/-- One step counted. -/
structure MtS (P : Nat → Prop) (q : Nat) (S : WS) (bs : Bds) (L : List (Tm × Tm)) (w : World) (n : Nat) (t : Tm) (ad : Option Addr) (cap : Nat) (W : World) : Prop where
  wk : W.heap[q]? = some (wkC S bs (1999 - n) L)
  box : W.heap[w.heap.size]? = some (.cells #[.int .i64 t.kind, .string t.name, .int .i64 t.n, .slice ad t.args.length cap] 25 (0, 0))
  tm : TmP W (MFree P w.heap.size) t ad cap
  res : W.heap[w.heap.size + 1]? = some (.cells #[.int .i64 0, .string ⟨#[]⟩, .int .i64 0, .slice none 0 0] 25 (0, 0))
  turn : Turn (fun j => j = q ∨ w.heap.size ≤ j) w W
theorem MtS.on {P : Nat → Prop} {q n : Nat} {S : WS} {bs : Bds} {L : List (Tm × Tm)} {w : World} {t : Tm} {ad : Option Addr} {cap : Nat} {W W' : World} (h : MtS P q S bs L w n t ad cap W) (hb : Below W.heap.size W W') : MtS P q S bs L w n t ad cap W' :=
  ⟨keptR9 hb h.wk, keptR9 hb h.box, h.tm.onS hb, keptR9 hb h.res, turn_on h.turn hb⟩
theorem MtS.wk' {P : Nat → Prop} {q n : Nat} {S : WS} {bs : Bds} {L : List (Tm × Tm)} {w : World} {t : Tm} {ad : Option Addr} {cap : Nat} {W : World} (h : MtS P q S bs L w n t ad cap W) : W.heap[q]? = some (wkC S bs (2000 - (n + 1)) L) := by
  rw [show 2000 - (n + 1) = 1999 - n by omega]; exact h.wk
theorem MtI.spend {P : Nat → Prop} {q n : Nat} {S : WS} {bs : Bds} {L : List (Tm × Tm)} {w : World} {r : Tm × Int × Nat} {t : Tm} {ad : Option Addr} {cap : Nat} {W : World} (h : MtI P q S bs L w r n t W) (hq : q < w.heap.size) (hP : ∀ b, P b → b ≠ q) (h1 : W.heap[w.heap.size]? = some (.cells #[.int .i64 t.kind, .string t.name, .int .i64 t.n, .slice ad t.args.length cap] 25 (0, 0))) (h2 : TmP W (MFree P w.heap.size) t ad cap) :
    MtS P q S bs L w n t ad cap (W.setCell ⟨q, 1, none⟩ (.int .i64 ((1999 - n : Nat) : Int))) := by
  have k : Turn (fun j => j = q) W (W.setCell ⟨q, 1, none⟩ (.int .i64 ((1999 - n : Nat) : Int))) := Turn.set (fun j => j = q) W (p := ⟨q, 1, none⟩) rfl _
  have l1 := (Array.getElem?_eq_some_iff.1 h1).1
  have l2 := (Array.getElem?_eq_some_iff.1 h.res).1
  exact ⟨by have := Lib.heap_setCell_same (i := 1) h.wk (.int .i64 ((1999 - n : Nat) : Int)); simpa [wkC] using this, (k.block _ l1 (by omega)).trans h1, h2.turnS k fun b hb e => hb.elim (fun h => hP b h.1 e) fun h => by omega, (k.block _ l2 (by omega)).trans h.res, h.turn.trans (k.more fun j e => .inl e)⟩
theorem met_end {P : Nat → Prop} {n₀ q n n1 : Nat} {er : Int} {full : Bool} {S : WS} {bs : Bds} {L : List (Tm × Tm)} {w : World} {t : Tm} {ad : Option Addr} {cap : Nat} {W : World} (h0 : Wk n₀ q full S bs (2000 - n) L w) (hq : W.heap[q]? = some (wkC S bs (2000 - n1) L)) (ht : Turn (fun j => j = q ∨ w.heap.size ≤ j) w W) (hp : TmP W (MFree P w.heap.size) t ad cap) (hres : ∃ C, W.heap[w.heap.size + 1]? = some (.cells #[C, .string ⟨#[]⟩, .int .i64 0, .slice none 0 0] 25 (0, 0))) :
    MetO P n₀ q full S bs L w (t, er, n1) (.returned (.tuple #[tmv t ad cap, .int .i64 er])) ((((W.setCell ⟨w.heap.size + 1, 0, none⟩ (.int .i64 t.kind)).setCell ⟨w.heap.size + 1, 1, none⟩ (.string t.name)).setCell ⟨w.heap.size + 1, 2, none⟩ (.int .i64 t.n)).setCell ⟨w.heap.size + 1, 3, none⟩ (.slice ad t.args.length cap)) ∧
    ((((W.setCell ⟨w.heap.size + 1, 0, none⟩ (.int .i64 t.kind)).setCell ⟨w.heap.size + 1, 1, none⟩ (.string t.name)).setCell ⟨w.heap.size + 1, 2, none⟩ (.int .i64 t.n)).setCell ⟨w.heap.size + 1, 3, none⟩ (.slice ad t.args.length cap)).heap[w.heap.size + 1]? = some (.cells #[.int .i64 t.kind, .string t.name, .int .i64 t.n, .slice ad t.args.length cap] 25 (0, 0)) := by
  have hlt := h0.lt
  have k := Turn.set4 (M := fun j => j = w.heap.size + 1) (W := W) (q := w.heap.size + 1) rfl (.int .i64 t.kind) (.string t.name) (.int .i64 t.n) (.slice ad t.args.length cap)
  obtain ⟨C, hres⟩ := hres
  have hs := ht.size
  have kt := ht.trans (k.more (M' := fun j => j = q ∨ w.heap.size ≤ j) fun j e => .inr (by omega))
  exact ⟨⟨ad, cap, rfl, hp.kept (fun b hb hl => k.block b hl (hb.elim (fun h => by omega) fun h => by omega)) fun b hb _ => hb.imp id fun h => by omega, h0.left _ kt ((k.block q (by omega) (by omega)).trans hq), ⟨kt.os, kt.tape, kt.output, kt.size, fun j hj hne => kt.block j hj (by omega)⟩⟩, set4_blk hres _ _ _ _⟩
theorem met_err {P : Nat → Prop} {n₀ q n n1 : Nat} {er : Int} {full : Bool} {S : WS} {bs : Bds} {L : List (Tm × Tm)} {w : World} {W : World} (h0 : Wk n₀ q full S bs (2000 - n) L w) (hq : W.heap[q]? = some (wkC S bs (2000 - n1) L)) (ht : Turn (fun j => j = q ∨ w.heap.size ≤ j) w W) (hres : ∃ C, W.heap[w.heap.size + 1]? = some (.cells #[C, .string ⟨#[]⟩, .int .i64 0, .slice none 0 0] 25 (0, 0))) :
    MetO P n₀ q full S bs L w (zeroT, er, n1) (.returned (.tuple #[.agg #[.int .i64 0, .string ⟨#[]⟩, .int .i64 0, .slice none 0 0], .int .i64 er])) ((((W.setCell ⟨w.heap.size + 1, 0, none⟩ (.int .i64 0)).setCell ⟨w.heap.size + 1, 1, none⟩ (.string ⟨#[]⟩)).setCell ⟨w.heap.size + 1, 2, none⟩ (.int .i64 0)).setCell ⟨w.heap.size + 1, 3, none⟩ (.slice none 0 0)) ∧
    ((((W.setCell ⟨w.heap.size + 1, 0, none⟩ (.int .i64 0)).setCell ⟨w.heap.size + 1, 1, none⟩ (.string ⟨#[]⟩)).setCell ⟨w.heap.size + 1, 2, none⟩ (.int .i64 0)).setCell ⟨w.heap.size + 1, 3, none⟩ (.slice none 0 0)).heap[w.heap.size + 1]? = some (.cells #[.int .i64 0, .string ⟨#[]⟩, .int .i64 0, .slice none 0 0] 25 (0, 0)) :=
  met_end (t := zeroT) (ad := none) (cap := 0) h0 hq ht zero_tmS hres
/-- One binding followed. -/
theorem MtS.step {P : Nat → Prop} {n₀ q n n9 : Nat} {full : Bool} {S : WS} {bs : Bds} {L : List (Tm × Tm)} {w : World} {r : Tm × Int × Nat} {t x : Tm} {ad xa : Option Addr} {cap xc : Nat} {W : World} (h0 : Wk n₀ q full S bs (2000 - n9) L w) (h : MtS P q S bs L w n t ad cap W) (hn : n < 2000) (hr : meetL bs n t = r) (hk : t.kind = 1) (hl : lookL bs t.n = some x) (hx : TmP W (MFree P w.heap.size) x xa xc) :
    MtI P q S bs L w r (n + 1) x ((((W.setCell ⟨w.heap.size, 0, none⟩ (.int .i64 x.kind)).setCell ⟨w.heap.size, 1, none⟩ (.string x.name)).setCell ⟨w.heap.size, 2, none⟩ (.int .i64 x.n)).setCell ⟨w.heap.size, 3, none⟩ (.slice xa x.args.length xc)) := by
  have hlt := h0.lt
  have k := Turn.set4 (M := fun j => j = w.heap.size) (W := W) (q := w.heap.size) rfl (.int .i64 x.kind) (.string x.name) (.int .i64 x.n) (.slice xa x.args.length xc)
  have l2 := (Array.getElem?_eq_some_iff.1 h.res).1
  have hs := h.turn.size
  exact ⟨hn, (meetL_step hn hk hl).symm.trans hr, by rw [show 2000 - (n + 1) = 1999 - n by omega]; exact (k.block q (by omega) (by omega)).trans h.wk, ⟨xa, xc, set4_blk h.box _ _ _ _, hx.kept (fun b hb hl => k.block b hl (hb.elim (fun h => by omega) fun h => by omega)) fun _ h _ => h⟩, (k.block _ l2 (by omega)).trans h.res, h.turn.trans (k.more fun j e => .inr (by omega))⟩

theorem wkOf_wk {q : Nat} {S : WS} {bs : Bds} {left : Nat} {L : List (Tm × Tm)} {w : World} (h : w.heap[q]? = some (wkC S bs left L)) : wkOf w q = left := by
  unfold wkOf
  rw [(cells3U h).2.1]
  exact Int.toNat_natCast left
/-- A looked-up term's box, made behind the call or ahead of it. -/
theorem lk_way1 {w2 w3 : World} {n₂ : Nat} {X : Tm} {xa : Option Addr} {xc : Nat} (b3 : Below w2.heap.size w2 w3) (hx : TmP w3 (fun b => n₂ ≤ b) X xa xc) (h : w2.heap.size ≤ n₂) {o : Obj} : Below w2.heap.size w2 (w3.alloc o) ∧ (w3.alloc o).heap[w3.heap.size]? = some o ∧ TmP (w3.alloc o) (fun b => w2.heap.size ≤ b) X xa xc :=
  ⟨b3.alloc b3.size _, alloc_new w3 _, hx.kept (fun _ _ hl => Below.heap_alloc _ _ _ hl) fun _ hb _ => Nat.le_trans h hb⟩
theorem lk_way2 {w2 w3 : World} {n₂ : Nat} {X : Tm} {xa : Option Addr} {xc : Nat} (b3 : Below w2.heap.size w2 w3) {a b c d : Value} {t : TypeId} (g3 : w3.heap[w2.heap.size]? = some (.cells #[a, b, c, d] t (0, 0))) (hx : TmP w3 (fun b => n₂ ≤ b) X xa xc) (h : w2.heap.size + 1 ≤ n₂) {x y z u : Value} :
    Below w2.heap.size w2 ((((w3.setCell ⟨w2.heap.size, 0, none⟩ x).setCell ⟨w2.heap.size, 1, none⟩ y).setCell ⟨w2.heap.size, 2, none⟩ z).setCell ⟨w2.heap.size, 3, none⟩ u) ∧ ((((w3.setCell ⟨w2.heap.size, 0, none⟩ x).setCell ⟨w2.heap.size, 1, none⟩ y).setCell ⟨w2.heap.size, 2, none⟩ z).setCell ⟨w2.heap.size, 3, none⟩ u).heap[w2.heap.size]? = some (.cells #[x, y, z, u] t (0, 0)) ∧
      TmP ((((w3.setCell ⟨w2.heap.size, 0, none⟩ x).setCell ⟨w2.heap.size, 1, none⟩ y).setCell ⟨w2.heap.size, 2, none⟩ z).setCell ⟨w2.heap.size, 3, none⟩ u) (fun b => w2.heap.size ≤ b) X xa xc :=
  ⟨set4_low b3 (Nat.le_refl _), set4_blk g3 _ _ _ _, hx.kept (fun b hb _ => set4_oth (W := w3) (q := w2.heap.size) _ _ _ _ (by omega)) fun b hb _ => by omega⟩

set_option maxRecDepth 100000 in
set_option maxHeartbeats 8000000 in
theorem um_meet {n₀ q n : Nat} {full : Bool} {S : WS} {bs : Bds} {L : List (Tm × Tm)} (t : Tm) (ad : Option Addr) (cap : Nat) (w : World) (hw : n₀ ≤ w.heap.size) (hlen : bs.length ≤ 1000000) (hsz : ∀ b ∈ bs, b.2.size ≤ 1000000) (h : Wk n₀ q full S bs (2000 - n) L w) (hn : n ≤ 2000) (P : Nat → Prop) (hP : ∀ b, P b → b ≠ q) (ht : TmP w P t ad cap) :
    Calls Try.prog 28 #[.pointer (some ⟨q, 0, none⟩), tmv t ad cap] w (MetO P n₀ q full S bs L w (meetL bs n t)) := by
  have H0 := Lib.hid h
  have HP := Lib.hid hP
  have hql := h.lt
  have hI := MtI.start h hn ht
  obtain ⟨r, hr⟩ : ∃ r, meetL bs n t = r := ⟨_, rfl⟩
  rw [hr] at hI ⊢
  have HI := Lib.hid hI
  have HLK := Lib.hid (fun (left' : Nat) (v : Int) (W : World) (ht : Turn (fun j => j = q ∨ w.heap.size ≤ j) w W) (hq : W.heap[q]? = some (wkC S bs left' L)) => sb_LookU bs v S.ab S.cb W hlen hsz ((h.left left' ht hq).at (Nat.le_trans hw ht.size)).2.2)
  clear hI hr ht h hsz hP
  unfold tmv
  go_enter Try.func28, Try.ntmps28
  go_wp2_with fail
  go_loopw [] (fun wr => ∃ n t, MtI P q S bs L w r n t wr) (fun wr => wkOf wr q)
  case atStart => exact ⟨n, t, HI.out⟩
  case round =>
    clear HI hn
    obtain ⟨n, t, hi⟩ := hrel
    obtain ⟨ad, cap, hbx, hp⟩ := hi.box
    have hle := hi.le
    have hsz := hi.turn.size
    obtain ⟨q0, q1, q2, qf0, qf1, qf2⟩ := cells3U hi.wk
    have hs2 := (Array.getElem?_eq_some_iff.1 hi.res).1
    by_cases hn : n < 2000
    · have HIN := Lib.hid hi
      have HSP := Lib.hid (hi.spend hql HP.out hbx hp)
      have hd : decide (0 < 2000 - n) = true := decide_eq_true (by omega)
      have hdI : decide ((0 : Int) < ((2000 - n : Nat) : Int)) = true := decide_eq_true (by omega)
      have hsub : ((2000 - n : Nat) : Int) - 1 = ((1999 - n : Nat) : Int) := by omega
      have hwr : IntKind.i64.wrap ((1999 - n : Nat) : Int) = ((1999 - n : Nat) : Int) := IntWalk.i64_in _ (by omega)
      clear hi hbx hp
      go_upto_region 3 with fail
      generalize hX : wr.setCell _ _ = w1 at *
      clear hX q0 q1 q2 qf0 qf1 qf2
      obtain ⟨b0, b1, b2, b3, _⟩ := cellsT HSP.out.box
      have HIV := Lib.hid (um_isVar t ad cap w1)
      unfold tmv at HIV
      go_wp2_with fail
      refine HIV.out.mono ?_; rintro e w2 ⟨rfl, hb2⟩
      have HS2 := Lib.hid (HSP.out.on hb2)
      clear b0 b1 b2 b3 HIV HSP
      cases hk : (t.kind == 1) with
      | false =>
        have HR : Hid (r = (t, 0, n + 1)) := Lib.hid (HIN.out.ans.symm.trans (meet_stop hn (.inl (by simpa using hk))))
        obtain ⟨b0, b1, b2, b3, _⟩ := cellsT HS2.out.box
        obtain ⟨z0, z1, z2, z3, f0, f1, f2, f3⟩ := cellsT HS2.out.res
        have HF := Lib.hid (met_end (er := 0) (n1 := n + 1) H0.out HS2.out.wk' HS2.out.turn HS2.out.tm ⟨_, HS2.out.res⟩)
        clear hb2
        go_wp2_with fail
        obtain ⟨y0, y1, y2, y3, _⟩ := cellsT HF.out.2
        refine bodyPost_ret (v := .tuple #[tmv t ad cap, .int .i64 0]) (by simp [results, Try.results28, go_sem, tmv, y0, y1, y2, y3]) rfl ?_
        rw [HR.out]
        exact HF.out.1
      | true =>
        obtain ⟨lk, hlk⟩ : ∃ lk, lookL bs t.n = lk := ⟨_, rfl⟩
        have HL2 := Lib.hid (fun W (hb : Below w2.heap.size w2 W) => HLK.out (1999 - n) t.n W (turn_on HS2.out.turn hb) (keptR9 hb HS2.out.wk))
        rw [hlk] at HL2
        have hs2' := hb2.size
        have hsw := HS2.out.turn.size
        have hsx := (Array.getElem?_eq_some_iff.1 HS2.out.res).1
        have HLKE := Lib.hid hlk
        clear hb2 hlk
        obtain ⟨X, hX⟩ : ∃ X, lk.getD zeroT = X := ⟨_, rfl⟩
        obtain ⟨f, hf⟩ : ∃ f, lk.isSome = f := ⟨_, rfl⟩
        rw [hX, hf] at HL2
        unfold tmv at HL2
        have HXE := Lib.hid hX
        have HFE := Lib.hid hf
        clear hX hf
        have HK : Hid (∀ W, Below w2.heap.size w2 W → Below w2.heap.size w2 W ∧ W.cell? ⟨q, 0, none⟩ = some (.slice S.ab bs.length S.cb) ∧ W.cell? ⟨w.heap.size, 2, none⟩ = some (.int .i64 t.n)) := Lib.hid (fun W hb => by
          obtain ⟨x0, _⟩ := cells3U (keptR9 hb HS2.out.wk)
          obtain ⟨_, _, y2, _⟩ := cellsT (keptR9 hb HS2.out.box)
          exact ⟨hb, x0, y2⟩)
        have bD : Below w2.heap.size w2 w2.drew := (Below.refl _ w2).drew
        have bA : ∀ o : Obj, Below w2.heap.size w2 (w2.alloc o).drew := fun o => ((Below.refl _ w2).alloc (Nat.le_refl _) o).drew
        go_upto_region 5 with fail
        go_cut [6, 7] (fun s6 s7 wx => ∃ p xa xc, s6 = .pointer (some ⟨p, 0, none⟩) ∧ s7 = .bool f ∧ Below w2.heap.size w2 wx ∧ Hid (wx.heap[p]? = some (.cells #[.int .i64 X.kind, .string X.name, .int .i64 X.n, .slice xa X.args.length xc] 25 (0, 0)) ∧ TmP wx (fun b => w2.heap.size ≤ b) X xa xc))
        case first =>
          go_region_held3 (fun W => Below w2.heap.size w2 W ∧ W.cell? ⟨q, 0, none⟩ = some (.slice S.ab bs.length S.cb) ∧ W.cell? ⟨w.heap.size, 2, none⟩ = some (.int .i64 t.n))
            (first | with_reducible exact HK.out _ bD | with_reducible exact HK.out _ (bA _) | with_reducible exact HK.out _ b3 | with_reducible exact HK.out _ (b3.alloc b3.size _) | with_reducible exact HK.out _ (set4_low b3 (Nat.le_refl _)))
            (first
              | (go_at_call 40; (refine (HL2.out _ bD).mono ?_); rintro e w3 ⟨xa, xc, rfl, hx, hb3⟩; have b3 := bD.trans (hb3.mono bD.size); have HX3 := Lib.hid hx; clear hb3 hx)
              | (go_at_call 40; (refine (HL2.out _ (bA _)).mono ?_); rintro e w3 ⟨xa, xc, rfl, hx, hb3⟩; have b3 := (bA _).trans (hb3.mono (bA _).size); have HX3 := Lib.hid hx; have g3 := keptR9 hb3 (show (w2.alloc (.cells #[.int .i64 0, .string ⟨#[]⟩, .int .i64 0, .slice none 0 0] 25)).drew.heap[w2.heap.size]? = some _ from alloc_new w2 _); obtain ⟨z0, z1, z2, z3, f0, f1, f2, f3⟩ := cellsT g3; have G3 := Lib.hid g3; clear hb3 hx g3))
          · have HR := Lib.hid (lk_way1 b3 HX3.out (Nat.le_refl _) (o := .cells #[.int .i64 X.kind, .string X.name, .int .i64 X.n, .slice xa X.args.length xc] 25 (0, 0)))
            go_wp2_with fail
            go_meet
            exact ⟨_, xa, xc, rfl, rfl, HR.out.1, Lib.hid HR.out.2⟩
          · have HR := Lib.hid (lk_way2 b3 G3.out HX3.out (show w2.heap.size + 1 ≤ (w2.alloc _).heap.size by rw [World.size_alloc]; exact Nat.le_refl _) (x := .int .i64 X.kind) (y := .string X.name) (z := .int .i64 X.n) (u := .slice xa X.args.length xc))
            go_wp2_with fail
            go_meet
            exact ⟨_, xa, xc, rfl, rfl, HR.out.1, Lib.hid HR.out.2⟩
        case rest =>
          obtain ⟨p, xa, xc, rfl, rfl, hbc, HX⟩ := hcut
          obtain ⟨w4, rfl⟩ : ∃ z, z = wc := ⟨_, rfl⟩
          have HS4 := Lib.hid (HS2.out.on hbc)
          clear bD bA HK HL2 hbc
          cases f with
          | false =>
            have hnone : lk = none := by
              have h := HFE.out
              cases lk with
              | none => rfl
              | some x => cases h
            have HR : Hid (r = (t, 0, n + 1)) := Lib.hid (HIN.out.ans.symm.trans (meet_stop hn (.inr (HLKE.out.trans hnone))))
            obtain ⟨b0, b1, b2, b3, _⟩ := cellsT HS4.out.box
            obtain ⟨z0, z1, z2, z3, f0, f1, f2, f3⟩ := cellsT HS4.out.res
            have HF := Lib.hid (met_end (er := 0) (n1 := n + 1) H0.out HS4.out.wk' HS4.out.turn HS4.out.tm ⟨_, HS4.out.res⟩)
            clear hnone
            go_wp2_with fail
            obtain ⟨y0, y1, y2, y3, _⟩ := cellsT HF.out.2
            refine bodyPost_ret (v := .tuple #[tmv t ad cap, .int .i64 0]) (by simp [results, Try.results28, go_sem, tmv, y0, y1, y2, y3]) rfl ?_
            rw [HR.out]
            exact HF.out.1
          | true =>
            have hlx : lookL bs t.n = some X := by
              have h := HFE.out
              have h1 := HLKE.out
              have h2 := HXE.out
              cases lk with
              | none => cases h
              | some x => rw [h1]; exact congrArg some h2
            have HN := Lib.hid (MtS.step H0.out HS4.out hn HIN.out.ans (by simpa using hk) hlx (HX.out.2.kept (Q := MFree P w.heap.size) (fun _ _ _ => rfl) fun b hb _ => .inr (by omega)))
            obtain ⟨x0, x1, x2, x3, _⟩ := cellsT HX.out.1
            obtain ⟨z0, z1, z2, z3, f0, f1, f2, f3⟩ := cellsT HS4.out.box
            have HMS := Lib.hid (wkOf_wk HIN.out.wk)
            have HMT := Lib.hid (wkOf_wk HN.out.wk)
            clear hlx
            go_wp2_with fail
            go_roundw
            case rel => exact ⟨n + 1, X, HN.out⟩
            case measure => rw [HMS.out, HMT.out]; omega
    · obtain rfl : n = 2000 := by omega
      have HR : Hid (r = (zeroT, 140, 2001)) := Lib.hid (hi.ans.symm.trans (meetL_over bs t))
      have HF := Lib.hid (met_err (P := P) (er := 140) (n1 := 2001) H0.out hi.wk hi.turn ⟨_, hi.res⟩)
      obtain ⟨z0, z1, z2, z3, f0, f1, f2, f3⟩ := cellsT hi.res
      rw [show ((2000 - 2000 : Nat) : Int) = 0 from rfl] at q1
      clear hi hbx hp hn
      go_wp2_with fail
      obtain ⟨y0, y1, y2, y3, _⟩ := cellsT HF.out.2
      refine bodyPost_ret (v := .tuple #[.agg #[.int .i64 0, .string ⟨#[]⟩, .int .i64 0, .slice none 0 0], .int .i64 140]) (by simp [results, Try.results28, go_sem, y0, y1, y2, y3]) rfl ?_
      rw [HR.out]
      exact HF.out.1
end Go.Proofs.Ytlpmofmhcnclhaa

/-
  The contract of package unify's own next.
-/
namespace Go.Proofs.Ytlpmofmhcnclhaa
open Go.RowKit

/-- Two terms met, the first one and then the second one. -/
def nextR (bs : Bds) (n : Nat) (p : Tm × Tm) : Tm × Tm × Int × Nat :=
  if (meetL bs n p.1).2.1 ≠ 0 then (zeroT, zeroT, (meetL bs n p.1).2.1, (meetL bs n p.1).2.2)
  else ((meetL bs n p.1).1, (meetL bs (meetL bs n p.1).2.2 p.2).1, (meetL bs (meetL bs n p.1).2.2 p.2).2.1, (meetL bs (meetL bs n p.1).2.2 p.2).2.2)
/-- What next leaves. -/
def NxtO (n₀ q : Nat) (full : Bool) (S : WS) (bs : Bds) (L : List (Tm × Tm)) (w : World) (r : Tm × Tm × Int × Nat) (e : Ending) (w' : World) : Prop :=
  ∃ a1 c1 a2 c2, e = .returned (.tuple #[tmv r.1 a1 c1, tmv r.2.1 a2 c2, .int .i64 r.2.2.1]) ∧ TmP w' (UFree q S) r.1 a1 c1 ∧ TmP w' (UFree q S) r.2.1 a2 c2 ∧ Wk n₀ q full S bs (2000 - r.2.2.2) L w' ∧ Below n₀ w w'
/-- The next pair taken, and steps counted. -/
theorem Wk.gone {n₀ q : Nat} {full : Bool} {S : WS} {bs : Bds} {left : Nat} {L : List (Tm × Tm)} {p : Tm × Tm} {w w' : World} (h : Wk n₀ q full S bs left (p :: L) w) (left' : Nat) (ht : Turn (fun j => j = q ∨ w.heap.size ≤ j) w w') (hq : w'.heap[q]? = some (wkC S bs left' L)) : Wk n₀ q full S bs left' L w' := by
  have h9 := h.taken (Below.refl _ w)
  have h1 := h9.blk
  have hz : (w.setCell ⟨q, 2, none⟩ (.slice S.aw L.length S.cw)).heap.size = w.heap.size := by simp [World.setCell]
  refine h9.left left' ⟨ht.os, ht.tape, ht.output, by rw [hz]; exact ht.size, fun k hk hne => ?_⟩ hq
  rw [hz] at hk hne
  rw [Below.heap_setCell _ _ _ _ (show k ≠ q by omega)]
  exact ht.block k hk hne
/-- Within next: three boxes, the work, the pair. -/
structure NxI (q : Nat) (S : WS) (bs : Bds) (L : List (Tm × Tm)) (left : Nat) (w : World) (p : Tm × Tm) (a : Option Addr) (c : Nat) (a' : Option Addr) (c' : Nat) (W : World) : Prop where
  b0 : W.heap[w.heap.size]? = some (.cells #[.int .i64 0, .string ⟨#[]⟩, .int .i64 0, .slice none 0 0] 25 (0, 0))
  b1 : W.heap[w.heap.size + 1]? = some (.cells #[.int .i64 0, .string ⟨#[]⟩, .int .i64 0, .slice none 0 0] 25 (0, 0))
  pr : W.heap[w.heap.size + 2]? = some (.cells #[.int .i64 p.1.kind, .string p.1.name, .int .i64 p.1.n, .slice a p.1.args.length c, .int .i64 p.2.kind, .string p.2.name, .int .i64 p.2.n, .slice a' p.2.args.length c'] 61 (0, 0))
  wk : W.heap[q]? = some (wkC S bs left L)
  px : TmP W (fun b => UFree q S b ∧ b < w.heap.size) p.1 a c
  py : TmP W (fun b => UFree q S b ∧ b < w.heap.size) p.2 a' c'
  turn : Turn (fun j => j = q ∨ w.heap.size ≤ j) w W
theorem NxI.turned {q : Nat} {S : WS} {bs : Bds} {L : List (Tm × Tm)} {left left' : Nat} {w : World} {p : Tm × Tm} {a : Option Addr} {c : Nat} {a' : Option Addr} {c' : Nat} {W W' : World} (h : NxI q S bs L left w p a c a' c' W) (hq : q < w.heap.size) (ht : Turn (fun j => j = q) W W') (hk : W'.heap[q]? = some (wkC S bs left' L)) : NxI q S bs L left' w p a c a' c' W' := by
  have k : ∀ b o, W.heap[b]? = some o → b ≠ q → W'.heap[b]? = some o := fun b o ho hne => (ht.block b (Array.getElem?_eq_some_iff.1 ho).1 hne).trans ho
  exact ⟨k _ _ h.b0 (by omega), k _ _ h.b1 (by omega), k _ _ h.pr (by omega), hk, h.px.turnS ht fun b hb => hb.1.1, h.py.turnS ht fun b hb => hb.1.1, h.turn.trans (ht.more fun j e => .inl e)⟩
theorem NxI.on {q : Nat} {S : WS} {bs : Bds} {L : List (Tm × Tm)} {left : Nat} {w : World} {p : Tm × Tm} {a : Option Addr} {c : Nat} {a' : Option Addr} {c' : Nat} {W W' : World} (h : NxI q S bs L left w p a c a' c' W) (hb : Below W.heap.size W W') : NxI q S bs L left w p a c a' c' W' :=
  ⟨keptR9 hb h.b0, keptR9 hb h.b1, keptR9 hb h.pr, keptR9 hb h.wk, h.px.onS hb, h.py.onS hb, turn_on h.turn hb⟩
theorem cells8U {w : World} {q : Nat} {a b c d a' b' c' d' : Value} {t : TypeId} (h : w.heap[q]? = some (.cells #[a, b, c, d, a', b', c', d'] t (0, 0))) :
    w.cell? ⟨q, 0, none⟩ = some a ∧ w.cell? ⟨q, 1, none⟩ = some b ∧ w.cell? ⟨q, 2, none⟩ = some c ∧ w.cell? ⟨q, 3, none⟩ = some d ∧ w.cell? ⟨q, 4, none⟩ = some a' ∧ w.cell? ⟨q, 5, none⟩ = some b' ∧ w.cell? ⟨q, 6, none⟩ = some c' ∧ w.cell? ⟨q, 7, none⟩ = some d' := by
  simp [World.cell?, h]

/-- Where a term may lie that was met. -/
def NFree (q : Nat) (S : WS) (B b : Nat) : Prop := (UFree q S b ∧ b < B) ∨ B + 3 ≤ b
theorem nxt_end {n₀ q n2 left : Nat} {er : Int} {full : Bool} {S : WS} {bs : Bds} {L : List (Tm × Tm)} {w W : World} {p : Tm × Tm} {a : Option Addr} {c : Nat} {a' : Option Addr} {c' : Nat} {x y : Tm} {a1 : Option Addr} {c1 : Nat} {a2 : Option Addr} {c2 : Nat} (h0 : Wk n₀ q full S bs left (p :: L) w) (hw : n₀ ≤ w.heap.size) (h : NxI q S bs L (2000 - n2) w p a c a' c' W) (hx : TmP W (NFree q S w.heap.size) x a1 c1) (hy : TmP W (NFree q S w.heap.size) y a2 c2) (X : World)
    (hX : X = ((((((((W.setCell ⟨w.heap.size, 0, none⟩ (.int .i64 x.kind)).setCell ⟨w.heap.size, 1, none⟩ (.string x.name)).setCell ⟨w.heap.size, 2, none⟩ (.int .i64 x.n)).setCell ⟨w.heap.size, 3, none⟩ (.slice a1 x.args.length c1)).setCell ⟨w.heap.size + 1, 0, none⟩ (.int .i64 y.kind)).setCell ⟨w.heap.size + 1, 1, none⟩ (.string y.name)).setCell ⟨w.heap.size + 1, 2, none⟩ (.int .i64 y.n)).setCell ⟨w.heap.size + 1, 3, none⟩ (.slice a2 y.args.length c2))) :
    NxtO n₀ q full S bs L w (x, y, er, n2) (.returned (.tuple #[tmv x a1 c1, tmv y a2 c2, .int .i64 er])) X.drew ∧ X.heap[w.heap.size]? = some (.cells #[.int .i64 x.kind, .string x.name, .int .i64 x.n, .slice a1 x.args.length c1] 25 (0, 0)) ∧ X.heap[w.heap.size + 1]? = some (.cells #[.int .i64 y.kind, .string y.name, .int .i64 y.n, .slice a2 y.args.length c2] 25 (0, 0)) := by
  subst hX
  have hlt := h0.lt
  have k1 := Turn.set4 (M := fun j => j = w.heap.size ∨ j = w.heap.size + 1) (W := W) (q := w.heap.size) (.inl rfl) (.int .i64 x.kind) (.string x.name) (.int .i64 x.n) (.slice a1 x.args.length c1)
  have b1 := set4_blk h.b0 (.int .i64 x.kind) (.string x.name) (.int .i64 x.n) (.slice a1 x.args.length c1)
  have b2 := (set4_oth (W := W) (q := w.heap.size) (j := w.heap.size + 1) (.int .i64 x.kind) (.string x.name) (.int .i64 x.n) (.slice a1 x.args.length c1) (by omega)).trans h.b1
  generalize (((W.setCell ⟨w.heap.size, 0, none⟩ _).setCell _ _).setCell _ _).setCell _ _ = W1 at *
  have k2 := Turn.set4 (M := fun j => j = w.heap.size ∨ j = w.heap.size + 1) (W := W1) (q := w.heap.size + 1) (.inr rfl) (.int .i64 y.kind) (.string y.name) (.int .i64 y.n) (.slice a2 y.args.length c2)
  have b3 := set4_blk b2 (.int .i64 y.kind) (.string y.name) (.int .i64 y.n) (.slice a2 y.args.length c2)
  have b4 := (set4_oth (W := W1) (q := w.heap.size + 1) (j := w.heap.size) (.int .i64 y.kind) (.string y.name) (.int .i64 y.n) (.slice a2 y.args.length c2) (by omega)).trans b1
  have k := k1.trans k2
  have hs := h.turn.size
  have kt := h.turn.trans (k.more (M' := fun j => j = q ∨ w.heap.size ≤ j) fun j e => .inr (by omega))
  have fr : ∀ b, NFree q S w.heap.size b → UFree q S b := fun b hb => hb.elim (fun h => h.1) fun h => h0.free (by omega)
  have kp : ∀ b, NFree q S w.heap.size b → ¬ (b = w.heap.size ∨ b = w.heap.size + 1) := fun b hb => hb.elim (fun h => by omega) fun h => by omega
  refine ⟨⟨a1, c1, a2, c2, rfl, (hx.kept (fun b hb hl => k.block b hl (kp b hb)) fun b hb _ => fr b hb), (hy.kept (fun b hb hl => k.block b hl (kp b hb)) fun b hb _ => fr b hb), ?_, ?_⟩, b4, b3⟩
  · exact h0.gone _ (kt.trans (Turn.drew _ _)) ((k.block q (by omega) (by omega)).trans h.wk)
  · have := h0.low
    exact (kt.trans (Turn.drew _ _)).below (fun j e => by omega) hw
theorem NxtO.undrew {n₀ q : Nat} {full : Bool} {S : WS} {bs : Bds} {L : List (Tm × Tm)} {w : World} {r : Tm × Tm × Int × Nat} {e : Ending} {w' : World} (h : NxtO n₀ q full S bs L w r e w'.drew) : NxtO n₀ q full S bs L w r e w' := by
  obtain ⟨a1, c1, a2, c2, h1, h2, h3, h4, h5⟩ := h
  exact ⟨a1, c1, a2, c2, h1, h2.kept (fun _ _ _ => rfl) fun _ h _ => h, h3.kept (fun _ _ _ => rfl) fun _ h _ => h, h4.on ⟨rfl, rfl, rfl, Nat.le_refl _, fun _ _ => rfl⟩, ⟨h5.os, h5.tape, h5.output, h5.size, h5.block⟩⟩
theorem nxt_err {n₀ q n2 left : Nat} {er : Int} {full : Bool} {S : WS} {bs : Bds} {L : List (Tm × Tm)} {w W : World} {p : Tm × Tm} {a : Option Addr} {c : Nat} {a' : Option Addr} {c' : Nat} (h0 : Wk n₀ q full S bs left (p :: L) w) (hw : n₀ ≤ w.heap.size) (h : NxI q S bs L (2000 - n2) w p a c a' c' W) (X : World)
    (hX : X = ((((((((W.setCell ⟨w.heap.size, 0, none⟩ (.int .i64 0)).setCell ⟨w.heap.size, 1, none⟩ (.string ⟨#[]⟩)).setCell ⟨w.heap.size, 2, none⟩ (.int .i64 0)).setCell ⟨w.heap.size, 3, none⟩ (.slice none 0 0)).setCell ⟨w.heap.size + 1, 0, none⟩ (.int .i64 0)).setCell ⟨w.heap.size + 1, 1, none⟩ (.string ⟨#[]⟩)).setCell ⟨w.heap.size + 1, 2, none⟩ (.int .i64 0)).setCell ⟨w.heap.size + 1, 3, none⟩ (.slice none 0 0))) :
    NxtO n₀ q full S bs L w (zeroT, zeroT, er, n2) (.returned (.tuple #[.agg #[.int .i64 0, .string ⟨#[]⟩, .int .i64 0, .slice none 0 0], .agg #[.int .i64 0, .string ⟨#[]⟩, .int .i64 0, .slice none 0 0], .int .i64 er])) X ∧ X.heap[w.heap.size]? = some (.cells #[.int .i64 0, .string ⟨#[]⟩, .int .i64 0, .slice none 0 0] 25 (0, 0)) ∧ X.heap[w.heap.size + 1]? = some (.cells #[.int .i64 0, .string ⟨#[]⟩, .int .i64 0, .slice none 0 0] 25 (0, 0)) := by
  obtain ⟨h1, h2, h3⟩ := nxt_end (x := zeroT) (a1 := none) (c1 := 0) (y := zeroT) (a2 := none) (c2 := 0) (er := er) h0 hw h zero_tmS zero_tmS X hX
  exact ⟨h1.undrew, h2, h3⟩
theorem next_first (w : World) (p : Tm × Tm) (a : Option Addr) (c : Nat) (a' : Option Addr) (c' : Nat) {P : Nat → Prop} (px : TmP w P p.1 a c) (py : TmP w P p.2 a' c') {o1 o2 o3 : Obj} :
    Below w.heap.size w (((w.alloc o1).alloc o2).alloc o3) ∧ (((w.alloc o1).alloc o2).alloc o3).heap.size = w.heap.size + 3 ∧ (((w.alloc o1).alloc o2).alloc o3).heap[w.heap.size]? = some o1 ∧ (((w.alloc o1).alloc o2).alloc o3).heap[w.heap.size + 1]? = some o2 ∧ (((w.alloc o1).alloc o2).alloc o3).heap[w.heap.size + 2]? = some o3 ∧
      TmP (((w.alloc o1).alloc o2).alloc o3) (fun b => P b ∧ b < w.heap.size) p.1 a c ∧ TmP (((w.alloc o1).alloc o2).alloc o3) (fun b => P b ∧ b < w.heap.size) p.2 a' c' := by
  have hb : Below w.heap.size w (((w.alloc o1).alloc o2).alloc o3) := (((Below.refl _ w).alloc (Nat.le_refl _) o1).alloc (by simp) o2).alloc (by simp <;> omega) o3
  obtain ⟨h0, h1, h2⟩ := stayB3 w o1 o2 o3
  exact ⟨hb, by simp, h0, h1, h2, px.kept (fun b _ hl => hb.block b hl) fun _ h hl => ⟨h, hl⟩, py.kept (fun b _ hl => hb.block b hl) fun _ h hl => ⟨h, hl⟩⟩

set_option maxRecDepth 100000 in
set_option maxHeartbeats 8000000 in
theorem um_next {n₀ q n : Nat} {full : Bool} {S : WS} {bs : Bds} {L : List (Tm × Tm)} (p : Tm × Tm) (w : World) (hw : n₀ ≤ w.heap.size) (hlen : bs.length ≤ 1000000) (hsz : ∀ b ∈ bs, b.2.size ≤ 1000000) (h : Wk n₀ q full S bs (2000 - n) (p :: L) w) (hn : n ≤ 2000) (hL : L.length ≤ 3000000000) :
    Calls Try.prog 19 #[.pointer (some ⟨q, 0, none⟩)] w (NxtO n₀ q full S bs L w (nextR bs n p)) := by
  have H0 := Lib.hid h
  obtain ⟨R, hR⟩ : ∃ R, nextR bs n p = R := ⟨_, rfl⟩
  rw [hR]
  unfold nextR at hR
  have HR := Lib.hid hR
  clear hR
  have hql := h.lt
  obtain ⟨q0, q1, q2, qf0, qf1, qf2⟩ := cells3U h.blk
  obtain ⟨g, a, c, a', c', haw, hgl, hgq, hcw, hcm, px, py, hpc⟩ := h.head
  rw [haw] at q2
  rw [show (p :: L).length = L.length + 1 from rfl] at q2
  have x0 := hpc 0 (by omega)
  have x1 := hpc 1 (by omega)
  have x2 := hpc 2 (by omega)
  have x3 := hpc 3 (by omega)
  have x4 := hpc 4 (by omega)
  have x5 := hpc 5 (by omega)
  have x6 := hpc 6 (by omega)
  have x7 := hpc 7 (by omega)
  simp only [pcells, tcells, List.cons_append, List.nil_append, List.getElem?_cons_zero, List.getElem?_cons_succ, Nat.add_zero] at x0 x1 x2 x3 x4 x5 x6 x7
  have hl1 : (((L.length + 1 : Nat) : Int) - 1) = (L.length : Int) := by omega
  have hwr : IntKind.i64.wrap (L.length : Int) = (L.length : Int) := IntWalk.i64_in _ (by omega)
  have HM := Lib.hid (fun (m : Nat) (t : Tm) (ad : Option Addr) (cap : Nat) (W : World) (P : Nat → Prop) (hW : Wk n₀ q full S bs (2000 - m) L W) (hz : n₀ ≤ W.heap.size) (hm : m ≤ 2000) (hP : ∀ b, P b → b ≠ q) (ht : TmP W P t ad cap) => um_meet t ad cap W hz hlen hsz hW hm P hP ht)
  clear hpc h hsz
  go_enter Try.func19, Try.ntmps19
  go_upto_region 3 with fail
  have HW0 := Lib.hid (next_first w p a c a' c' px py (o1 := .cells #[.int .i64 0, .string ⟨#[]⟩, .int .i64 0, .slice none 0 0] 25) (o2 := .cells #[.int .i64 0, .string ⟨#[]⟩, .int .i64 0, .slice none 0 0] 25) (o3 := .cells #[.int .i64 p.1.kind, .string p.1.name, .int .i64 p.1.n, .slice a p.1.args.length c, .int .i64 p.2.kind, .string p.2.name, .int .i64 p.2.n, .slice a' p.2.args.length c'] 61))
  generalize ((w.alloc _).alloc _).alloc _ = w0 at *
  obtain ⟨hb0, hs0, g0, g1, g2, hpx, hpy⟩ := HW0.out
  have hblk := keptR9 hb0 H0.out.blk
  rw [haw, show (p :: L).length = L.length + 1 from rfl] at hblk
  obtain ⟨q0, q1, q2, qf0, qf1, qf2⟩ := cells3U hblk
  have hlc : L.length ≤ S.cw := by omega
  have HX : Hid (NxI q S bs L (2000 - n) w p a c a' c' (w0.setCell ⟨q, 2, none⟩ (.slice (some ⟨g, 0, none⟩) L.length S.cw))) := Lib.hid (by
    have k : Turn (fun j => j = q) w0 (w0.setCell ⟨q, 2, none⟩ (.slice (some ⟨g, 0, none⟩) L.length S.cw)) := Turn.set (fun j => j = q) w0 (p := ⟨q, 2, none⟩) rfl _
    refine ⟨(k.block _ (by omega) (by omega)).trans g0, (k.block _ (by omega) (by omega)).trans g1, (k.block _ (by omega) (by omega)).trans g2, ?_, hpx.turnS k fun b hb => hb.1.1, hpy.turnS k fun b hb => hb.1.1, (turn_on (Turn.refl _ w) hb0).trans (k.more fun j e => .inl e)⟩
    have := Lib.heap_setCell_same (i := 2) hblk (.slice (some ⟨g, 0, none⟩) L.length S.cw)
    simpa [wkC, haw] using this)
  clear HW0 hb0 g0 g1 g2 hpx hpy hblk x0 x1 x2 x3 x4 x5 x6 x7 px py
  go_upto_region 4 with fail
  generalize World.setCell _ _ _ = w1 at *
  clear q0 q1 q2 qf0 qf1 qf2
  have hw1 : n₀ ≤ w1.heap.size := by have := HX.out.turn.size; omega
  have hw13 := HX.out.turn.size
  have hpr := (Array.getElem?_eq_some_iff.1 HX.out.pr).1
  have hout := meet_out bs n p.1 hn
  have HM1 := Lib.hid (HM.out n p.1 a c w1 _ (H0.out.gone _ HX.out.turn HX.out.wk) hw1 hn (fun b hb => hb.1.1) HX.out.px)
  obtain ⟨b0, b1, b2, b3, b4, b5, b6, b7⟩ := cells8U HX.out.pr
  clear haw hcw hcm hlc hs0 hgl hgq hl1 hwr
  generalize hr1 : meetL bs n p.1 = r1 at *
  obtain ⟨x', er, n1⟩ := r1
  clear hr1
  dsimp only at hout HR
  unfold MetO tmv at HM1
  dsimp only at HM1
  rcases hout with ⟨rfl, _, _, hn1⟩ | ⟨rfl, rfl, rfl⟩
  · rw [if_neg (by nofun)] at HR
    go_wp2_with fail
    refine HM1.out.mono ?_; rintro e w2 ⟨a1, c1, rfl, hx1, hk1, ht1⟩
    have hs2 := ht1.size
    have HX2 := Lib.hid (HX.out.turned hql ht1 hk1.blk)
    have HB2 := Lib.hid (hx1.kept (Q := NFree q S w.heap.size) (fun _ _ _ => rfl) fun b hb _ => hb.imp (fun h => h.1) fun h => by omega)
    clear hx1 hk1 ht1 HM1 HX b0 b1 b2 b3 b4 b5 b6 b7
    go_upto_region 7 with fail
    have hbb := (Below.refl _ w2).alloc (Nat.le_refl _) (.cells #[.int .i64 x'.kind, .string x'.name, .int .i64 x'.n, .slice a1 x'.args.length c1] 25)
    have hq7 := alloc_new w2 (.cells #[.int .i64 x'.kind, .string x'.name, .int .i64 x'.n, .slice a1 x'.args.length c1] 25)
    have HX3 := Lib.hid (HX2.out.on hbb)
    have HB3 := Lib.hid (HB2.out.onS hbb)
    have hs3 := hbb.size
    generalize w2.alloc _ = w3 at *
    have hq7l := (Array.getElem?_eq_some_iff.1 hq7).1
    have HQ7 := Lib.hid hq7
    have hout2 := meet_out bs n1 p.2 hn1
    have HM2 := Lib.hid (HM.out n1 p.2 a' c' w3 _ (H0.out.gone _ HX3.out.turn HX3.out.wk) (by omega) hn1 (fun b hb => hb.1.1) HX3.out.py)
    generalize hr2 : meetL bs n1 p.2 = r2 at *
    obtain ⟨y', er2, n2⟩ := r2
    clear hr2 HM hbb hq7 HX2 HB2
    dsimp only at hout2 HM2 HR
    unfold MetO tmv at HM2
    dsimp only at HM2
    obtain ⟨b0, b1, b2, b3, b4, b5, b6, b7⟩ := cells8U HX3.out.pr
    go_wp2_with fail
    refine HM2.out.mono ?_; rintro e w4 ⟨a2, c2, rfl, hy4, hk4, ht4⟩
    have hs4 := ht4.size
    have HX4 := Lib.hid (HX3.out.turned hql ht4 hk4.blk)
    have HB4 := Lib.hid (HB3.out.turnS ht4 fun b hb e => hb.elim (fun h => h.1.1 e) fun h => by omega)
    have HC4 := Lib.hid (hy4.kept (Q := NFree q S w.heap.size) (fun _ _ _ => rfl) fun b hb _ => hb.imp (fun h => h.1) fun h => by omega)
    have HQ4 := Lib.hid ((ht4.block w2.heap.size hq7l (by omega)).trans HQ7.out)
    clear hy4 hk4 ht4 HM2 b0 b1 b2 b3 b4 b5 b6 b7
    go_upto_region 8 with fail
    have hbb := (Below.refl _ w4).alloc (Nat.le_refl _) (.cells #[.int .i64 y'.kind, .string y'.name, .int .i64 y'.n, .slice a2 y'.args.length c2] 25)
    have hq9 := alloc_new w4 (.cells #[.int .i64 y'.kind, .string y'.name, .int .i64 y'.n, .slice a2 y'.args.length c2] 25)
    have HX5 := Lib.hid (HX4.out.on hbb)
    have HB5 := Lib.hid (HB4.out.onS hbb)
    have HC5 := Lib.hid (HC4.out.onS hbb)
    have hq5 := keptR9 hbb HQ4.out
    generalize w4.alloc _ = w5 at *
    obtain ⟨c0, c1', c2', c3, _⟩ := cellsT hq5
    obtain ⟨d0, d1, d2, d3, _⟩ := cellsT hq9
    obtain ⟨u0, u1, u2, u3, f0, f1, f2, f3⟩ := cellsT HX5.out.b0
    obtain ⟨v0, v1, v2, v3, g0, g1, g2, g3⟩ := cellsT HX5.out.b1
    have HE := Lib.hid (fun X hX => nxt_end (er := er2) (n2 := n2) H0.out hw HX5.out HB5.out HC5.out X hX)
    clear hbb hq9 hq5
    go_region
    go_wp2_with fail
    generalize hX : World.setCell _ _ _ = X
    obtain ⟨e1, e2, e3⟩ := HE.out X hX.symm
    clear hX HE
    obtain ⟨p0, p1, p2, p3, _⟩ := cellsT e2
    obtain ⟨r0, r1, r2, r3, _⟩ := cellsT e3
    refine bodyPost_ret (v := .tuple #[tmv x' a1 c1, tmv y' a2 c2, .int .i64 er2]) (by simp [results, Try.results19, go_sem, tmv, p0, p1, p2, p3, r0, r1, r2, r3]) rfl ?_
    rw [← HR.out]
    exact e1
  · rw [if_pos (by nofun)] at HR
    go_wp2_with fail
    refine HM1.out.mono ?_; rintro e w2 ⟨a1, c1, rfl, hx1, hk1, ht1⟩
    have HX2 := Lib.hid (HX.out.turned hql ht1 hk1.blk)
    clear hx1 hk1 ht1 HM1 HX b0 b1 b2 b3 b4 b5 b6 b7 HM
    go_upto_region 6 with fail
    have HX3 := Lib.hid (HX2.out.on ((Below.refl _ w2).alloc (Nat.le_refl _) (.cells #[.int .i64 zeroT.kind, .string zeroT.name, .int .i64 zeroT.n, .slice a1 zeroT.args.length c1] 25)))
    generalize w2.alloc _ = w3 at *
    obtain ⟨u0, u1, u2, u3, f0, f1, f2, f3⟩ := cellsT HX3.out.b0
    obtain ⟨v0, v1, v2, v3, g0, g1, g2, g3⟩ := cellsT HX3.out.b1
    have HE := Lib.hid (fun X hX => nxt_err (er := 140) (n2 := 2001) H0.out hw HX3.out X hX)
    go_wp2_with fail
    generalize hX : World.setCell _ _ _ = X
    obtain ⟨e1, e2, e3⟩ := HE.out X hX.symm
    clear hX HE
    obtain ⟨p0, p1, p2, p3, _⟩ := cellsT e2
    obtain ⟨r0, r1, r2, r3, _⟩ := cellsT e3
    refine bodyPost_ret (v := .tuple #[.agg #[.int .i64 0, .string ⟨#[]⟩, .int .i64 0, .slice none 0 0], .agg #[.int .i64 0, .string ⟨#[]⟩, .int .i64 0, .slice none 0 0], .int .i64 140]) (by simp [results, Try.results19, go_sem, p0, p1, p2, p3, r0, r1, r2, r3]) rfl ?_
    rw [← HR.out]
    exact e1
end Go.Proofs.Ytlpmofmhcnclhaa

/-
  The contracts of package unify's own bind, alike.
-/
namespace Go.Proofs.Ytlpmofmhcnclhaa
open Go.RowKit

/-- What changes the work leaves. -/
def WkO (n₀ q : Nat) (full : Bool) (bs : Bds) (left : Nat) (L : List (Tm × Tm)) (w : World) (v : Value) (e : Ending) (w' : World) : Prop := ∃ S, e = .returned v ∧ Wk n₀ q full S bs left L w' ∧ Below n₀ w w'
/-- A binding's cells, laid. -/
theorem news5U {v : Int} {t : Tm} {ad : Option Addr} {cap : Nat} {w : World} : ∀ j u, (bcellsP (v, t) ad cap)[j]? = some u → ((w.alloc (.cells #[.int .i64 v, .int .i64 t.kind, .string t.name, .int .i64 t.n, .slice ad t.args.length cap] 34)).drew).cell? ((⟨w.heap.size, 0, none⟩ : Addr).add j) = some u := fun j u hu => cells5P (b := (v, t)) (w := w) j u hu

set_option maxRecDepth 100000 in
set_option maxHeartbeats 8000000 in
theorem um_bind {n₀ q left : Nat} {S : WS} {bs : Bds} {L : List (Tm × Tm)} (v : Int) (t : Tm) (ad : Option Addr) (cap : Nat) (w : World) (hw : n₀ ≤ w.heap.size) (hlen : bs.length ≤ 1000000) (h : Wk n₀ q true S bs left L w) (hv : In64 v) (ht : TmP w (UFree q S) t ad cap) :
    Calls Try.prog 30 #[.pointer (some ⟨q, 0, none⟩), .int .i64 v, tmv t ad cap] w (WkO n₀ q true (bs ++ [(v, t)]) left L w (.tuple #[])) := by
  have H0 := Lib.hid h
  have hql := h.lt
  obtain ⟨xs, hold, hrow⟩ := h.bds
  have HROW := Lib.hid hrow
  have HT := Lib.hid ht
  have HV := Lib.hid hv
  have HBA := Lib.hid (fun o : Obj => (Below.refl w.heap.size w).alloc (Nat.le_refl _) o)
  have HBH := Lib.hid (fun W (hb : Below w.heap.size w W) => hold.keptB (w' := W) fun b _ hl => hb.block b hl)
  clear h hrow ht hold hv
  unfold tmv
  go_enter Try.func30, Try.ntmps30
  go_upto_region 1 with fail
  have hb0 := HBA.out (.cells #[.int .i64 t.kind, .string t.name, .int .i64 t.n, .slice ad t.args.length cap] 25)
  have hq0 := alloc_new w (.cells #[.int .i64 t.kind, .string t.name, .int .i64 t.n, .slice ad t.args.length cap] 25)
  generalize w.alloc _ = w0 at *
  obtain ⟨b0, b1, b2, b3, _⟩ := cellsT hq0
  have hblk := keptR9 hb0 H0.out.blk
  obtain ⟨q0, q1, q2, qf0, qf1, qf2⟩ := cells3U hblk
  have hs0 := hb0.size
  have HB1 : Hid (∀ o : Obj, Below w.heap.size w (w0.alloc o).drew) := Lib.hid (fun o => ((hb0.trans ((Below.refl _ w0).alloc (Nat.le_refl _) o |>.mono hs0))).drew)
  have HQ9 : Hid (∀ (o : Obj) (W9 : World), (w0.alloc o).drew.grownBy W9 S.r → W9.heap[q]? = some (wkC S bs left L)) := Lib.hid (fun o W9 hg => by
    have h1 := HB1.out o
    have h2 := h1.size
    rw [hg.block q (by omega) (fun e => H0.out.nr e.symm), h1.block q hql, H0.out.blk]; rfl)
  have hz : ∀ o : Obj, n₀ ≤ (w0.alloc o).drew.heap.size := fun o => Nat.le_trans hw (HB1.out o).size
  obtain ⟨a0, a1, a2, af0, af1, af2⟩ := cells3U (keptR9 ((Below.refl _ w0).alloc (Nat.le_refl _) (.cells #[.int .i64 v, .int .i64 t.kind, .string t.name, .int .i64 t.n, .slice ad t.args.length cap] 34)) hblk)
  clear HBA hb0 hq0 hblk
  go_region_law (refine step_app_bd (by rfl) (.tmp 10) (.tmp 14) (by rfl) (by rfl) (HBH.out _ (HB1.out _)) (by rfl) (by rfl) news5U one5P hlen (hz _) ?_; intro g9 cap9 W9 hown9 hgrow9 hat9; obtain ⟨p0, p1, p2, pf0, pf1, pf2⟩ := cells3U (HQ9.out _ W9 hgrow9))
  all_goals
    go_end0
    have hlow := H0.out.low
    exact ⟨_, rfl, Wk.bound H0.out (HB1.out _) HROW.out HV.out HT.out hown9 hgrow9 hat9, (((HB1.out _).mono hw).grown hgrow9 (hz _) fun k hk => (H0.out.rlt k hk).1).setCell (p := ⟨q, 0, none⟩) hlow _⟩

def alkU (A B : Tm) : Bool := decide (A.kind = B.kind) && (decide (A.name.toList = B.name.toList) && (decide (A.n = B.n) && decide (A.args.length = B.args.length)))
theorem alkU_iff (A B : Tm) : alkU A B = true ↔ A.kind = B.kind ∧ A.name = B.name ∧ A.n = B.n ∧ A.args.length = B.args.length := by
  unfold alkU
  rw [Bool.and_eq_true, Bool.and_eq_true, Bool.and_eq_true, decide_eq_true_eq, decide_eq_true_eq, decide_eq_true_eq, decide_eq_true_eq]
  have e : A.name.toList = B.name.toList ↔ A.name = B.name := ⟨fun q1 => by rw [Lib.toList_data, Lib.toList_data] at q1; exact ByteArray.ext (Array.toList_inj.mp q1), fun h => by rw [h]⟩
  rw [e]

set_option maxRecDepth 100000 in
set_option maxHeartbeats 4000000 in
theorem um_alike (A B : Tm) (ad bd : Option Addr) (ca cb : Nat) (w : World) :
    Calls Try.prog 31 #[tmv A ad ca, tmv B bd cb] w fun e w' => e = .returned (.bool (alkU A B)) ∧ Below w.heap.size w w' := by
  have hbb : ∀ o1 o2 : Obj, Below w.heap.size w ((w.alloc o1).alloc o2) := fun o1 o2 => ((Below.refl _ w).alloc (Nat.le_refl _) _).alloc (by simp) _
  have HBB := Lib.hid hbb
  clear hbb
  unfold tmv alkU
  by_cases q0 : A.kind = B.kind
  · rw [decide_eq_true q0, q0]
    clear q0
    by_cases q1 : A.name.toList = B.name.toList
    · rw [decide_eq_true q1]
      by_cases q3 : A.n = B.n
      · rw [decide_eq_true q3, q3]
        clear q3
        by_cases q2 : A.args.length = B.args.length
        · rw [decide_eq_true q2, q2]
          go_enter Try.func31, Try.ntmps31
          go_wp2_with fail
          go_ret
          exact ⟨rfl, HBB.out _ _⟩
        · rw [decide_eq_false q2]
          have e2 : ((A.args.length : Int) == (B.args.length : Int)) = false := by rw [beq_eq_false_iff_ne]; omega
          clear q2
          go_enter Try.func31, Try.ntmps31
          go_wp2_with fail
          go_ret
          exact ⟨rfl, HBB.out _ _⟩
      · rw [decide_eq_false q3]
        have e3 : (A.n == B.n) = false := by rw [beq_eq_false_iff_ne]; exact q3
        clear q3
        go_enter Try.func31, Try.ntmps31
        go_wp2_with fail
        go_ret
        exact ⟨rfl, HBB.out _ _⟩
    · rw [decide_eq_false q1]
      go_enter Try.func31, Try.ntmps31
      go_wp2_with fail
      go_ret
      exact ⟨rfl, HBB.out _ _⟩
  · rw [decide_eq_false q0]
    have e0 : (A.kind == B.kind) = false := by rw [beq_eq_false_iff_ne]; exact q0
    clear q0
    go_enter Try.func31, Try.ntmps31
    go_wp2_with fail
    go_ret
    exact ⟨rfl, HBB.out _ _⟩
end Go.Proofs.Ytlpmofmhcnclhaa
