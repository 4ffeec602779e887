/-
  Appending bindings to rows of a call's own; the row appended to nothing; shifted bindings.
-/
import Derived.Test.YtlpmofmhcnclhaaSubP
import Derived.Deep.RegionHeld3
namespace Go.Proofs.Ytlpmofmhcnclhaa
open Go.RowKit

theorem cells5S {w : World} {q : Nat} {a b c d e : Value} {t : TypeId} (h : w.heap[q]? = some (.cells #[a, b, c, d, e] t (0, 0))) : w.cell? ⟨q, 0, none⟩ = some a ∧ w.cell? ⟨q, 1, none⟩ = some b ∧ w.cell? ⟨q, 2, none⟩ = some c ∧ w.cell? ⟨q, 3, none⟩ = some d ∧ w.cell? ⟨q, 4, none⟩ = some e := by
  simp [World.cell?, h]
theorem shiftB_step (c : Int) (bs : List (Int × Tm)) (k : Nat) (hk : k < bs.length) : shiftB c (bs.take (k + 1)) = shiftB c (bs.take k) ++ [(bs[k].1 + c, bs[k].2.shift c)] := by
  unfold shiftB
  rw [List.take_succ_eq_append_getElem hk, List.map_append]; rfl
theorem shiftB_len (c : Int) (bs : List (Int × Tm)) : (shiftB c bs).length = bs.length := List.length_map _
theorem shiftB_take_len (c : Int) (bs : List (Int × Tm)) (k : Nat) (hk : k ≤ bs.length) : (shiftB c (bs.take k)).length = k := by rw [shiftB_len, List.length_take]; omega
theorem step_app_binds {w : World} {ops : Array Oper} {o : Oper} {a : Act} {K : Act → World → Prop} {Q : Exit → Act → World → Prop} {E : Prop} (hgd : o.guard = none) (s x : Operand)
    (ho : o.op = .call { callee := .builtin .append, args := #[s, x], argTypes := #[22, 22] }) {B : Nat} {v : Value} {n : Nat} {xs : List Value} (hs : a.eval s = v) (hown : w.ownsRow B 34 5 v n xs)
    {g m c : Nat} {news : List Value} (hx : a.eval x = .slice (some ⟨g, 0, none⟩) m c) (hl : news.length = m * 5) (hnews : ∀ j u, news[j]? = some u → w.cell? ((⟨g, 0, none⟩ : Addr).add j) = some u) (h1 : ∀ u ∈ news, u.oneCell' = true)
    (hm : 0 < m) (hn : n + m ≤ 2000000) (hbase : B ≤ w.heap.size)
    (h : ∀ g cap w', w'.ownsRow B 34 5 (.slice (some ⟨g, 0, none⟩) (n + m) cap) (n + m) (xs ++ news) → w.grownBy w' v.ownBlock → (v.ownBlock = some g ∨ g = w.heap.size) → g < w'.heap.size → K (a.put o.dst (.slice (some ⟨g, 0, none⟩) (n + m) cap)) w') :
    if Region.wanted o (yielded ops a.tmps) = true then Oper.wp Try.prog o a w K Q else E := by
  obtain ⟨i0, hi, hz0, hz1, hz2⟩ := info_partsB infoBd
  exact step_append_lies w hgd s x 22 ho B 34 i0 _ 5 64 Try.underlying22 hi hz0 hz1 hz2 rfl (by decide) v n xs hs hown _ m c news hx hl hnews h1 hm (by unfold maxLen; omega) (by omega) hbase _ rfl h
theorem app_shift {w2 w5 w6 w9 : World} {z : Nat} {lv v' : Value} {cs : List (Int × Tm)} {xs : List Value} {y : Int × Tm} {fa : Option Addr} {fc : Nat} {o q : Obj} (hq : w5.heap[z]? = some q) (h5 : Below w2.heap.size w2 w5) (h6 : Below w5.heap.size w5 w6) (hlt : ∀ k, lv.ownBlock = some k → w2.heap.size ≤ k ∧ k < z)
    (hrow : BRow w6 (fun b => w2.heap.size ≤ b ∧ some b ≠ lv.ownBlock) xs cs) (hi : In64 y.1) (hp : TmP w6 (fun b => w5.heap.size ≤ b) y.2 fa fc) (ho : w9.ownsRow w2.heap.size 34 5 v' (cs.length + 1) (xs ++ bcellsP y fa fc)) (hg : (w6.alloc o).grownBy w9 lv.ownBlock) (hat : v'.ownBlock = lv.ownBlock ∨ v'.ownBlock = some (w6.alloc o).heap.size) :
    OwnBds (fun b => w2.heap.size ≤ b) w2.heap.size w9 v' (cs ++ [y]) ∧ Below w2.heap.size w2 w9 ∧ w9.heap[z]? = some q := by
  have hz : z < w5.heap.size := (Array.getElem?_eq_some_iff.1 hq).1
  have h6s := h6.size
  have h5s := h5.size
  have h6a : Below w6.heap.size w6 (w6.alloc o) := (Below.refl _ _).alloc (Nat.le_refl _) _
  have hsa := h6a.size
  have hne : ∀ b, w5.heap.size ≤ b → w2.heap.size ≤ b ∧ some b ≠ lv.ownBlock := fun b hb => ⟨by omega, fun e => by have := hlt b e.symm; omega⟩
  refine ⟨OwnBds.grown (hrow.kept (fun b _ h => h6a.block b h) fun _ h _ => h) ho hg (hat.imp id fun h => ⟨_, h, Nat.le_refl _⟩) hi (hp.kept (fun b _ h => h6a.block b h) fun b h _ => hne b h), ?_, ?_⟩
  · exact ((h5.trans (h6.mono h5s)).trans (h6a.mono (by omega))).grown hg (by omega) fun k h => (hlt k h).1
  · rw [hg.block z (by omega) (fun e => by have := hlt z e.symm; omega), h6a.block z (by omega), h6.block z hz]
    exact hq
/-- The number that the law shifts by. -/
def byL (n : Int) : Int := min (max n 0) 1000000
theorem byL_in (n : Int) : 0 ≤ byL n ∧ byL n ≤ 1000000 := by unfold byL; omega
theorem run_append_zeroB {P : Program} (w : World) (t ty e : TypeId) (i : TypeInfo) (ht : P.underlying t = some (.slice e)) (hi : P.info? e = some i) (ad : Option Addr) (n cap : Nat) (hn : n ≤ cap) (adx : Option Addr) (c : Nat) :
    (Builtin.append_ #[t, t] ty #[.slice ad n cap, .slice adx 0 c]).run P w = .ok (.slice ad n cap) w := by
  cases adx with
  | none =>
    have hf := run_firstCells_none (P := P) w i.size 0 0 c
    cases ad <;> simp [Builtin.append_, run_underlying ht, sizeOf, typeInfo, hi, Builtin.lenOf, hn, hf, storeCells]
  | some a =>
    have hf := run_firstCells_some (P := P) w i.size 0 a 0 c [] (by simp) (by simp)
    cases ad <;> simp [Builtin.append_, run_underlying ht, sizeOf, typeInfo, hi, Builtin.lenOf, hn, hf, storeCells]
theorem addr_atB (g o j : Nat) : (⟨g, o, none⟩ : Addr).add j = ⟨g, o + j, none⟩ := by unfold Addr.add; split <;> simp_all
/-- Bindings in memory as a row of cells. -/
theorem brow_of {w : World} {P : Nat → Prop} {ad : Option Addr} {bs : List (Int × Tm)} (h : BdsAt w P ad bs) : ∀ n, n ≤ bs.length → ∃ xs, BRow w P xs (bs.take n) ∧ (∀ j u, xs[j]? = some u → ∃ g o, ad = some ⟨g, o, none⟩ ∧ w.cell? ⟨g, o + j, none⟩ = some u) ∧ ∀ u ∈ xs, u.oneCell' = true
  | 0, _ => ⟨[], BRow.nil, (fun j u hj => by cases hj), fun u hu => by cases hu⟩
  | n + 1, hn => by
    obtain ⟨xs, h1, h2, h3⟩ := brow_of h n (by omega)
    obtain ⟨b, o, a1, c1, e, _, hi, hp, x0, x1, x2, x3, x4⟩ := h n (by omega)
    have hlen : xs.length = n * 5 := by rw [h1.1, List.length_take]; omega
    refine ⟨xs ++ bcellsP bs[n] a1 c1, ?_, fun j u hj => ?_, fun u hu => ?_⟩
    · rw [List.take_succ_eq_append_getElem (by omega)]
      exact h1.snoc hi hp
    · by_cases hlt : j < xs.length
      · rw [List.getElem?_append_left hlt] at hj
        exact h2 j u hj
      · rw [List.getElem?_append_right (by omega)] at hj
        refine ⟨b, o, e, ?_⟩
        obtain ⟨i, rfl⟩ : ∃ i, j = n * 5 + i := ⟨j - n * 5, by omega⟩
        rw [show n * 5 + i - xs.length = i by omega] at hj
        rw [show o + (n * 5 + i) = o + n * 5 + i by omega, ← hj]
        match i with
        | 0 => exact x0
        | 1 => exact x1
        | 2 => exact x2
        | 3 => exact x3
        | 4 => exact x4
        | i + 5 => cases hj
    · rcases List.mem_append.1 hu with hu | hu
      · exact h3 u hu
      · exact one5P u hu
/-- The row appended to nothing. -/
theorem step_app_nilb {w : World} {ops : Array Oper} {o : Oper} {a : Act} {K : Act → World → Prop} {Q : Exit → Act → World → Prop} {E : Prop} (hgd : o.guard = none) (x : Operand)
    (ho : o.op = .call { callee := .builtin .append, args := #[.const (.slice none 0 0), x], argTypes := #[22, 22] }) (B : Nat)
    {adx : Option Addr} {m c : Nat} {news : List Value} (hx : a.eval x = .slice adx m c) (hl : news.length = m * 5) (hnews : ∀ j u, news[j]? = some u → ∃ g o, adx = some ⟨g, o, none⟩ ∧ w.cell? ⟨g, o + j, none⟩ = some u) (h1 : ∀ u ∈ news, u.oneCell' = true)
    (hm : m ≤ 1000000) (hbase : B ≤ w.heap.size)
    (h : ∀ v' w', w'.ownsRow B 34 5 v' m news → Below w.heap.size w w' → K (a.put o.dst v') w') :
    if Region.wanted o (yielded ops a.tmps) = true then Oper.wp Try.prog o a w K Q else E := by
  obtain ⟨i0, hi, hz0, hz1, hz2⟩ := info_partsB infoBd
  cases m with
  | zero =>
    have hnil : news = [] := List.eq_nil_of_length_eq_zero (by rw [hl, Nat.zero_mul])
    subst hnil
    have hw : Region.wanted o (yielded ops a.tmps) = true := by simp [Region.wanted, hgd]
    rw [if_pos hw]
    have hr := run_append_zeroB (P := Try.prog) w 22 o.type 34 i0 Try.underlying22 hi none 0 0 (Nat.le_refl _) adx c
    have hs : a.eval (.const (.slice none 0 0)) = .slice none 0 0 := rfl
    unfold Oper.wp execOp
    simp only [ho, resolve, invoke, builtin, Sem.run_bind, Sem.run_pure, Result.andThen_ok, List.map_toArray, List.map_cons, List.map_nil, hs, hx, hr]
    exact h _ w (World.ownsRow_nil _ _ _ _) (Below.refl _ _)
  | succ m =>
    obtain ⟨ad, rfl⟩ : ∃ ad, adx = some ad := by
      cases news with
      | nil => exact absurd hl (by show ¬ 0 = (m + 1) * 5; omega)
      | cons u us => obtain ⟨g, o, h2, _⟩ := hnews 0 u rfl; exact ⟨_, h2⟩
    refine step_append_lies w hgd _ x 22 ho B 34 i0 _ 5 64 Try.underlying22 hi hz0 hz1 hz2 rfl (by decide) (.slice none 0 0) 0 [] rfl (World.ownsRow_nil _ _ _ _) ad (m + 1) c news hx hl (fun j u hj => by obtain ⟨g, o, h2, h3⟩ := hnews j u hj; obtain rfl := Option.some.inj h2; rw [addr_atB]; exact h3) h1 (by omega) (by unfold maxLen; omega) (by omega) hbase _ rfl fun g cap w' h2 h3 _ _ => h _ w' ?_ ((Below.refl _ _).grown h3 (Nat.le_refl _) fun k hk => by cases hk)
    simp only [List.nil_append, Nat.zero_add] at h2 ⊢
    exact h2
/-- What stands behind the second append. -/
theorem order_post {B : Nat} {w2 w8 w9 : World} {v3 v9 : Value} {news : List Value} {bs : List (Int × Tm)} {y : Int × Tm} {ad : Option Addr} {cap : Nat} (hB : B ≤ w2.heap.size) (hb8 : Below B w2 w8) (hlt : ∀ k, v3.ownBlock = some k → B ≤ k) (hrow : BRow w8 (fun b => b < B) news bs) (hi : In64 y.1) (hp : TmP w8 (fun b => b < B) y.2 ad cap)
    (ho : w9.ownsRow B 34 5 v9 (bs.length + 1) (news ++ bcellsP y ad cap)) (hg : w8.grownBy w9 v3.ownBlock) (hat : v9.ownBlock = v3.ownBlock ∨ v9.ownBlock = some w8.heap.size) : OwnBds (fun b => b < B) B w9 v9 (bs ++ [y]) ∧ Below B w2 w9 := by
  have hne : ∀ b, b < B → b < B ∧ some b ≠ v3.ownBlock := fun b hb => ⟨hb, fun e => by have := hlt b e.symm; omega⟩
  refine ⟨OwnBds.grown (hrow.kept (fun _ _ _ => rfl) fun b h _ => hne b h) ho hg (hat.imp id fun h => ⟨_, h, Nat.le_refl _⟩) hi (hp.kept (fun _ _ _ => rfl) fun b h _ => hne b h), ?_⟩
  exact hb8.grown hg (by have := hb8.size; omega) hlt
end Go.Proofs.Ytlpmofmhcnclhaa
