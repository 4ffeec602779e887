/-
  The walk of the law SubstOrder.
-/
import Derived.Test.YtjgjeafjnaodkaaSubS
namespace Go.Proofs.Ytjgjeafjnaodkaa
open Go.RowKit

theorem run_append_zeroB {P : Program} (w : World) (t ty e : TypeId) (i : TypeInfo) (ht : P.underlying t = some (.slice e)) (hi : P.info? e = some i) (ad : Option Addr) (n cap : Nat) (hn : n ≤ cap) (adx : Option Addr) (c : Nat) :
    (Builtin.append_ #[t, t] ty #[.slice ad n cap, .slice adx 0 c]).run P w = .ok (.slice ad n cap) w := by
  cases adx with
  | none =>
    have hf := run_firstCells_none (P := P) w i.size 0 0 c
    cases ad <;> simp [Builtin.append_, run_underlying ht, sizeOf, typeInfo, hi, Builtin.lenOf, hn, hf, storeCells]
  | some a =>
    have hf := run_firstCells_some (P := P) w i.size 0 a 0 c [] (by simp) (by simp)
    cases ad <;> simp [Builtin.append_, run_underlying ht, sizeOf, typeInfo, hi, Builtin.lenOf, hn, hf, storeCells]
theorem addr_atB (g o j : Nat) : (⟨g, o, none⟩ : Addr).add j = ⟨g, o + j, none⟩ := by unfold Addr.add; split <;> simp_all
/-- Bindings in memory as a row of cells. -/
theorem brow_of {w : World} {P : Nat → Prop} {ad : Option Addr} {bs : List (Int × Tm)} (h : BdsAt w P ad bs) : ∀ n, n ≤ bs.length → ∃ xs, BRow w P xs (bs.take n) ∧ (∀ j u, xs[j]? = some u → ∃ g o, ad = some ⟨g, o, none⟩ ∧ w.cell? ⟨g, o + j, none⟩ = some u) ∧ ∀ u ∈ xs, u.oneCell' = true
  | 0, _ => ⟨[], BRow.nil, (fun j u hj => by cases hj), fun u hu => by cases hu⟩
  | n + 1, hn => by
    obtain ⟨xs, h1, h2, h3⟩ := brow_of h n (by omega)
    obtain ⟨b, o, a1, c1, e, _, hi, hp, x0, x1, x2, x3, x4⟩ := h n (by omega)
    have hlen : xs.length = n * 5 := by rw [h1.1, List.length_take]; omega
    refine ⟨xs ++ bcellsP bs[n] a1 c1, ?_, fun j u hj => ?_, fun u hu => ?_⟩
    · rw [List.take_succ_eq_append_getElem (by omega)]
      exact h1.snoc hi hp
    · by_cases hlt : j < xs.length
      · rw [List.getElem?_append_left hlt] at hj
        exact h2 j u hj
      · rw [List.getElem?_append_right (by omega)] at hj
        refine ⟨b, o, e, ?_⟩
        obtain ⟨i, rfl⟩ : ∃ i, j = n * 5 + i := ⟨j - n * 5, by omega⟩
        rw [show n * 5 + i - xs.length = i by omega] at hj
        rw [show o + (n * 5 + i) = o + n * 5 + i by omega, ← hj]
        match i with
        | 0 => exact x0
        | 1 => exact x1
        | 2 => exact x2
        | 3 => exact x3
        | 4 => exact x4
        | i + 5 => cases hj
    · rcases List.mem_append.1 hu with hu | hu
      · exact h3 u hu
      · exact one5P u hu
/-- The row appended to nothing. -/
theorem step_app_nilb {w : World} {ops : Array Oper} {o : Oper} {a : Act} {K : Act → World → Prop} {Q : Exit → Act → World → Prop} {E : Prop} (hgd : o.guard = none) (x : Operand)
    (ho : o.op = .call { callee := .builtin .append, args := #[.const (.slice none 0 0), x], argTypes := #[22, 22] }) (B : Nat)
    {adx : Option Addr} {m c : Nat} {news : List Value} (hx : a.eval x = .slice adx m c) (hl : news.length = m * 5) (hnews : ∀ j u, news[j]? = some u → ∃ g o, adx = some ⟨g, o, none⟩ ∧ w.cell? ⟨g, o + j, none⟩ = some u) (h1 : ∀ u ∈ news, u.oneCell' = true)
    (hm : m ≤ 1000000) (hbase : B ≤ w.heap.size)
    (h : ∀ v' w', w'.ownsRow B 41 5 v' m news → Below w.heap.size w w' → K (a.put o.dst v') w') :
    if Region.wanted o (yielded ops a.tmps) = true then Oper.wp Try.prog o a w K Q else E := by
  obtain ⟨i0, hi, hz0, hz1, hz2⟩ := info_partsB infoBd
  cases m with
  | zero =>
    have hnil : news = [] := List.eq_nil_of_length_eq_zero (by rw [hl, Nat.zero_mul])
    subst hnil
    have hw : Region.wanted o (yielded ops a.tmps) = true := by simp [Region.wanted, hgd]
    rw [if_pos hw]
    have hr := run_append_zeroB (P := Try.prog) w 22 o.type 41 i0 Try.underlying22 hi none 0 0 (Nat.le_refl _) adx c
    have hs : a.eval (.const (.slice none 0 0)) = .slice none 0 0 := rfl
    unfold Oper.wp execOp
    simp only [ho, resolve, invoke, builtin, Sem.run_bind, Sem.run_pure, Result.andThen_ok, List.map_toArray, List.map_cons, List.map_nil, hs, hx, hr]
    exact h _ w (World.ownsRow_nil _ _ _ _) (Below.refl _ _)
  | succ m =>
    obtain ⟨ad, rfl⟩ : ∃ ad, adx = some ad := by
      cases news with
      | nil => exact absurd hl (by show ¬ 0 = (m + 1) * 5; omega)
      | cons u us => obtain ⟨g, o, h2, _⟩ := hnews 0 u rfl; exact ⟨_, h2⟩
    refine step_append_lies w hgd _ x 22 ho B 41 i0 _ 5 64 Try.underlying22 hi hz0 hz1 hz2 rfl (by decide) (.slice none 0 0) 0 [] rfl (World.ownsRow_nil _ _ _ _) ad (m + 1) c news hx hl (fun j u hj => by obtain ⟨g, o, h2, h3⟩ := hnews j u hj; injection h2 with h2; subst h2; rw [addr_atB]; exact h3) h1 (by omega) (by unfold maxLen; omega) (by omega) hbase _ rfl fun g cap w' h2 h3 _ _ => h _ w' ?_ ((Below.refl _ _).grown h3 (Nat.le_refl _) fun k hk => by cases hk)
    simp only [List.nil_append, Nat.zero_add] at h2 ⊢
    exact h2
/-- What stands behind the second append. -/
theorem order_post {B : Nat} {w2 w8 w9 : World} {v3 v9 : Value} {news : List Value} {bs : List (Int × Tm)} {y : Int × Tm} {ad : Option Addr} {cap : Nat} (hB : B ≤ w2.heap.size) (hb8 : Below B w2 w8) (hlt : ∀ k, v3.ownBlock = some k → B ≤ k) (hrow : BRow w8 (fun b => b < B) news bs) (hi : In64 y.1) (hp : TmP w8 (fun b => b < B) y.2 ad cap)
    (ho : w9.ownsRow B 41 5 v9 (bs.length + 1) (news ++ bcellsP y ad cap)) (hg : w8.grownBy w9 v3.ownBlock) (hat : v9.ownBlock = v3.ownBlock ∨ v9.ownBlock = some w8.heap.size) : OwnBds (fun b => b < B) B w9 v9 (bs ++ [y]) ∧ Below B w2 w9 := by
  have hne : ∀ b, b < B → b < B ∧ some b ≠ v3.ownBlock := fun b hb => ⟨hb, fun e => by have := hlt b e.symm; omega⟩
  refine ⟨OwnBds.grown (hrow.kept (fun _ _ _ => rfl) fun b h _ => hne b h) ho hg (hat.imp id fun h => ⟨_, h, Nat.le_refl _⟩) hi (hp.kept (fun _ _ _ => rfl) fun b h _ => hne b h), ?_⟩
  exact hb8.grown hg (by have := hb8.size; omega) hlt

set_option maxRecDepth 100000 in
set_option maxHeartbeats 8000000 in
theorem walk_SubstOrder (bs : List (Int × Tm)) (ab : Option Addr) (cb : Nat) (v w' : Int) (t : Tm) (ad : Option Addr) (cap : Nat) (w : World) (hl : bs.length ≤ cb) (hc : cb ≤ maxLen) (hb : BdsAt w (fun b => b < w.heap.size) ab bs) (hv : In64 v) (_hw : In64 w') (hin : TmIn w t ad cap) :
    Calls Try.prog 5 #[.slice ab bs.length cb, .int .i64 v, .int .i64 w', tmv t ad cap] w fun e W => e = .returned (.bool true) ∧ Below w.heap.size w W := by
  have HL := Lib.hid (fun W => sub_live W)
  have HB0 := Lib.hid (fun o : Obj => (Below.refl w.heap.size w).alloc (Nat.le_refl _) o)
  have HIN := Lib.hid (fun W (h : Below w.heap.size w W) => hin.on h)
  have HBO := Lib.hid (fun W (h : Below w.heap.size w W) => hb.kept (w' := W) (Q := fun b => b < w.heap.size) (fun b _ hl => h.block b hl) fun b hb _ => hb)
  have HBD := Lib.hid (fun W (h : Below w.heap.size w W) => hb.kept (w' := W) (Q := fun b => b < W.heap.size) (fun b _ hl => h.block b hl) fun b hb _ => Nat.lt_of_lt_of_le hb h.size)
  have HBG := Lib.hid (fun W (g : Nat) (h : Below w.heap.size w W) (ht : TArgs W (some ⟨g, 0, none⟩) [t]) => (show Calls Try.prog 8 #[.slice ab bs.length cb, .slice (some ⟨g, 0, none⟩) 1 1] W _ from law_big9 bs ab cb [t] (some ⟨g, 0, none⟩) 1 W (HBD.out W h) (Nat.le_refl 1) (by decide) ht))
  have HNO := Lib.hid (fun (h : bigB bs [t] = false) => bigB_no h)
  clear hb hin
  generalize bigB bs [t] = bg at *
  unfold tmv at *
  go_enter Try.func5, Try.ntmps5
  go_wp2_with fail
  have q1 := alloc_new w (.cells #[.int .i64 t.kind, .string t.name, .int .i64 t.n, .slice ad t.args.length cap] 25)
  refine (HL.out _).mono ?_; rintro e w1 ⟨rfl, hb⟩
  have HB1 := Lib.hid ((HB0.out _).trans (hb.mono (by simp)))
  have HQ1 := Lib.hid (keptR9 hb q1)
  clear hb q1 HB0 HL
  obtain ⟨c0, c1, c2, c3, _⟩ := cellsT HQ1.out
  go_wp2_with fail
  generalize hw : w1.alloc (.cells #[.int .i64 t.kind, .string t.name, .int .i64 t.n, .slice ad t.args.length cap] 25) = w1a
  have HR1 : Hid (TArgs w1a (some ⟨w1.heap.size, 0, none⟩) [t]) := Lib.hid (by rw [← hw]; exact rowS1 (HIN.out _ HB1.out) _ rfl)
  have hb1a : Below w1.heap.size w1 w1a := by rw [← hw]; exact (Below.refl _ _).alloc (Nat.le_refl _) _
  have HB1a := Lib.hid (HB1.out.trans (hb1a.mono HB1.out.size))
  have HQ1a := Lib.hid (keptR9 hb1a HQ1.out)
  clear hw hb1a c0 c1 c2 c3 HQ1 HB1
  refine (HBG.out _ _ HB1a.out HR1.out).mono ?_; rintro e w2 ⟨rfl, hb2⟩
  have HB2 := Lib.hid (HB1a.out.trans (hb2.mono HB1a.out.size))
  have HQ2 := Lib.hid (keptR9 hb2 HQ1a.out)
  clear hb2 HQ1a HR1 HB1a HBG
  cases bg with
  | true =>
    go_wp2_with fail
    go_ret
    exact ⟨rfl, HB2.out⟩
  | false =>
    obtain ⟨hn1, hn2, hn3⟩ := HNO.out rfl
    have hts : t.size ≤ 3000 := hn3 t (by simp)
    have HN2 := Lib.hid hn2
    clear hn2 hn3
    obtain ⟨news, hnr, hnc, hno⟩ := brow_of (HBO.out _ HB2.out) bs.length (Nat.le_refl _)
    rw [List.take_length] at hnr
    have hnl := hnr.1
    have HNR : Hid (∀ W, Below w2.heap.size w2 W → BRow W (fun b => b < w2.heap.size) news bs) := Lib.hid (fun W h => hnr.kept (fun b _ hl => h.block b hl) fun b hb _ => Nat.lt_of_lt_of_le hb HB2.out.size)
    have HNC : Hid (∀ W, Below w2.heap.size w2 W → ∀ j u, news[j]? = some u → ∃ g o, ab = some ⟨g, o, none⟩ ∧ W.cell? ⟨g, o + j, none⟩ = some u) := Lib.hid (fun W h j u hj => by
      obtain ⟨g, o, e, hc⟩ := hnc j u hj
      exact ⟨g, o, e, (h.cell (p := ⟨g, o + j, none⟩) (World.block_lt_of_cell? w2 ⟨g, o + j, none⟩ hc)).trans hc⟩)
    have HTP : Hid (∀ W, Below w2.heap.size w2 W → TmP W (fun b => b < w2.heap.size) t ad cap) := Lib.hid (fun W h => (HIN.out _ HB2.out).inP.kept (fun b _ hl => h.block b hl) fun b hb _ => hb)
    have HNO' := Lib.hid hno
    have HK : Hid (∀ W, Below w2.heap.size w2 W → W.cell? ⟨w.heap.size, 0, none⟩ = some (.int .i64 t.kind) ∧ W.cell? ⟨w.heap.size, 1, none⟩ = some (.string t.name) ∧ W.cell? ⟨w.heap.size, 2, none⟩ = some (.int .i64 t.n) ∧ W.cell? ⟨w.heap.size, 3, none⟩ = some (.slice ad t.args.length cap)) := Lib.hid (fun W h => by
      obtain ⟨c0, c1, c2, c3, _⟩ := cellsT (keptR9 h HQ2.out)
      exact ⟨c0, c1, c2, c3⟩)
    have bD : Below w2.heap.size w2 w2.drew := (Below.refl _ w2).drew
    have bA : ∀ o, Below w2.heap.size w2 (w2.alloc o).drew := fun o => ((Below.refl _ w2).alloc (Nat.le_refl _) o).drew
    clear hnr hnc hno
    go_upto_region 4 with fail
    go_region_held3 (fun W => W.cell? ⟨w.heap.size, 0, none⟩ = some (.int .i64 t.kind) ∧ W.cell? ⟨w.heap.size, 1, none⟩ = some (.string t.name) ∧ W.cell? ⟨w.heap.size, 2, none⟩ = some (.int .i64 t.n) ∧ W.cell? ⟨w.heap.size, 3, none⟩ = some (.slice ad t.args.length cap))
      (first | with_reducible exact HK.out _ HB9.out | with_reducible exact HK.out _ b3 | with_reducible exact HK.out _ (b3.alloc b3.size _) | with_reducible exact HK.out _ bD | with_reducible exact HK.out _ (bA _))
      (first
        | (refine step_app_nilb (by rfl) (.tmp 23) (by rfl) w2.heap.size (by rfl) hnl (HNC.out _ bD) HNO'.out (by omega) bD.size ?_; intro v3 w3 hown3 hb3; have b3 := bD.trans (hb3.mono bD.size); have HO3 := Lib.hid hown3; clear hown3 hb3)
        | (refine step_app_nilb (by rfl) (.tmp 23) (by rfl) w2.heap.size (by rfl) hnl (HNC.out _ (bA _)) HNO'.out (by omega) (bA _).size ?_; intro v3 w3 hown3 hb3; have b3 := (bA _).trans (hb3.mono (bA _).size); have HO3 := Lib.hid hown3; have HC3 := Lib.hid hb3; clear hown3 hb3)
        | (refine step_app_binds (by rfl) (.tmp 24) (.tmp 28) (by rfl) (by rfl) (HO3.out.alloc _) (by rfl) rfl (cells5P (b := (v, t))) one5P (by decide) (by omega) (b3.alloc b3.size _).size ?_; intro g9 cap9 w9 hown9 hgrow hat hlt9; obtain ⟨ho9, hb9⟩ := order_post (Nat.le_refl _) (b3.alloc b3.size _) (fun k hk => (HO3.out.lt k hk).1) (HNR.out _ (b3.alloc b3.size _)) (y := (v, t)) hv (HTP.out _ (b3.alloc b3.size _)) hown9 hgrow (hat.elim (fun e => .inl e.symm) fun e => .inr (by rw [e]; rfl)); have HO9 := Lib.hid ho9; have HB9 := Lib.hid hb9; clear ho9 hb9 hown9 hgrow hat hlt9)
        | (refine step_app_binds (by rfl) (.tmp 24) (.tmp 28) (by rfl) (by rfl) HO3.out (by rfl) rfl (fun j u hj => (HC3.out.cell (World.block_lt_of_cell? _ _ (cells5P (b := (v, t)) j u hj))).trans (cells5P (b := (v, t)) j u hj)) one5P (by decide) (by omega) b3.size ?_; intro g9 cap9 w9 hown9 hgrow hat hlt9; obtain ⟨ho9, hb9⟩ := order_post (Nat.le_refl _) b3 (fun k hk => (HO3.out.lt k hk).1) (HNR.out _ b3) (y := (v, t)) hv (HTP.out _ b3) hown9 hgrow (hat.elim (fun e => .inl e.symm) fun e => .inr (by rw [e]; rfl)); have HO9 := Lib.hid ho9; have HB9 := Lib.hid hb9; clear ho9 hb9 hown9 hgrow hat hlt9))
    all_goals
      clear HNR HNC HNO' HK bD bA
      obtain ⟨ma, mc, he, hml, hmc, hma⟩ := HO9.out.at
      injection he with e1 e2 e3
      subst e1 e3
      have h1 : lookL (bs ++ [(v, t)]) v = some t := by rw [lookL_snoc, if_pos rfl]
      have h2 : lookL (bs ++ [(v, t)]) w' = if v = w' then some t else lookL bs w' := lookL_snoc _ _ _ _
      have LKM := Lib.hid (fun n W (h : Below w9.heap.size w9 W) => sb_Look (bs ++ [(v, t)]) n _ _ W (by rw [← e2]; omega) hml hmc (fun b hb => (List.mem_append.1 hb).elim (fun hb => Nat.le_trans (HN2.out b hb) (by decide)) fun hb => by obtain rfl := List.mem_singleton.1 hb; exact Nat.le_trans hts (by decide)) (hma.kept (w' := W) (Q := fun b => b < W.heap.size) (fun b _ hl => h.block b hl) fun b hb _ => Nat.lt_of_lt_of_le hb h.size))
      have LK1 := Lib.hid (LKM.out v)
      have LK2 := Lib.hid (LKM.out w')
      have LK3 := Lib.hid (fun W (h : Below w.heap.size w W) => sb_Look bs w' ab cb W (by omega) hl hc (fun b hb => Nat.le_trans (HN2.out b hb) (by decide)) (HBD.out W h))
      have hs3 : ((lookL bs w').getD zeroT).size ≤ 300 := by
        cases hlk : lookL bs w' with
        | none => decide
        | some z => exact HN2.out (w', z) (lookL_mem hlk)
      have hsame : w' ≠ v → (if v = w' then some t else lookL bs w') = lookL bs w' := fun h => if_neg fun e => h e.symm
      have HSE := Lib.hid hsame
      have HT9 := Lib.hid ((HTP.out _ HB9.out).toIn)
      have HQt := Lib.hid (keptR9 HB9.out HQ2.out)
      have HB29 := Lib.hid (HB2.out.trans (HB9.out.mono HB2.out.size))
      simp only [h1, ← e2, Option.getD_some, Option.isSome_some] at LK1
      simp only [h2, ← e2] at LK2
      clear e2 hma hml hmc LKM hsame h1 h2 HTP HN2 HBO HBD HIN HNO HQ2 HO9
      generalize (if v = w' then some t else lookL bs w') = l2 at *
      generalize lookL bs w' = l3 at *
      generalize hT2 : l2.getD zeroT = T2 at *
      generalize hT3 : l3.getD zeroT = T3 at *
      generalize hI2 : l2.isSome = i2 at *
      generalize hI3 : l3.isSome = i3 at *
      unfold tmv at LK1 LK2 LK3
      go_wp2_with fail
      refine (LK1.out _ (Below.refl _ _)).mono ?_; rintro e wa ⟨xa, xc, rfl, hX, hbX⟩
      have HXl := Lib.hid hX
      have HBXl := Lib.hid hbX
      clear hX hbX
      go_upto_region 6 with fail
      generalize hwX : wa.alloc (.cells #[.int .i64 t.kind, .string t.name, .int .i64 t.n, .slice xa t.args.length xc] 25) = wb
      have HQX : Hid (wb.heap[wa.heap.size]? = some (.cells #[.int .i64 t.kind, .string t.name, .int .i64 t.n, .slice xa t.args.length xc] 25 (0, 0))) := Lib.hid (by rw [← hwX]; exact alloc_new wa _)
      have hbX : Below wa.heap.size wa wb := by rw [← hwX]; exact (Below.refl _ _).alloc (Nat.le_refl _) _
      have HBX := Lib.hid (HBXl.out.trans (hbX.mono HBXl.out.size))
      have HX := Lib.hid (HXl.out.on hbX)
      clear hwX hbX HXl HBXl
      go_wp2_with fail
      refine (LK2.out _ HBX.out).mono ?_; rintro e wc ⟨ya, yc, rfl, hY, hbY⟩
      have HYl := Lib.hid hY
      have HBYl := Lib.hid hbY
      clear hY hbY
      go_upto_region 7 with fail
      generalize hwY : wc.alloc (.cells #[.int .i64 T2.kind, .string T2.name, .int .i64 T2.n, .slice ya T2.args.length yc] 25) = wd
      have HQY : Hid (wd.heap[wc.heap.size]? = some (.cells #[.int .i64 T2.kind, .string T2.name, .int .i64 T2.n, .slice ya T2.args.length yc] 25 (0, 0))) := Lib.hid (by rw [← hwY]; exact alloc_new wc _)
      have hbY : Below wc.heap.size wc wd := by rw [← hwY]; exact (Below.refl _ _).alloc (Nat.le_refl _) _
      have HBY := Lib.hid (HBYl.out.trans (hbY.mono HBYl.out.size))
      have HY := Lib.hid (HYl.out.on hbY)
      clear hwY hbY HYl HBYl
      have HBXY := Lib.hid (HBX.out.trans (HBY.out.mono HBX.out.size))
      have HXd := Lib.hid (HX.out.on HBY.out)
      have HQXd := Lib.hid (keptR9 HBY.out HQX.out)
      go_wp2_with fail
      refine (LK3.out _ (HB29.out.trans (HBXY.out.mono HB29.out.size))).mono ?_; rintro e we ⟨za, zc, rfl, hZ, hbZ⟩
      have HZl := Lib.hid hZ
      have HBZl := Lib.hid hbZ
      clear hZ hbZ
      go_upto_region 8 with fail
      generalize hwZ : we.alloc (.cells #[.int .i64 T3.kind, .string T3.name, .int .i64 T3.n, .slice za T3.args.length zc] 25) = wf
      have HQZ : Hid (wf.heap[we.heap.size]? = some (.cells #[.int .i64 T3.kind, .string T3.name, .int .i64 T3.n, .slice za T3.args.length zc] 25 (0, 0))) := Lib.hid (by rw [← hwZ]; exact alloc_new we _)
      have hbZ : Below we.heap.size we wf := by rw [← hwZ]; exact (Below.refl _ _).alloc (Nat.le_refl _) _
      have HBZ := Lib.hid (HBZl.out.trans (hbZ.mono HBZl.out.size))
      have HZ := Lib.hid (HZl.out.on hbZ)
      clear hwZ hbZ HZl HBZl
      have HXf := Lib.hid (HXd.out.on HBZ.out)
      have HYf := Lib.hid (HY.out.on HBZ.out)
      have HB9f := Lib.hid (HBXY.out.trans (HBZ.out.mono HBXY.out.size))
      have HTf := Lib.hid (HT9.out.on HB9f.out)
      have HQtf := Lib.hid (keptR9 HB9f.out HQt.out)
      have HQXf := Lib.hid (keptR9 HBZ.out HQXd.out)
      have HQYf := Lib.hid (keptR9 HBZ.out HQY.out)
      have HBf := Lib.hid (HB29.out.trans (HB9f.out.mono HB29.out.size))
      have HSA := Lib.hid (fun W (h : Below wf.heap.size wf W) => same_yes t xa ad xc cap W (by omega) (HXf.out.on h) (HTf.out.on h))
      unfold tmv at HSA
      clear HBX HBY HBXY HXd HQXd HX HY HT9 HQt HQX HQY HBZ HB9f HB29 HXf HTf LK1 LK2 LK3 HB2 HB9 HO3
      by_cases hvw : w' = v
      · subst hvw
        clear HSE HYf HZ HQYf HQZ
        have HK : Hid (∀ W, Below wf.heap.size wf W → W.cell? ⟨w.heap.size, 0, none⟩ = some (.int .i64 t.kind) ∧ W.cell? ⟨w.heap.size, 1, none⟩ = some (.string t.name) ∧ W.cell? ⟨w.heap.size, 2, none⟩ = some (.int .i64 t.n) ∧ W.cell? ⟨w.heap.size, 3, none⟩ = some (.slice ad t.args.length cap) ∧ W.cell? ⟨wa.heap.size, 0, none⟩ = some (.int .i64 t.kind) ∧ W.cell? ⟨wa.heap.size, 1, none⟩ = some (.string t.name) ∧ W.cell? ⟨wa.heap.size, 2, none⟩ = some (.int .i64 t.n) ∧ W.cell? ⟨wa.heap.size, 3, none⟩ = some (.slice xa t.args.length xc)) := Lib.hid (fun W h => by
          obtain ⟨c0, c1, c2, c3, _⟩ := cellsT (keptR9 h HQtf.out)
          obtain ⟨x0, x1, x2, x3, _⟩ := cellsT (keptR9 h HQXf.out)
          exact ⟨c0, c1, c2, c3, x0, x1, x2, x3⟩)
        obtain ⟨c0, c1, c2, c3, x0, x1, x2, x3⟩ := HK.out wf (Below.refl _ _)
        go_wp2_with fail
        refine (HSA.out _ (Below.refl _ _)).mono ?_; rintro e wB ⟨rfl, hbB⟩
        have HBB := Lib.hid (HBf.out.trans (hbB.mono HBf.out.size))
        clear hbB c0 c1 c2 c3 x0 x1 x2 x3
        go_wp2_with fail
        go_ret
        exact ⟨rfl, HBB.out⟩
      · have hl := HSE.out hvw
        subst hl
        obtain rfl : T2 = T3 := hT2.symm.trans hT3
        obtain rfl : i2 = i3 := hI2.symm.trans hI3
        have hd : decide (w' = v) = false := decide_eq_false hvw
        have HK : Hid (∀ W, Below wf.heap.size wf W → W.cell? ⟨w.heap.size, 0, none⟩ = some (.int .i64 t.kind) ∧ W.cell? ⟨w.heap.size, 1, none⟩ = some (.string t.name) ∧ W.cell? ⟨w.heap.size, 2, none⟩ = some (.int .i64 t.n) ∧ W.cell? ⟨w.heap.size, 3, none⟩ = some (.slice ad t.args.length cap) ∧ W.cell? ⟨wa.heap.size, 0, none⟩ = some (.int .i64 t.kind) ∧ W.cell? ⟨wa.heap.size, 1, none⟩ = some (.string t.name) ∧ W.cell? ⟨wa.heap.size, 2, none⟩ = some (.int .i64 t.n) ∧ W.cell? ⟨wa.heap.size, 3, none⟩ = some (.slice xa t.args.length xc) ∧ W.cell? ⟨wc.heap.size, 0, none⟩ = some (.int .i64 T2.kind) ∧ W.cell? ⟨wc.heap.size, 1, none⟩ = some (.string T2.name) ∧ W.cell? ⟨wc.heap.size, 2, none⟩ = some (.int .i64 T2.n) ∧ W.cell? ⟨wc.heap.size, 3, none⟩ = some (.slice ya T2.args.length yc) ∧ W.cell? ⟨we.heap.size, 0, none⟩ = some (.int .i64 T2.kind) ∧ W.cell? ⟨we.heap.size, 1, none⟩ = some (.string T2.name) ∧ W.cell? ⟨we.heap.size, 2, none⟩ = some (.int .i64 T2.n) ∧ W.cell? ⟨we.heap.size, 3, none⟩ = some (.slice za T2.args.length zc)) := Lib.hid (fun W h => by
          obtain ⟨c0, c1, c2, c3, _⟩ := cellsT (keptR9 h HQtf.out)
          obtain ⟨x0, x1, x2, x3, _⟩ := cellsT (keptR9 h HQXf.out)
          obtain ⟨y0, y1, y2, y3, _⟩ := cellsT (keptR9 h HQYf.out)
          obtain ⟨z0, z1, z2, z3, _⟩ := cellsT (keptR9 h HQZ.out)
          exact ⟨c0, c1, c2, c3, x0, x1, x2, x3, y0, y1, y2, y3, z0, z1, z2, z3⟩)
        have HSB := Lib.hid (fun W (h : Below wf.heap.size wf W) => same_yes T2 ya za yc zc W (by omega) (HYf.out.on h) (HZ.out.on h))
        unfold tmv at HSB
        clear HYf HZ HQYf HQZ HQtf HQXf HSE hT2 hT3 hI2 hI3
        obtain ⟨c0, c1, c2, c3, x0, x1, x2, x3, _⟩ := HK.out wf (Below.refl _ _)
        go_wp2_with fail
        refine (HSA.out _ (Below.refl _ _)).mono ?_; rintro e wB ⟨rfl, hbB⟩
        have bB := hbB
        obtain ⟨_, _, _, _, _, _, _, _, y0, y1, y2, y3, z0, z1, z2, z3⟩ := HK.out wB hbB
        have HBB := Lib.hid hbB
        clear hbB bB c0 c1 c2 c3 x0 x1 x2 x3
        go_wp2_with fail
        refine (HSB.out _ HBB.out).mono ?_; rintro e wC ⟨rfl, hbC⟩
        have HBC := Lib.hid (HBf.out.trans ((HBB.out.trans (hbC.mono HBB.out.size)).mono HBf.out.size))
        clear hbC y0 y1 y2 y3 z0 z1 z2 z3
        go_wp2_with fail
        go_ret
        exact ⟨rfl, HBC.out⟩
end Go.Proofs.Ytjgjeafjnaodkaa
