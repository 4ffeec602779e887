/-
  The walk of the law SubstShifts.
-/
import Derived.Test.YtjgjeafjnaodkaaSubP
import Derived.Test.YtjgjeafjnaodkaaSubG
import Derived.Deep.RegionHeld3
namespace Go.Proofs.Ytjgjeafjnaodkaa
open Go.RowKit

theorem cells5S {w : World} {q : Nat} {a b c d e : Value} {t : TypeId} (h : w.heap[q]? = some (.cells #[a, b, c, d, e] t (0, 0))) : w.cell? ⟨q, 0, none⟩ = some a ∧ w.cell? ⟨q, 1, none⟩ = some b ∧ w.cell? ⟨q, 2, none⟩ = some c ∧ w.cell? ⟨q, 3, none⟩ = some d ∧ w.cell? ⟨q, 4, none⟩ = some e := by
  simp [World.cell?, h]
theorem shiftB_step (c : Int) (bs : List (Int × Tm)) (k : Nat) (hk : k < bs.length) : shiftB c (bs.take (k + 1)) = shiftB c (bs.take k) ++ [(bs[k].1 + c, bs[k].2.shift c)] := by
  unfold shiftB
  rw [List.take_succ_eq_append_getElem hk, List.map_append]; rfl
theorem shiftB_len (c : Int) (bs : List (Int × Tm)) : (shiftB c bs).length = bs.length := List.length_map _
theorem shiftB_take_len (c : Int) (bs : List (Int × Tm)) (k : Nat) (hk : k ≤ bs.length) : (shiftB c (bs.take k)).length = k := by rw [shiftB_len, List.length_take]; omega
theorem step_app_binds {w : World} {ops : Array Oper} {o : Oper} {a : Act} {K : Act → World → Prop} {Q : Exit → Act → World → Prop} {E : Prop} (hgd : o.guard = none) (s x : Operand)
    (ho : o.op = .call { callee := .builtin .append, args := #[s, x], argTypes := #[22, 22] }) {B : Nat} {v : Value} {n : Nat} {xs : List Value} (hs : a.eval s = v) (hown : w.ownsRow B 41 5 v n xs)
    {g m c : Nat} {news : List Value} (hx : a.eval x = .slice (some ⟨g, 0, none⟩) m c) (hl : news.length = m * 5) (hnews : ∀ j u, news[j]? = some u → w.cell? ((⟨g, 0, none⟩ : Addr).add j) = some u) (h1 : ∀ u ∈ news, u.oneCell' = true)
    (hm : 0 < m) (hn : n + m ≤ 2000000) (hbase : B ≤ w.heap.size)
    (h : ∀ g cap w', w'.ownsRow B 41 5 (.slice (some ⟨g, 0, none⟩) (n + m) cap) (n + m) (xs ++ news) → w.grownBy w' v.ownBlock → (v.ownBlock = some g ∨ g = w.heap.size) → g < w'.heap.size → K (a.put o.dst (.slice (some ⟨g, 0, none⟩) (n + m) cap)) w') :
    if Region.wanted o (yielded ops a.tmps) = true then Oper.wp Try.prog o a w K Q else E := by
  obtain ⟨i0, hi, hz0, hz1, hz2⟩ := info_partsB infoBd
  exact step_append_lies w hgd s x 22 ho B 41 i0 _ 5 64 Try.underlying22 hi hz0 hz1 hz2 rfl (by decide) v n xs hs hown _ m c news hx hl hnews h1 hm (by unfold maxLen; omega) (by omega) hbase _ rfl h
theorem app_shift {w2 w5 w6 w9 : World} {z : Nat} {lv v' : Value} {cs : List (Int × Tm)} {xs : List Value} {y : Int × Tm} {fa : Option Addr} {fc : Nat} {o q : Obj} (hq : w5.heap[z]? = some q) (h5 : Below w2.heap.size w2 w5) (h6 : Below w5.heap.size w5 w6) (hlt : ∀ k, lv.ownBlock = some k → w2.heap.size ≤ k ∧ k < z)
    (hrow : BRow w6 (fun b => w2.heap.size ≤ b ∧ some b ≠ lv.ownBlock) xs cs) (hi : In64 y.1) (hp : TmP w6 (fun b => w5.heap.size ≤ b) y.2 fa fc) (ho : w9.ownsRow w2.heap.size 41 5 v' (cs.length + 1) (xs ++ bcellsP y fa fc)) (hg : (w6.alloc o).grownBy w9 lv.ownBlock) (hat : v'.ownBlock = lv.ownBlock ∨ v'.ownBlock = some (w6.alloc o).heap.size) :
    OwnBds (fun b => w2.heap.size ≤ b) w2.heap.size w9 v' (cs ++ [y]) ∧ Below w2.heap.size w2 w9 ∧ w9.heap[z]? = some q := by
  have hz : z < w5.heap.size := (Array.getElem?_eq_some_iff.1 hq).1
  have h6s := h6.size
  have h5s := h5.size
  have h6a : Below w6.heap.size w6 (w6.alloc o) := (Below.refl _ _).alloc (Nat.le_refl _) _
  have hsa := h6a.size
  have hne : ∀ b, w5.heap.size ≤ b → w2.heap.size ≤ b ∧ some b ≠ lv.ownBlock := fun b hb => ⟨by omega, fun e => by have := hlt b e.symm; omega⟩
  refine ⟨OwnBds.grown (hrow.kept (fun b _ h => h6a.block b h) fun _ h _ => h) ho hg (hat.imp id fun h => ⟨_, h, Nat.le_refl _⟩) hi (hp.kept (fun b _ h => h6a.block b h) fun b h _ => hne b h), ?_, ?_⟩
  · exact ((h5.trans (h6.mono h5s)).trans (h6a.mono (by omega))).grown hg (by omega) fun k h => (hlt k h).1
  · rw [hg.block z (by omega) (fun e => by have := hlt z e.symm; omega), h6a.block z (by omega), h6.block z hz]
    exact hq
/-- The number that the law shifts by. -/
def byL (n : Int) : Int := min (max n 0) 1000000
theorem byL_in (n : Int) : 0 ≤ byL n ∧ byL n ≤ 1000000 := by unfold byL; omega

set_option linter.unusedSimpArgs false in
set_option maxRecDepth 100000 in
set_option maxHeartbeats 8000000 in
theorem walk_SubstShifts (bs : List (Int × Tm)) (ab : Option Addr) (cb : Nat) (t : Tm) (ad : Option Addr) (cap : Nat) (by' : Int) (w : World) (hl : bs.length ≤ cb) (hc : cb ≤ maxLen) (hb : BdsAt w (fun b => b < w.heap.size) ab bs) (hin : TmIn w t ad cap) (_hby : In64 by') :
    Calls Try.prog 6 #[.slice ab bs.length cb, tmv t ad cap, .int .i64 by'] w fun e w' => e = .returned (.bool true) ∧ Below w.heap.size w w' := by
  have HL := Lib.hid (fun W => sub_live W)
  have HB0 := Lib.hid (fun o : Obj => (Below.refl w.heap.size w).alloc (Nat.le_refl _) o)
  have HIN := Lib.hid (fun W (h : Below w.heap.size w W) => hin.on h)
  have HBO := Lib.hid (fun W (h : Below w.heap.size w W) => hb.kept (w' := W) (Q := fun b => b < w.heap.size) (fun b _ hl => h.block b hl) fun b hb _ => hb)
  have HBD := Lib.hid (fun W (h : Below w.heap.size w W) => hb.kept (w' := W) (Q := fun b => b < W.heap.size) (fun b _ hl => h.block b hl) fun b hb _ => Nat.lt_of_lt_of_le hb h.size)
  have HBG := Lib.hid (fun W (g : Nat) (h : Below w.heap.size w W) (ht : TArgs W (some ⟨g, 0, none⟩) [t]) => (show Calls Try.prog 8 #[.slice ab bs.length cb, .slice (some ⟨g, 0, none⟩) 1 1] W _ from law_big9 bs ab cb [t] (some ⟨g, 0, none⟩) 1 W (HBD.out W h) (Nat.le_refl 1) (by decide) ht))
  have HNO := Lib.hid (fun (h : bigB bs [t] = false) => bigB_no h)
  have HRS := Lib.hid (fun W (hle : bs.length ≤ 1000000) (hz : ∀ b ∈ bs, b.2.size ≤ 300) (hts : t.size ≤ 1000000) (h : Below w.heap.size w W) => sb_Resolve bs ab cb t ad cap W hle hl hc (fun b hb => Nat.le_trans (hz b hb) (by decide)) (HBD.out W h) hts (hin.on h))
  have HTF := Lib.hid (twice_facts bs t)
  have HN64 := Lib.hid ((Tm.n64_eq t).2 ⟨hin.n, hin.args.n64⟩)
  have HB64 := Lib.hid hb.n64
  obtain ⟨i0, hi, hz0, hz1, hz2⟩ := info_partsB infoBd
  have hbl := byL_in by'
  have HBY : Hid (byL by' = min (max by' 0) 1000000) := Lib.hid rfl
  clear hb hin
  generalize bigB bs [t] = bg at *
  unfold tmv at *
  go_enter Try.func6, Try.ntmps6
  go_wp2_with fail
  have q1 := alloc_new w (.cells #[.int .i64 t.kind, .string t.name, .int .i64 t.n, .slice ad t.args.length cap] 25)
  refine (HL.out _).mono ?_; rintro e w1 ⟨rfl, hb⟩
  have HB1 := Lib.hid ((HB0.out _).trans (hb.mono (by simp)))
  have HQ1 := Lib.hid (keptR9 hb q1)
  clear hb q1 HB0 HL
  obtain ⟨c0, c1, c2, c3, _⟩ := cellsT HQ1.out
  go_wp2_with fail
  generalize hw : w1.alloc (.cells #[.int .i64 t.kind, .string t.name, .int .i64 t.n, .slice ad t.args.length cap] 25) = w1a
  have HR1 : Hid (TArgs w1a (some ⟨w1.heap.size, 0, none⟩) [t]) := Lib.hid (by rw [← hw]; exact rowS1 (HIN.out _ HB1.out) _ rfl)
  have hb1a : Below w1.heap.size w1 w1a := by rw [← hw]; exact (Below.refl _ _).alloc (Nat.le_refl _) _
  have HB1a := Lib.hid (HB1.out.trans (hb1a.mono HB1.out.size))
  have HQ1a := Lib.hid (keptR9 hb1a HQ1.out)
  clear hw hb1a c0 c1 c2 c3 HQ1 HB1
  refine (HBG.out _ _ HB1a.out HR1.out).mono ?_; rintro e w2 ⟨rfl, hb2⟩
  have HB2 := Lib.hid (HB1a.out.trans (hb2.mono HB1a.out.size))
  have HQ2 := Lib.hid (keptR9 hb2 HQ1a.out)
  clear hb2 HQ1a HR1 HB1a HBG
  cases bg with
  | true =>
    go_wp2_with fail
    go_ret
    exact ⟨rfl, HB2.out⟩
  | false =>
    obtain ⟨hn1, hn2, hn3⟩ := HNO.out rfl
    have hts : t.size ≤ 3000 := hn3 t (by simp)
    have HN2 := Lib.hid hn2
    clear hn2 hn3
    obtain ⟨c0, c1, c2, c3, _⟩ := cellsT HQ2.out
    go_wp2_with fail
    obtain ⟨c, hcv⟩ : ∃ c, min (max by' 0) 1000000 = c := ⟨_, rfl⟩
    rw [← HBY.out] at hcv
    rw [hcv] at hbl
    rw [HBY.out] at hcv
    rw [hcv]
    obtain ⟨hc0, hc1⟩ := hbl
    have hc64 : In64 c := ⟨by omega, by omega⟩
    clear hcv HBY c0 c1 c2 c3
    have hw2s := HB2.out.size
    go_loopw [8, 26] (fun lv iv wr => ∃ k : Nat, k ≤ bs.length ∧ iv = .int .i64 k ∧ Below w2.heap.size w2 wr ∧ OwnBds (fun b => w2.heap.size ≤ b) w2.heap.size wr lv (shiftB c (bs.take k)) ∧ Hid (∀ j (hj : j < bs.length), j < k → -1000000 ≤ bs[j].1 ∧ bs[j].1 ≤ 1000000)) (fun _ iv _ => bs.length - (intOf iv).toNat)
    case atStart => exact ⟨0, Nat.zero_le _, rfl, Below.refl _ _, OwnBds.nil _ _ _, Lib.hid fun j _ h => by cases h⟩
    case round =>
      obtain ⟨k, hk, rfl, hbw, hown, HRG⟩ := hrel
      have hwrs := hbw.size
      have HBW := Lib.hid (HB2.out.trans (hbw.mono HB2.out.size))
      have HQW := Lib.hid (keptR9 hbw HQ2.out)
      by_cases hlt : k < bs.length
      · obtain ⟨b, o, a1, d1, rfl, hPb, hi64, hp, x0, x1, x2, x3, x4⟩ := HBO.out wr HBW.out k hlt
        have HST := Lib.hid (shiftB_step c bs k hlt)
        have hal := shiftB_take_len c bs k hk
        have hxs := HN2.out bs[k] (List.getElem_mem hlt)
        have HP := Lib.hid hp
        have HOWN := Lib.hid hown
        have HNX : Hid (-1000000 ≤ bs[k].1 → bs[k].1 ≤ 1000000 → ∀ j (hj : j < bs.length), j < k + 1 → -1000000 ≤ bs[j].1 ∧ bs[j].1 ≤ 1000000) := Lib.hid (fun h1 h2 j hj hjk => by
          by_cases e : j < k
          · exact HRG.out j hj e
          · obtain rfl : j = k := by omega
            exact ⟨h1, h2⟩)
        have hk0 : (0 : Int) ≤ (k : Int) := by omega
        have hk1 : (k : Int) < (bs.length : Int) := by omega
        have HLTW := Lib.hid HOWN.out.lt
        clear hp hown HRG
        generalize shiftB c (bs.take k) = cs at *
        generalize bs[k] = X at *
        obtain ⟨xv, x⟩ := X
        dsimp only at *
        go_upto_region 9 with fail
        have hb5 : Below wr.heap.size wr (wr.alloc (.cells #[.int .i64 xv, .int .i64 x.kind, .string x.name, .int .i64 x.n, .slice a1 x.args.length d1] 41)) := (Below.refl _ _).alloc (Nat.le_refl _) _
        have hq5 := alloc_new wr (.cells #[.int .i64 xv, .int .i64 x.kind, .string x.name, .int .i64 x.n, .slice a1 x.args.length d1] 41)
        generalize wr.alloc (.cells #[.int .i64 xv, .int .i64 x.kind, .string x.name, .int .i64 x.n, .slice a1 x.args.length d1] 41) = w5 at *
        have HB5 := Lib.hid (HBW.out.trans (hb5.mono HBW.out.size))
        have HB45 := Lib.hid (hbw.trans (hb5.mono hwrs))
        have HX5 := Lib.hid hq5
        have HO5 := Lib.hid (HOWN.out.below hb5)
        have HP5 := Lib.hid ((HP.out.onS hb5).toIn)
        clear hb5 hq5 x0 x1 x2 x3 x4 hbw HBW HQW HP
        obtain ⟨x0, x1, x2, x3, x4⟩ := cells5S HX5.out
        by_cases hg1 : 1000000 < xv
        · have hd : decide (1000000 < xv) = true := decide_eq_true hg1
          go_wp2_with fail
          go_ret
          exact ⟨rfl, HB5.out⟩
        have hd1 : decide (1000000 < xv) = false := decide_eq_false hg1
        by_cases hg2 : xv < -1000000
        · have hd : decide (xv < -1000000) = true := decide_eq_true hg2
          go_wp2_with fail
          go_ret
          exact ⟨rfl, HB5.out⟩
        have hd2 : decide (xv < -1000000) = false := decide_eq_false hg2
        have HN := Lib.hid (HNX.out (by omega) (by omega))
        have hwr : IntKind.i64.wrap (xv + c) = xv + c := IntWalk.i64_in _ ⟨by omega, by omega⟩
        have HFR := Lib.hid (fun W (h : Below w5.heap.size w5 W) => sb_Fresh c x a1 d1 W hc64 (by omega) (HP5.out.on h))
        unfold MadeTerm tmv at HFR
        go_upto_region 11 with fail
        have HK : Hid (∀ W, Below w5.heap.size w5 W → W.cell? ⟨wr.heap.size, 0, none⟩ = some (.int .i64 xv) ∧ W.cell? ⟨wr.heap.size, 1, none⟩ = some (.int .i64 x.kind) ∧ W.cell? ⟨wr.heap.size, 2, none⟩ = some (.string x.name) ∧ W.cell? ⟨wr.heap.size, 3, none⟩ = some (.int .i64 x.n) ∧ W.cell? ⟨wr.heap.size, 4, none⟩ = some (.slice a1 x.args.length d1)) := Lib.hid (fun W h => cells5S (keptR9 h HX5.out))
        have bD : Below w5.heap.size w5 w5.drew := (Below.refl _ w5).drew
        have hs45 := HB45.out.size
        have hz5 := hs45
        clear x0 x1 x2 x3 x4
        go_region_held3 (fun W => W.cell? ⟨wr.heap.size, 0, none⟩ = some (.int .i64 xv) ∧ W.cell? ⟨wr.heap.size, 1, none⟩ = some (.int .i64 x.kind) ∧ W.cell? ⟨wr.heap.size, 2, none⟩ = some (.string x.name) ∧ W.cell? ⟨wr.heap.size, 3, none⟩ = some (.int .i64 x.n) ∧ W.cell? ⟨wr.heap.size, 4, none⟩ = some (.slice a1 x.args.length d1))
          (first | with_reducible exact HK.out _ bD | with_reducible exact cells5S hq9 | with_reducible exact HK.out _ b6 | with_reducible exact HK.out _ (b6.alloc b6.size _))
          (first
            | (go_at_call 14; (with_reducible refine (HFR.out _ bD).mono ?_); rintro e w6 ⟨fa, fc, rfl, hp6, hb6⟩; have b6 := bD.trans (hb6.mono bD.size); have HPF := Lib.hid hp6; obtain ⟨xs, hox, hrow⟩ := HO5.out.below b6; have HLT := HLTW; have HOX := Lib.hid hox; have HROW := Lib.hid hrow; have hs6 := b6.size; clear hp6 hox hrow)
            | (refine step_app_binds (by rfl) (.tmp 39) (.tmp 49) (by rfl) (by rfl) (HOX.out.alloc _) (by rfl) rfl (cells5P (b := (xv + c, x.shift c))) one5P (by decide) (by omega) (show w2.heap.size ≤ (w6.alloc _).heap.size by rw [World.size_alloc]; omega) ?_; intro g9 cap9 w9 hown9 hgrow hat hlt9; obtain ⟨ho9, hb9, hq9⟩ := app_shift HX5.out HB45.out b6 HLT.out HROW.out (y := (xv + c, x.shift c)) ⟨by show _ ≤ xv + c; omega, by show xv + c ≤ _; omega⟩ HPF.out hown9 hgrow (hat.elim (fun e => .inl e.symm) fun e => .inr (by rw [e]; rfl)); have HO9 := Lib.hid ho9; have HB9 := Lib.hid hb9; clear ho9 hb9 hown9 hgrow hat hlt9))
        rw [← HST.out, hal] at HO9
        go_wp2_with fail
        go_roundw
        case rel => exact ⟨k + 1, by omega, by go_num, HB9.out, HO9.out, HN⟩
        case measure => simp [intOf]; omega
      · have hk1 : ¬ (k : Int) < (bs.length : Int) := by omega
        obtain rfl : k = bs.length := by omega
        rw [List.take_length] at hown
        obtain ⟨ca, cc, rfl, hcl, hcm, hca⟩ := hown.at
        have HEQ := Lib.hid (resD_shift c bs ⟨hc0, hc1⟩ (fun b hb => by obtain ⟨j, hj, rfl⟩ := List.mem_iff_getElem.1 hb; exact HRG.out j hj hj) HB64.out 60 0 t HN64.out)
        have hfs := shiftS_size c t.size t (Nat.le_refl _)
        have hsl := shiftB_len c bs
        have HR2 := Lib.hid (fun W fa fc (h : Below wr.heap.size wr W) (hf : TmIn W (t.shift c) fa fc) => sb_Resolve (shiftB c bs) ca cc (t.shift c) fa fc W (by omega) hcl hcm (fun b hb => by obtain ⟨b', hb', rfl⟩ := List.mem_map.1 hb; show (b'.2.shift c).size ≤ _; rw [shiftS_size c b'.2.size b'.2 (Nat.le_refl _)]; exact Nat.le_trans (HN2.out b' hb') (by decide)) (hca.kept (w' := W) (Q := fun b => b < W.heap.size) (fun b _ hl => h.block b hl) fun b hb _ => Nat.lt_of_lt_of_le hb h.size) (by omega) hf)
        have HF2 := Lib.hid (fun W (h : Below w.heap.size w W) => sb_Fresh c t ad cap W hc64 (by omega) (HIN.out W h))
        clear hown hca HRG HB64 HN64
        rw [hsl] at hcl ⊢
        simp only [HEQ.out, hsl] at HR2
        clear HEQ
        generalize t.shift c = t2 at *
        generalize resD bs 60 0 t = r at *
        obtain ⟨c0, c1, c2, c3, _⟩ := cellsT HQW.out
        go_wp2_with fail
        refine (HRS.out _ (by omega) HN2.out (by omega) HBW.out).mono ?_; rintro e w3 ⟨xa, xc, rfl, hx, hb3⟩
        have HX3 := Lib.hid hx
        have HW3 := Lib.hid hb3
        have HQ3 := Lib.hid (keptR9 hb3 HQW.out)
        clear hx hb3 c0 c1 c2 c3 HRS HQW
        go_upto_region 14 with fail
        generalize hw : w3.alloc (.cells #[.int .i64 r.1.kind, .string r.1.name, .int .i64 r.1.n, .slice xa r.1.args.length xc] 25) = w4
        have HQx4 : Hid (w4.heap[w3.heap.size]? = some (.cells #[.int .i64 r.1.kind, .string r.1.name, .int .i64 r.1.n, .slice xa r.1.args.length xc] 25 (0, 0))) := Lib.hid (by rw [← hw]; exact alloc_new w3 _)
        have hb4 : Below w3.heap.size w3 w4 := by rw [← hw]; exact (Below.refl _ _).alloc (Nat.le_refl _) _
        have HW4 := Lib.hid (HW3.out.trans (hb4.mono HW3.out.size))
        have HX4 := Lib.hid (HX3.out.on hb4)
        have HQ4 := Lib.hid (keptR9 hb4 HQ3.out)
        clear hw hb4 HW3 HX3 HQ3
        obtain ⟨c0, c1, c2, c3, _⟩ := cellsT HQ4.out
        unfold MadeTerm tmv at HF2
        go_wp2_with fail
        refine (HF2.out _ (HBW.out.trans (HW4.out.mono HBW.out.size))).mono ?_; rintro e w5 ⟨fa, fc, rfl, hf, hb5⟩
        have HW5 := Lib.hid (HW4.out.trans (hb5.mono HW4.out.size))
        have HX5 := Lib.hid (HX4.out.on hb5)
        have HQx5 := Lib.hid (keptR9 hb5 HQx4.out)
        have HF5 := Lib.hid hf.toIn
        clear hf hb5 c0 c1 c2 c3 HQ4 HW4 HX4 HQx4
        unfold tmv at HR2
        go_wp2_with fail
        refine (HR2.out _ _ _ HW5.out HF5.out).mono ?_; rintro e w6 ⟨ya, yc, rfl, hy, hb6⟩
        have HW6 := Lib.hid (HW5.out.trans (hb6.mono HW5.out.size))
        have HX6 := Lib.hid (HX5.out.on hb6)
        have HY6 := Lib.hid hy
        have HQx6 := Lib.hid (keptR9 hb6 HQx5.out)
        clear hy hb6 HW5 HX5 HQx5 HF5 HR2 HF2
        go_upto_region 15 with fail
        generalize hw : w6.alloc (.cells #[.int .i64 (Tm.shift c r.1).kind, .string (Tm.shift c r.1).name, .int .i64 (Tm.shift c r.1).n, .slice ya (Tm.shift c r.1).args.length yc] 25) = w7
        have HQy7 : Hid (w7.heap[w6.heap.size]? = some (.cells #[.int .i64 (Tm.shift c r.1).kind, .string (Tm.shift c r.1).name, .int .i64 (Tm.shift c r.1).n, .slice ya (Tm.shift c r.1).args.length yc] 25 (0, 0))) := Lib.hid (by rw [← hw]; exact alloc_new w6 _)
        have hb7 : Below w6.heap.size w6 w7 := by rw [← hw]; exact (Below.refl _ _).alloc (Nat.le_refl _) _
        have HW7 := Lib.hid (HBW.out.trans ((HW6.out.trans (hb7.mono HW6.out.size)).mono HBW.out.size))
        have HX7 := Lib.hid (HX6.out.on hb7)
        have HY7 := Lib.hid (HY6.out.on hb7)
        have HQx7 := Lib.hid (keptR9 hb7 HQx6.out)
        clear hw hb7 HW6 HX6 HY6 HQx6 HBW hbw
        obtain ⟨x0, x1, x2, x3, _⟩ := cellsT HQx7.out
        rcases HTF.out with ⟨h1, h2, h3, h4⟩ | ⟨h1, h2⟩
        · have h1' : (r.2.1 != 0) = false := by rw [h1]; rfl
          have hss := shiftS_size c r.1.size r.1 (Nat.le_refl _)
          have HFZ := Lib.hid (fun W (h : Below w7.heap.size w7 W) => sb_Fresh c r.1 xa xc W hc64 (by omega) (HX7.out.on h))
          have HSM := Lib.hid (fun pa pc W (h : Below w7.heap.size w7 W) (h1 : TmIn W (r.1.shift c) pa pc) => same_yes (r.1.shift c) pa ya pc yc W (by omega) h1 (HY7.out.on h))
          unfold MadeTerm tmv at HFZ
          unfold tmv at HSM
          generalize Tm.shift c r.1 = s at *
          clear h1 h2 h3 h4 HTF
          have HK : Hid (∀ W, Below w7.heap.size w7 W → W.cell? ⟨w3.heap.size, 0, none⟩ = some (.int .i64 r.1.kind) ∧ W.cell? ⟨w3.heap.size, 1, none⟩ = some (.string r.1.name) ∧ W.cell? ⟨w3.heap.size, 2, none⟩ = some (.int .i64 r.1.n) ∧ W.cell? ⟨w3.heap.size, 3, none⟩ = some (.slice xa r.1.args.length xc) ∧ W.cell? ⟨w6.heap.size, 0, none⟩ = some (.int .i64 s.kind) ∧ W.cell? ⟨w6.heap.size, 1, none⟩ = some (.string s.name) ∧ W.cell? ⟨w6.heap.size, 2, none⟩ = some (.int .i64 s.n) ∧ W.cell? ⟨w6.heap.size, 3, none⟩ = some (.slice ya s.args.length yc)) := Lib.hid (fun W h => by
            obtain ⟨x0, x1, x2, x3, _⟩ := cellsT (keptR9 h HQx7.out)
            obtain ⟨y0, y1, y2, y3, _⟩ := cellsT (keptR9 h HQy7.out)
            exact ⟨x0, x1, x2, x3, y0, y1, y2, y3⟩)
          have bD : Below w7.heap.size w7 w7.drew := (Below.refl _ w7).drew
          clear x0 x1 x2 x3
          go_region_held3 (fun W => W.cell? ⟨w3.heap.size, 0, none⟩ = some (.int .i64 r.1.kind) ∧ W.cell? ⟨w3.heap.size, 1, none⟩ = some (.string r.1.name) ∧ W.cell? ⟨w3.heap.size, 2, none⟩ = some (.int .i64 r.1.n) ∧ W.cell? ⟨w3.heap.size, 3, none⟩ = some (.slice xa r.1.args.length xc) ∧ W.cell? ⟨w6.heap.size, 0, none⟩ = some (.int .i64 s.kind) ∧ W.cell? ⟨w6.heap.size, 1, none⟩ = some (.string s.name) ∧ W.cell? ⟨w6.heap.size, 2, none⟩ = some (.int .i64 s.n) ∧ W.cell? ⟨w6.heap.size, 3, none⟩ = some (.slice ya s.args.length yc))
            (first | with_reducible exact HK.out _ bF | with_reducible exact HK.out _ bE | with_reducible exact HK.out _ bD)
            (first
              | (go_at_call 14; (with_reducible refine (HFZ.out _ bD).mono ?_); rintro e wE ⟨pa, pc, rfl, hp, hbE⟩; have bE := bD.trans (hbE.mono bD.size); have HPE := Lib.hid hp.toIn; clear hp)
              | (go_at_call 13; (with_reducible refine (HSM.out pa pc _ bE HPE.out).mono ?_); rintro e wF ⟨rfl, hbF⟩; have bF := bE.trans (hbF.mono bE.size)))
          have HBF := Lib.hid (HW7.out.trans (bF.mono HW7.out.size))
          go_wp2_with fail
          go_ret
          exact ⟨rfl, HBF.out⟩
        · have h1' : (r.2.1 != 0) = true := bne_iff_ne.2 h1
          clear h1 h2 HTF
          refine wp_region_held_drew (S := (fun W => True)) (by kernel_rfl) trivial (fun hHeld1 => ?_)
          refine wpAnyH_take (i := 0) (oi := _) (v := ?v2) rfl (by kernel_rfl) (by kernel_rfl) (by kernel_rfl) (fun _ _ _ h => h) (Or.inl ⟨by rfl, ?y2⟩) (by assumption) ?r2
          case y2 => (intro w hSw; (try dsimp only at hSw); go_simp; try with_reducible rfl)
          try simp only [List.getElem_toArray, List.getElem_cons_zero, List.getElem_cons_succ, Act.put]
          try simp only [List.setIfInBounds_toArray]
          try simp only [List.set_cons_zero]
          try simp only [List.set_cons_succ]
          try simp only [List.set_cons_zero]
          refine wpAnyH_take (i := 1) (oi := _) (v := ?v3) rfl (by kernel_rfl) (by kernel_rfl) (by kernel_rfl) (fun _ _ _ h => h) (Or.inl ⟨by rfl, ?y3⟩) (by assumption) ?r3
          case y3 => (intro w hSw; (try dsimp only at hSw); go_simp; try with_reducible rfl)
          try simp only [List.getElem_toArray, List.getElem_cons_zero, List.getElem_cons_succ, Act.put]
          try simp only [List.setIfInBounds_toArray]
          try simp only [List.set_cons_zero]
          try simp only [List.set_cons_succ]
          try simp only [List.set_cons_zero]
          refine wpAnyH_take (i := 2) (oi := _) (v := ?v4) rfl (by kernel_rfl) (by kernel_rfl) (by kernel_rfl) (fun _ _ _ h => h) (Or.inl ⟨by rfl, ?y4⟩) (by assumption) ?r4
          case y4 => (intro w hSw; (try dsimp only at hSw); go_simp; try with_reducible rfl)
          try simp only [List.getElem_toArray, List.getElem_cons_zero, List.getElem_cons_succ, Act.put]
          try simp only [List.setIfInBounds_toArray]
          try simp only [List.set_cons_zero]
          try simp only [List.set_cons_succ]
          try simp only [List.set_cons_zero]
          refine wpAnyH_take (i := 3) (oi := _) (v := ?v5) rfl (by kernel_rfl) (by kernel_rfl) (by kernel_rfl) (fun _ _ _ h => h) (Or.inl ⟨by rfl, ?y5⟩) (by assumption) ?r5
          case y5 => (intro w hSw; (try dsimp only at hSw); go_simp; try with_reducible rfl)
          try simp only [List.getElem_toArray, List.getElem_cons_zero, List.getElem_cons_succ, Act.put]
          try simp only [List.setIfInBounds_toArray]
          try simp only [List.set_cons_zero]
          try simp only [List.set_cons_succ]
          try simp only [List.set_cons_zero]
          refine wpAnyH_take (i := 4) (oi := _) (v := ?v6) rfl (by kernel_rfl) (by kernel_rfl) (by kernel_rfl) (fun _ _ _ h => h) (Or.inl ⟨by rfl, ?y6⟩) (by assumption) ?r6
          case y6 => (intro w hSw; (try dsimp only at hSw); go_simp; try with_reducible rfl)
          try simp only [List.getElem_toArray, List.getElem_cons_zero, List.getElem_cons_succ, Act.put]
          try simp only [List.setIfInBounds_toArray]
          try simp only [List.set_cons_zero]
          try simp only [List.set_cons_succ]
          try simp only [List.set_cons_zero]
          refine wpAnyH_take (i := 5) (oi := _) (v := ?v7) rfl (by kernel_rfl) (by kernel_rfl) (by kernel_rfl) (fun _ _ _ h => h) (Or.inl ⟨by rfl, ?y7⟩) (by assumption) ?r7
          case y7 => (intro w hSw; (try dsimp only at hSw); go_simp; try with_reducible rfl)
          try simp only [List.getElem_toArray, List.getElem_cons_zero, List.getElem_cons_succ, Act.put]
          try simp only [List.setIfInBounds_toArray]
          try simp only [List.set_cons_zero]
          try simp only [List.set_cons_succ]
          try simp only [List.set_cons_zero]
          refine wpAnyH_take (i := 6) (oi := _) (v := ?v8) rfl (by kernel_rfl) (by kernel_rfl) (by kernel_rfl) (fun _ _ _ h => h) (Or.inl ⟨by rfl, ?y8⟩) (by assumption) ?r8
          case y8 => (intro w hSw; (try dsimp only at hSw); go_simp; try with_reducible rfl)
          try simp only [List.getElem_toArray, List.getElem_cons_zero, List.getElem_cons_succ, Act.put]
          try simp only [List.setIfInBounds_toArray]
          try simp only [List.set_cons_zero]
          try simp only [List.set_cons_succ]
          try simp only [List.set_cons_zero]
          refine wpAnyH_take (i := 7) (oi := _) (v := ?v9) rfl (by kernel_rfl) (by kernel_rfl) (by kernel_rfl) (fun _ _ _ h => h) (Or.inl ⟨by rfl, ?y9⟩) (by assumption) ?r9
          case y9 => (intro w hSw; (try dsimp only at hSw); go_simp; try with_reducible rfl)
          try simp only [List.getElem_toArray, List.getElem_cons_zero, List.getElem_cons_succ, Act.put]
          try simp only [List.setIfInBounds_toArray]
          try simp only [List.set_cons_zero]
          try simp only [List.set_cons_succ]
          try simp only [List.set_cons_zero]
          refine wpAnyH_take (i := 8) (oi := _) (v := ?v10) rfl (by kernel_rfl) (by kernel_rfl) (by kernel_rfl) (fun _ _ _ h => h) (Or.inl ⟨by rfl, ?y10⟩) (by assumption) ?r10
          case y10 => (intro w hSw; (try dsimp only at hSw); go_simp; try with_reducible rfl)
          try simp only [List.getElem_toArray, List.getElem_cons_zero, List.getElem_cons_succ, Act.put]
          try simp only [List.setIfInBounds_toArray]
          try simp only [List.set_cons_zero]
          try simp only [List.set_cons_succ]
          try simp only [List.set_cons_zero]
          refine wpAnyH_take (i := 9) (oi := _) (v := ?v11) rfl (by kernel_rfl) (by kernel_rfl) (by kernel_rfl) (fun _ _ _ h => h) (Or.inl ⟨by rfl, ?y11⟩) (by assumption) ?r11
          case y11 => (intro w hSw; (try dsimp only at hSw); go_simp; try with_reducible rfl)
          try simp only [List.getElem_toArray, List.getElem_cons_zero, List.getElem_cons_succ, Act.put]
          try simp only [List.setIfInBounds_toArray]
          try simp only [List.set_cons_zero]
          try simp only [List.set_cons_succ]
          try simp only [List.set_cons_zero]
          refine wpAnyH_take (i := 10) (oi := _) (v := undef) rfl (by kernel_rfl) (by kernel_rfl) (by kernel_rfl) (fun _ _ _ h => h) (Or.inr ⟨by rfl, rfl⟩) (by assumption) ?_
          try simp only [List.getElem_toArray, List.getElem_cons_zero, List.getElem_cons_succ, Act.put]
          try simp only [List.setIfInBounds_toArray]
          try simp only [List.set_cons_zero]
          try simp only [List.set_cons_succ]
          try simp only [List.set_cons_zero]
          refine wpAnyH_take (i := 11) (oi := _) (v := undef) rfl (by kernel_rfl) (by kernel_rfl) (by kernel_rfl) (fun _ _ _ h => h) (Or.inr ⟨by rfl, rfl⟩) (by assumption) ?_
          try simp only [List.getElem_toArray, List.getElem_cons_zero, List.getElem_cons_succ, Act.put]
          try simp only [List.setIfInBounds_toArray]
          try simp only [List.set_cons_zero]
          try simp only [List.set_cons_succ]
          try simp only [List.set_cons_zero]
          refine wpAnyH_take (i := 12) (oi := _) (v := undef) rfl (by kernel_rfl) (by kernel_rfl) (by kernel_rfl) (fun _ _ _ h => h) (Or.inr ⟨by rfl, rfl⟩) (by assumption) ?_
          try simp only [List.getElem_toArray, List.getElem_cons_zero, List.getElem_cons_succ, Act.put]
          try simp only [List.setIfInBounds_toArray]
          try simp only [List.set_cons_zero]
          try simp only [List.set_cons_succ]
          try simp only [List.set_cons_zero]
          refine wpAnyH_take (i := 13) (oi := _) (v := undef) rfl (by kernel_rfl) (by kernel_rfl) (by kernel_rfl) (fun _ _ _ h => h) (Or.inr ⟨by rfl, rfl⟩) (by assumption) ?_
          try simp only [List.getElem_toArray, List.getElem_cons_zero, List.getElem_cons_succ, Act.put]
          try simp only [List.setIfInBounds_toArray]
          try simp only [List.set_cons_zero]
          try simp only [List.set_cons_succ]
          try simp only [List.set_cons_zero]
          refine wpAnyH_take (i := 14) (oi := _) (v := undef) rfl (by kernel_rfl) (by kernel_rfl) (by kernel_rfl) (fun _ _ _ h => h) (Or.inr ⟨by rfl, rfl⟩) (by assumption) ?_
          try simp only [List.getElem_toArray, List.getElem_cons_zero, List.getElem_cons_succ, Act.put]
          try simp only [List.setIfInBounds_toArray]
          try simp only [List.set_cons_zero]
          try simp only [List.set_cons_succ]
          try simp only [List.set_cons_zero]
          refine wpAnyH_take (i := 15) (oi := _) (v := ?v12) rfl (by kernel_rfl) (by kernel_rfl) (by kernel_rfl) (fun _ _ _ h => h) (Or.inl ⟨by rfl, ?y12⟩) (by assumption) ?r12
          case y12 => (intro w hSw; (try dsimp only at hSw); go_simp; try with_reducible rfl)
          try simp only [List.getElem_toArray, List.getElem_cons_zero, List.getElem_cons_succ, Act.put]
          try simp only [List.setIfInBounds_toArray]
          try simp only [List.set_cons_zero]
          try simp only [List.set_cons_succ]
          try simp only [List.set_cons_zero]
          refine wpAnyH_take (i := 16) (oi := _) (v := ?v13) rfl (by kernel_rfl) (by kernel_rfl) (by kernel_rfl) (fun _ _ _ h => h) (Or.inl ⟨by rfl, ?y13⟩) (by assumption) ?r13
          case y13 => (intro w hSw; (try dsimp only at hSw); go_simp; try with_reducible rfl)
          try simp only [List.getElem_toArray, List.getElem_cons_zero, List.getElem_cons_succ, Act.put]
          try simp only [List.setIfInBounds_toArray]
          try simp only [List.set_cons_zero]
          try simp only [List.set_cons_succ]
          try simp only [List.set_cons_zero]
          refine wpAnyH_take (i := 17) (oi := _) (v := ?v14) rfl (by kernel_rfl) (by kernel_rfl) (by kernel_rfl) (fun _ _ _ h => h) (Or.inl ⟨by rfl, ?y14⟩) (by assumption) ?r14
          case y14 => (intro w hSw; (try dsimp only at hSw); go_simp; try with_reducible rfl)
          try simp only [List.getElem_toArray, List.getElem_cons_zero, List.getElem_cons_succ, Act.put]
          try simp only [List.setIfInBounds_toArray]
          try simp only [List.set_cons_zero]
          try simp only [List.set_cons_succ]
          try simp only [List.set_cons_zero]
          refine wpAnyH_done (by kernel_rfl) ?_ _
          try go_wp2_with fail
          go_ret
          exact ⟨rfl, HW7.out.drew⟩
end Go.Proofs.Ytjgjeafjnaodkaa
