/-
  The walk of the law SubstWalks.
-/
import Derived.Test.YtjgjeafjnaodkaaSubDev
import Derived.Test.YtjgjeafjnaodkaaTermMake
import Derived.Deep.RegionHeld3
namespace Go.Proofs.Ytjgjeafjnaodkaa
open Go.RowKit

theorem rowS1 {w : World} {A : Tm} {ad : Option Addr} {ca : Nat} (hA : TmIn w A ad ca) (C : Array Value) (hC : C = (tcells A ad ca).toArray) : TArgs (w.alloc (.cells C 25)) (some ⟨w.heap.size, 0, none⟩) [A] := by
  subst hC
  have h1 := hA.args.on ((Below.refl _ w).alloc (Nat.le_refl _) (.cells (tcells A ad ca).toArray 25))
  rw [A.eta]
  exact .cons _ _ _ _ _ _ _ ad ca (World.cell?_alloc_at _ _ _ _ rfl) (World.cell?_alloc_at _ _ _ _ rfl) (World.cell?_alloc_at _ _ _ _ rfl) (World.cell?_alloc_at _ _ _ _ rfl) hA.kind hA.n hA.name hA.len hA.cap h1 (.nil _)
theorem walkF_size {bs : List (Int × Tm)} {m : Nat} (hb : ∀ b ∈ bs, b.2.size ≤ m) (h1 : 1 ≤ m) : ∀ (f n : Nat) (t : Tm), t.size ≤ m → (walkF bs f n t).1.size ≤ m
  | 0, n, t, h => h1
  | f + 1, n, t, h => by
    unfold walkF
    by_cases hk : t.kind = 1
    · rw [if_pos hk]
      cases hl : lookL bs t.n with
      | none => exact h
      | some x =>
        dsimp only
        by_cases hn : n < 2000
        · rw [if_pos hn]; exact walkF_size hb h1 f (n + 1) x (hb _ (lookL_mem hl))
        · rw [if_neg hn]; exact h1
    · rw [if_neg hk]; exact h
theorem look_size {bs : List (Int × Tm)} {m : Nat} (hb : ∀ b ∈ bs, b.2.size ≤ m) (h1 : 1 ≤ m) (v : Int) : ((lookL bs v).getD zeroT).size ≤ m := by
  cases hl : lookL bs v with
  | none => exact h1
  | some x => exact hb _ (lookL_mem hl)
/-- Same of equal terms. -/
theorem same_yes (T : Tm) (u1 u2 : Option Addr) (c1 c2 : Nat) (W : World) (h : T.size ≤ 1000000) (h1 : TmIn W T u1 c1) (h2 : TmIn W T u2 c2) : Calls Try.prog 13 #[tmv T u1 c1, tmv T u2 c2] W fun e w' => e = .returned (.bool true) ∧ Below W.heap.size W w' := by
  have := ref_Same T.size T T u1 u2 c1 c2 W (Nat.le_refl _) h h1 h2
  rwa [Tm.same_true rfl] at this

set_option maxRecDepth 100000 in
set_option maxHeartbeats 8000000 in
theorem walk_SubstWalks (bs : List (Int × Tm)) (ab : Option Addr) (cb : Nat) (t : Tm) (ad : Option Addr) (cap : Nat) (by' : Int) (w : World) (hl : bs.length ≤ cb) (hc : cb ≤ maxLen) (hb : BdsAt w (fun b => b < w.heap.size) ab bs) (hin : TmIn w t ad cap) (hby : In64 by') :
    Calls Try.prog 3 #[.slice ab bs.length cb, tmv t ad cap, .int .i64 by'] w fun e w' => e = .returned (.bool true) ∧ Below w.heap.size w w' := by
  have HL := Lib.hid (fun W => sub_live W)
  have HB0 := Lib.hid (fun o : Obj => (Below.refl w.heap.size w).alloc (Nat.le_refl _) o)
  have HIN := Lib.hid (fun W (h : Below w.heap.size w W) => hin.on h)
  have HBD := Lib.hid (fun W (h : Below w.heap.size w W) => hb.kept (w' := W) (Q := fun b => b < W.heap.size) (fun b _ hl => h.block b hl) fun b hb _ => Nat.lt_of_lt_of_le hb h.size)
  have HBG := Lib.hid (fun W (g : Nat) (h : Below w.heap.size w W) (ht : TArgs W (some ⟨g, 0, none⟩) [t]) => (show Calls Try.prog 8 #[.slice ab bs.length cb, .slice (some ⟨g, 0, none⟩) 1 1] W _ from law_big9 bs ab cb [t] (some ⟨g, 0, none⟩) 1 W (HBD.out W h) (Nat.le_refl 1) (by decide) ht))
  have HNO := Lib.hid (fun (h : bigB bs [t] = false) => bigB_no h)
  have HWK := Lib.hid (fun W (hle : bs.length ≤ 1000000) (hz : ∀ b ∈ bs, b.2.size ≤ 300) (hts : t.size ≤ 1000000) (h : Below w.heap.size w W) => sb_Walk bs ab cb t ad cap W hle hl hc (fun b hb => Nat.le_trans (hz b hb) (by decide)) (HBD.out W h) hts (hin.on h))
  have HRW := Lib.hid (fun W (hle : bs.length ≤ 1000000) (h : Below w.heap.size w W) => r9_Walk bs ab cb t ad cap W (fun b => b < W.heap.size) hle (fun _ h => h) (HBD.out W h) (hin.on h).inP)
  have HLK := Lib.hid (fun W (hle : bs.length ≤ 1000000) (hz : ∀ b ∈ bs, b.2.size ≤ 300) (h : Below w.heap.size w W) => sb_Look bs t.n ab cb W hle hl hc (fun b hb => Nat.le_trans (hz b hb) (by decide)) (HBD.out W h))
  have HRL := Lib.hid (fun W (hle : bs.length ≤ 1000000) (h : Below w.heap.size w W) => r9_Look bs t.n ab cb W (fun b => b < W.heap.size) hle (HBD.out W h))
  have HFR := Lib.hid (fun W (hM : t.size ≤ 1000000) (h : Below w.heap.size w W) => sb_Fresh by' t ad cap W hby hM (hin.on h))
  have HRF := Lib.hid (fun W (hM : t.size ≤ 1000000) (h : Below w.heap.size w W) => r9_Fresh by' t ad cap W hM (hin.on h))
  have HS1 := Lib.hid (fun (h1 : ∀ b ∈ bs, b.2.size ≤ 300) (h2 : t.size ≤ 3000) => walkF_size (m := 3000) (fun b hb => Nat.le_trans (h1 b hb) (by decide)) (by decide) 2001 0 t h2)
  have HS2 := Lib.hid (fun (h1 : ∀ b ∈ bs, b.2.size ≤ 300) => look_size (m := 3000) (fun b hb => Nat.le_trans (h1 b hb) (by decide)) (by decide) t.n)
  have HS3 := Lib.hid (shiftS_size by' t.size t (Nat.le_refl _))
  clear hb hin hby
  unfold MadeTerm at HFR HRF
  rw [show walkF bs 2001 0 t = walkL bs 0 t from rfl] at HS1
  generalize bigB bs [t] = bg at *
  generalize walkL bs 0 t = r at *
  generalize (lookL bs t.n).getD zeroT = lk at *
  generalize (lookL bs t.n).isSome = is at *
  generalize t.shift by' = sh at *
  unfold tmv at *
  go_enter Try.func3, Try.ntmps3
  go_wp2_with fail
  have q1 := alloc_new w (.cells #[.int .i64 t.kind, .string t.name, .int .i64 t.n, .slice ad t.args.length cap] 25)
  refine (HL.out _).mono ?_; rintro e w1 ⟨rfl, hb⟩
  have HB1 := Lib.hid ((HB0.out _).trans (hb.mono (by simp)))
  have HQ1 := Lib.hid (keptR9 hb q1)
  clear hb q1 HB0 HL
  obtain ⟨c0, c1, c2, c3, _⟩ := cellsT HQ1.out
  go_wp2_with fail
  generalize hw : w1.alloc (.cells #[.int .i64 t.kind, .string t.name, .int .i64 t.n, .slice ad t.args.length cap] 25) = w1a
  have HR1 : Hid (TArgs w1a (some ⟨w1.heap.size, 0, none⟩) [t]) := Lib.hid (by rw [← hw]; exact rowS1 (HIN.out _ HB1.out) _ rfl)
  have hb1a : Below w1.heap.size w1 w1a := by rw [← hw]; exact (Below.refl _ _).alloc (Nat.le_refl _) _
  have HB1a := Lib.hid (HB1.out.trans (hb1a.mono HB1.out.size))
  have HQ1a := Lib.hid (keptR9 hb1a HQ1.out)
  clear hw hb1a c0 c1 c2 c3 HQ1 HB1
  refine (HBG.out _ _ HB1a.out HR1.out).mono ?_; rintro e w2 ⟨rfl, hb2⟩
  have HB2 := Lib.hid (HB1a.out.trans (hb2.mono HB1a.out.size))
  have HQ2 := Lib.hid (keptR9 hb2 HQ1a.out)
  clear hb2 HQ1a HR1 HB1a HBG
  cases bg with
  | true =>
    go_wp2_with fail
    go_ret
    exact ⟨rfl, HB2.out⟩
  | false =>
    obtain ⟨hn1, hn2, hn3⟩ := HNO.out rfl
    have hle : bs.length ≤ 1000000 := by omega
    have hts : t.size ≤ 3000 := hn3 t (by simp)
    have hz1 := HS1.out hn2 hts
    have hz2 := HS2.out hn2
    have hz3 := HS3.out
    have HZ2 := Lib.hid hn2
    clear hn1 hn2 hn3
    obtain ⟨c0, c1, c2, c3, _⟩ := cellsT HQ2.out
    go_wp2_with fail
    refine (HWK.out _ hle HZ2.out (by omega) HB2.out).mono ?_; rintro e w3 ⟨xa, xc, rfl, hx, hb3⟩
    have HX3 := Lib.hid hx
    clear hx c0 c1 c2 c3 HWK
    have HB3 := Lib.hid (HB2.out.trans (hb3.mono HB2.out.size))
    have HQ3 := Lib.hid (keptR9 hb3 HQ2.out)
    clear hb3 HB2 HQ2
    go_upto_region 5 with fail
    generalize hw : w3.alloc (.cells #[.int .i64 r.1.kind, .string r.1.name, .int .i64 r.1.n, .slice xa r.1.args.length xc] 25) = w4
    have HQx4 : Hid (w4.heap[w3.heap.size]? = some (.cells #[.int .i64 r.1.kind, .string r.1.name, .int .i64 r.1.n, .slice xa r.1.args.length xc] 25 (0, 0))) := Lib.hid (by rw [← hw]; exact alloc_new w3 _)
    have hb4 : Below w3.heap.size w3 w4 := by rw [← hw]; exact (Below.refl _ _).alloc (Nat.le_refl _) _
    clear hw
    have HB4 := Lib.hid (HB3.out.trans (hb4.mono HB3.out.size))
    have HQ4 := Lib.hid (keptR9 hb4 HQ3.out)
    have HX4 := Lib.hid (HX3.out.on hb4)
    clear hb4 HB3 HQ3 HX3
    obtain ⟨c0, c1, c2, c3, _⟩ := cellsT HQ4.out
    go_wp2_with fail
    refine (HRW.out _ hle HB4.out).mono ?_; rintro e w5 ⟨ya, yc, rfl, hy, hb5⟩
    have HY5 := Lib.hid hy.toIn
    clear hy c0 c1 c2 c3 HRW
    have HB5 := Lib.hid (HB4.out.trans (hb5.mono HB4.out.size))
    have HQ5 := Lib.hid (keptR9 hb5 HQ4.out)
    have HQx5 := Lib.hid (keptR9 hb5 HQx4.out)
    have HX5 := Lib.hid (HX4.out.on hb5)
    clear hb5 HB4 HQ4 HQx4 HX4
    go_upto_region 6 with fail
    generalize hw : w5.alloc (.cells #[.int .i64 r.1.kind, .string r.1.name, .int .i64 r.1.n, .slice ya r.1.args.length yc] 25) = w6
    have HQy6 : Hid (w6.heap[w5.heap.size]? = some (.cells #[.int .i64 r.1.kind, .string r.1.name, .int .i64 r.1.n, .slice ya r.1.args.length yc] 25 (0, 0))) := Lib.hid (by rw [← hw]; exact alloc_new w5 _)
    have hb6 : Below w5.heap.size w5 w6 := by rw [← hw]; exact (Below.refl _ _).alloc (Nat.le_refl _) _
    clear hw
    have HB6 := Lib.hid (HB5.out.trans (hb6.mono HB5.out.size))
    have HQ6 := Lib.hid (keptR9 hb6 HQ5.out)
    have HQx6 := Lib.hid (keptR9 hb6 HQx5.out)
    have HX6 := Lib.hid (HX5.out.on hb6)
    have HY6 := Lib.hid (HY5.out.on hb6)
    clear hb6 HB5 HQ5 HQx5 HX5 HY5
    obtain ⟨c0, c1, c2, c3, _⟩ := cellsT HQ6.out
    go_wp2_with fail
    refine (HLK.out _ hle HZ2.out HB6.out).mono ?_; rintro e w7 ⟨ua, uc, rfl, hu, hb7⟩
    have HU7 := Lib.hid hu
    clear hu c0 c1 c2 c3 HLK
    have HB7 := Lib.hid (HB6.out.trans (hb7.mono HB6.out.size))
    have HQ7 := Lib.hid (keptR9 hb7 HQ6.out)
    have HQx7 := Lib.hid (keptR9 hb7 HQx6.out)
    have HQy7 := Lib.hid (keptR9 hb7 HQy6.out)
    have HX7 := Lib.hid (HX6.out.on hb7)
    have HY7 := Lib.hid (HY6.out.on hb7)
    clear hb7 HB6 HQ6 HQx6 HQy6 HX6 HY6
    go_upto_region 7 with fail
    generalize hw : w7.alloc (.cells #[.int .i64 lk.kind, .string lk.name, .int .i64 lk.n, .slice ua lk.args.length uc] 25) = w8
    have HQu8 : Hid (w8.heap[w7.heap.size]? = some (.cells #[.int .i64 lk.kind, .string lk.name, .int .i64 lk.n, .slice ua lk.args.length uc] 25 (0, 0))) := Lib.hid (by rw [← hw]; exact alloc_new w7 _)
    have hb8 : Below w7.heap.size w7 w8 := by rw [← hw]; exact (Below.refl _ _).alloc (Nat.le_refl _) _
    clear hw
    have HB8 := Lib.hid (HB7.out.trans (hb8.mono HB7.out.size))
    have HQ8 := Lib.hid (keptR9 hb8 HQ7.out)
    have HQx8 := Lib.hid (keptR9 hb8 HQx7.out)
    have HQy8 := Lib.hid (keptR9 hb8 HQy7.out)
    have HX8 := Lib.hid (HX7.out.on hb8)
    have HY8 := Lib.hid (HY7.out.on hb8)
    have HU8 := Lib.hid (HU7.out.on hb8)
    clear hb8 HB7 HQ7 HQx7 HQy7 HX7 HY7 HU7
    obtain ⟨c0, c1, c2, c3, _⟩ := cellsT HQ8.out
    go_wp2_with fail
    refine (HRL.out _ hle HB8.out).mono ?_; rintro e w9 ⟨va, vc, rfl, hv, hb9⟩
    have HV9 := Lib.hid hv.toIn
    clear hv c0 c1 c2 c3 HRL
    have HB9 := Lib.hid (HB8.out.trans (hb9.mono HB8.out.size))
    have HQ9 := Lib.hid (keptR9 hb9 HQ8.out)
    have HQx9 := Lib.hid (keptR9 hb9 HQx8.out)
    have HQy9 := Lib.hid (keptR9 hb9 HQy8.out)
    have HQu9 := Lib.hid (keptR9 hb9 HQu8.out)
    have HX9 := Lib.hid (HX8.out.on hb9)
    have HY9 := Lib.hid (HY8.out.on hb9)
    have HU9 := Lib.hid (HU8.out.on hb9)
    clear hb9 HB8 HQ8 HQx8 HQy8 HQu8 HX8 HY8 HU8
    go_upto_region 8 with fail
    generalize hw : w9.alloc (.cells #[.int .i64 lk.kind, .string lk.name, .int .i64 lk.n, .slice va lk.args.length vc] 25) = wA
    have HQvA : Hid (wA.heap[w9.heap.size]? = some (.cells #[.int .i64 lk.kind, .string lk.name, .int .i64 lk.n, .slice va lk.args.length vc] 25 (0, 0))) := Lib.hid (by rw [← hw]; exact alloc_new w9 _)
    have hbA : Below w9.heap.size w9 wA := by rw [← hw]; exact (Below.refl _ _).alloc (Nat.le_refl _) _
    clear hw
    have HBA := Lib.hid (HB9.out.trans (hbA.mono HB9.out.size))
    have HQA := Lib.hid (keptR9 hbA HQ9.out)
    have HQxA := Lib.hid (keptR9 hbA HQx9.out)
    have HQyA := Lib.hid (keptR9 hbA HQy9.out)
    have HQuA := Lib.hid (keptR9 hbA HQu9.out)
    have HXA := Lib.hid (HX9.out.on hbA)
    have HYA := Lib.hid (HY9.out.on hbA)
    have HUA := Lib.hid (HU9.out.on hbA)
    have HVA := Lib.hid (HV9.out.on hbA)
    clear hbA HB9 HQ9 HQx9 HQy9 HQu9 HX9 HY9 HU9 HV9
    have HK : Hid (∀ W, Below wA.heap.size wA W → W.cell? ⟨w.heap.size, 0, none⟩ = some (.int .i64 t.kind) ∧ W.cell? ⟨w.heap.size, 1, none⟩ = some (.string t.name) ∧ W.cell? ⟨w.heap.size, 2, none⟩ = some (.int .i64 t.n) ∧ W.cell? ⟨w.heap.size, 3, none⟩ = some (.slice ad t.args.length cap) ∧ W.cell? ⟨w3.heap.size, 0, none⟩ = some (.int .i64 r.1.kind) ∧ W.cell? ⟨w3.heap.size, 1, none⟩ = some (.string r.1.name) ∧ W.cell? ⟨w3.heap.size, 2, none⟩ = some (.int .i64 r.1.n) ∧ W.cell? ⟨w3.heap.size, 3, none⟩ = some (.slice xa r.1.args.length xc) ∧ W.cell? ⟨w5.heap.size, 0, none⟩ = some (.int .i64 r.1.kind) ∧ W.cell? ⟨w5.heap.size, 1, none⟩ = some (.string r.1.name) ∧ W.cell? ⟨w5.heap.size, 2, none⟩ = some (.int .i64 r.1.n) ∧ W.cell? ⟨w5.heap.size, 3, none⟩ = some (.slice ya r.1.args.length yc) ∧ W.cell? ⟨w7.heap.size, 0, none⟩ = some (.int .i64 lk.kind) ∧ W.cell? ⟨w7.heap.size, 1, none⟩ = some (.string lk.name) ∧ W.cell? ⟨w7.heap.size, 2, none⟩ = some (.int .i64 lk.n) ∧ W.cell? ⟨w7.heap.size, 3, none⟩ = some (.slice ua lk.args.length uc) ∧ W.cell? ⟨w9.heap.size, 0, none⟩ = some (.int .i64 lk.kind) ∧ W.cell? ⟨w9.heap.size, 1, none⟩ = some (.string lk.name) ∧ W.cell? ⟨w9.heap.size, 2, none⟩ = some (.int .i64 lk.n) ∧ W.cell? ⟨w9.heap.size, 3, none⟩ = some (.slice va lk.args.length vc)) := Lib.hid (fun W h => by
      obtain ⟨c0, c1, c2, c3, _⟩ := cellsT (keptR9 h HQA.out)
      obtain ⟨x0, x1, x2, x3, _⟩ := cellsT (keptR9 h HQxA.out)
      obtain ⟨y0, y1, y2, y3, _⟩ := cellsT (keptR9 h HQyA.out)
      obtain ⟨u0, u1, u2, u3, _⟩ := cellsT (keptR9 h HQuA.out)
      obtain ⟨v0, v1, v2, v3, _⟩ := cellsT (keptR9 h HQvA.out)
      exact ⟨c0, c1, c2, c3, x0, x1, x2, x3, y0, y1, y2, y3, u0, u1, u2, u3, v0, v1, v2, v3⟩)
    have HSA := Lib.hid (fun W (h : Below wA.heap.size wA W) => same_yes r.1 xa ya xc yc W (by omega) (HXA.out.on h) (HYA.out.on h))
    have HSB := Lib.hid (fun W (h : Below wA.heap.size wA W) => same_yes lk ua va uc vc W (by omega) (HUA.out.on h) (HVA.out.on h))
    have HFA := Lib.hid (fun W (h : Below wA.heap.size wA W) => HFR.out W (by omega) (HBA.out.trans (h.mono HBA.out.size)))
    have HFB := Lib.hid (fun W (h : Below wA.heap.size wA W) => HRF.out W (by omega) (HBA.out.trans (h.mono HBA.out.size)))
    have HSC := Lib.hid (fun pa pc qa qc W (h1 : TmIn W sh pa pc) (h2 : TmIn W sh qa qc) => same_yes sh pa qa pc qc W (by omega) h1 h2)
    unfold tmv at HSA HSB HSC
    have bD : Below wA.heap.size wA wA.drew := (Below.refl _ wA).drew
    clear HFR HRF HXA HYA HUA HVA HQA HQxA HQyA HQuA HQvA
    go_region_held3 (fun W => W.cell? ⟨w.heap.size, 0, none⟩ = some (.int .i64 t.kind) ∧ W.cell? ⟨w.heap.size, 1, none⟩ = some (.string t.name) ∧ W.cell? ⟨w.heap.size, 2, none⟩ = some (.int .i64 t.n) ∧ W.cell? ⟨w.heap.size, 3, none⟩ = some (.slice ad t.args.length cap) ∧ W.cell? ⟨w3.heap.size, 0, none⟩ = some (.int .i64 r.1.kind) ∧ W.cell? ⟨w3.heap.size, 1, none⟩ = some (.string r.1.name) ∧ W.cell? ⟨w3.heap.size, 2, none⟩ = some (.int .i64 r.1.n) ∧ W.cell? ⟨w3.heap.size, 3, none⟩ = some (.slice xa r.1.args.length xc) ∧ W.cell? ⟨w5.heap.size, 0, none⟩ = some (.int .i64 r.1.kind) ∧ W.cell? ⟨w5.heap.size, 1, none⟩ = some (.string r.1.name) ∧ W.cell? ⟨w5.heap.size, 2, none⟩ = some (.int .i64 r.1.n) ∧ W.cell? ⟨w5.heap.size, 3, none⟩ = some (.slice ya r.1.args.length yc) ∧ W.cell? ⟨w7.heap.size, 0, none⟩ = some (.int .i64 lk.kind) ∧ W.cell? ⟨w7.heap.size, 1, none⟩ = some (.string lk.name) ∧ W.cell? ⟨w7.heap.size, 2, none⟩ = some (.int .i64 lk.n) ∧ W.cell? ⟨w7.heap.size, 3, none⟩ = some (.slice ua lk.args.length uc) ∧ W.cell? ⟨w9.heap.size, 0, none⟩ = some (.int .i64 lk.kind) ∧ W.cell? ⟨w9.heap.size, 1, none⟩ = some (.string lk.name) ∧ W.cell? ⟨w9.heap.size, 2, none⟩ = some (.int .i64 lk.n) ∧ W.cell? ⟨w9.heap.size, 3, none⟩ = some (.slice va lk.args.length vc))
      (first | with_reducible exact HK.out _ bF | with_reducible exact HK.out _ bE | with_reducible exact HK.out _ bd | with_reducible exact HK.out _ bC | with_reducible exact HK.out _ bB | with_reducible exact HK.out _ bD)
      (first
        | (go_at_call 13; (with_reducible refine (HSA.out _ bD).mono ?_); rintro e wB ⟨rfl, hbB⟩; have bB := bD.trans (hbB.mono bD.size))
        | (go_at_call 13; (with_reducible refine (HSB.out _ bB).mono ?_); rintro e wC ⟨rfl, hbC⟩; have bC := bB.trans (hbC.mono bB.size))
        | (go_at_call 14; (with_reducible refine (HFA.out _ bC).mono ?_); rintro e wd ⟨pa, pc, rfl, hp, hbd⟩; have bd := bC.trans (hbd.mono bC.size); have HPd := Lib.hid hp.toIn; clear hp)
        | (go_at_call 15; (with_reducible refine (HFB.out _ bd).mono ?_); rintro e wE ⟨qa, qc, rfl, hq, hbE⟩; have bE := bd.trans (hbE.mono bd.size); have HQE := Lib.hid hq.toIn; have HPE := Lib.hid (HPd.out.on hbE); clear hq)
        | (go_at_call 13; (with_reducible refine (HSC.out pa pc qa qc _ HPE.out HQE.out).mono ?_); rintro e wF ⟨rfl, hbF⟩; have bF := bE.trans (hbF.mono bE.size)))
    have HBF := Lib.hid (HBA.out.trans (bF.mono HBA.out.size))
    go_wp2_with fail
    go_ret
    exact ⟨rfl, HBF.out⟩
end Go.Proofs.Ytjgjeafjnaodkaa
