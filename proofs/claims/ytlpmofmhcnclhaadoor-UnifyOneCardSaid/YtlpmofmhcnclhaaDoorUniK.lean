/-
  The walk of the law UnifyOne.
-/
import Derived.Test.YtlpmofmhcnclhaaDoorUniI
import Derived.Test.YtlpmofmhcnclhaaDoorUniT
namespace Go.Proofs.YtlpmofmhcnclhaaDoor
open Go.RowKit

set_option maxRecDepth 100000 in
set_option maxHeartbeats 8000000 in
theorem walk_UnifyOne (bs : List (Int × Tm)) (ab : Option Addr) (cb : Nat) (x y : Tm) (ax : Option Addr) (cx : Nat) (ay : Option Addr) (cy : Nat) (w : World) (hl : bs.length ≤ cb) (hc : cb ≤ maxLen) (hb : BdsAt w (fun b => b < w.heap.size) ab bs) (hx : TmIn w x ax cx) (hy : TmIn w y ay cy) (hT : Tabs w) :
    Calls Tryd.prog 4 #[.slice ab bs.length cb, .agg #[.int .i64 x.kind, .string x.name, .int .i64 x.n, .slice ax x.args.length cx], .agg #[.int .i64 y.kind, .string y.name, .int .i64 y.n, .slice ay y.args.length cy]] w fun e w' => e = .returned (.bool true) ∧ Below w.heap.size w w' := by
  have HL := Lib.hid (fun W => uni_live W)
  have HB0 := Lib.hid (fun o1 o2 : Obj => ((Below.refl w.heap.size w).alloc (Nat.le_refl _) o1).alloc (by simp) o2)
  have HXN := Lib.hid (fun W (h : Below w.heap.size w W) => hx.on h)
  have HYN := Lib.hid (fun W (h : Below w.heap.size w W) => hy.on h)
  have HBD := Lib.hid (fun W (h : Below w.heap.size w W) => hb.kept (w' := W) (Q := fun b => b < W.heap.size) (fun b _ hl => h.block b hl) fun b hb _ => Nat.lt_of_lt_of_le hb h.size)
  have HBG := Lib.hid (fun W (g : Nat) (h : Below w.heap.size w W) (ht : TArgs W (some ⟨g, 0, none⟩) [x, y]) => (show Calls Tryd.prog 9 #[.slice ab bs.length cb, .slice (some ⟨g, 0, none⟩) 2 2] W _ from law_big10 bs ab cb [x, y] (some ⟨g, 0, none⟩) 2 W (HBD.out W h) (Nat.le_refl 2) (by decide) ht))
  have HNO := Lib.hid (fun (h : bigB bs [x, y] = false) => bigB_no h)
  have HGD := Lib.hid (fun W (g : Nat) (hle : bs.length ≤ 100000) (hz : ∀ b ∈ bs, b.2.size ≤ 300) (hxs : x.size ≤ 3000) (hys : y.size ≤ 3000) (h : Below w.heap.size w W) (ht : TArgs W (some ⟨g, 0, none⟩) [x, y]) => (show Calls Tryd.prog 10 #[.slice ab bs.length cb, .slice (some ⟨g, 0, none⟩) 2 2] W _ from law_good10 bs ab cb [x, y] (some ⟨g, 0, none⟩) 2 W (hT.on h) (by omega) (fun b hb => Nat.le_trans (hz b hb) (by decide)) (fun s hs => by rcases List.mem_cons.1 hs with rfl | hs; exact Nat.le_trans hxs (by decide); rw [List.mem_singleton.1 hs]; exact Nat.le_trans hys (by decide)) (HBD.out W h) (Nat.le_refl 2) (by decide) ht))
  have HYES := Lib.hid (fun (h : goodB bs [x, y] = true) => goodB_yes h)
  have HU1 := Lib.hid (fun W (hle : bs.length ≤ 100000) (hz : ∀ b ∈ bs, b.2.size ≤ 300) (hxs : x.size ≤ 3000) (hys : y.size ≤ 3000) (h : Below w.heap.size w W) => ub_Unify bs ab cb x y ax cx ay cy W hle hl hc (fun b hb => Nat.le_trans (hz b hb) (by decide)) (Nat.le_trans hxs (by decide)) (Nat.le_trans hys (by decide)) (HBD.out W h) (hx.on h) (hy.on h))
  have HUO := Lib.hid (uni_out _ bs 0 [(x, y)] (Nat.le_refl _) (Nat.zero_le _))
  have HFC := Lib.hid (fun (L : Bds) (n' : Nat) (mb : MayB bs) (mx : x.may = true) (my : y.may = true) (h : uni bs 0 [(x, y)] = (some L, 0, n')) => (uni_one _ bs L 0 n' [(x, y)] (Nat.le_refl _) (Nat.zero_le _) mb (fun p hp => by rw [List.mem_singleton.1 hp]; exact ⟨mx, my⟩) h).2.2 (x, y) (.head _))
  have HSZ := Lib.hid (fun (L : Bds) (n' : Nat) (hz : ∀ b ∈ bs, b.2.size ≤ 300) (hxs : x.size ≤ 3000) (hys : y.size ≤ 3000) (h : uni bs 0 [(x, y)] = (some L, 0, n')) => uni_sizes (M := 3000) (Nat.zero_le _) (fun p hp => Nat.le_trans (hz p hp) (by decide)) (fun p hp => by rw [List.mem_singleton.1 hp]; exact ⟨hxs, hys⟩) h)
  clear hb hx hy hT
  generalize bigB bs [x, y] = bg at *
  generalize goodB bs [x, y] = gd at *
  generalize uni bs 0 [(x, y)] = r at *
  unfold tmv at HU1
  go_enter Tryd.func4, Tryd.ntmps4
  go_wp2_with fail
  have qx := (Below.heap_alloc (w.alloc (.cells #[.int .i64 x.kind, .string x.name, .int .i64 x.n, .slice ax x.args.length cx] 25)) (.cells #[.int .i64 y.kind, .string y.name, .int .i64 y.n, .slice ay y.args.length cy] 25) w.heap.size (by simp)).trans (alloc_new w (.cells #[.int .i64 x.kind, .string x.name, .int .i64 x.n, .slice ax x.args.length cx] 25))
  have qy := alloc_new2 w (.cells #[.int .i64 x.kind, .string x.name, .int .i64 x.n, .slice ax x.args.length cx] 25) (.cells #[.int .i64 y.kind, .string y.name, .int .i64 y.n, .slice ay y.args.length cy] 25)
  refine (HL.out _).mono ?_; rintro e w1 ⟨rfl, hb⟩
  have HB1 := Lib.hid ((HB0.out _ _).trans (hb.mono (by simp <;> omega)))
  have HX1 := Lib.hid (keptR9 hb qx)
  have HY1 := Lib.hid (keptR9 hb qy)
  clear hb qx qy HB0 HL
  obtain ⟨c0, c1, c2, c3, _⟩ := cellsT HX1.out
  obtain ⟨d0, d1, d2, d3, _⟩ := cellsT HY1.out
  go_wp2_with fail
  generalize hw : w1.alloc (.cells #[.int .i64 x.kind, .string x.name, .int .i64 x.n, .slice ax x.args.length cx, .int .i64 y.kind, .string y.name, .int .i64 y.n, .slice ay y.args.length cy] 25) = w1a
  have HR1 : Hid (TArgs w1a (some ⟨w1.heap.size, 0, none⟩) [x, y]) := Lib.hid (by rw [← hw]; exact rowS2 (HXN.out _ HB1.out) (HYN.out _ HB1.out) _ rfl)
  have hb1a : Below w1.heap.size w1 w1a := by rw [← hw]; exact (Below.refl _ _).alloc (Nat.le_refl _) _
  have HB1a := Lib.hid (HB1.out.trans (hb1a.mono HB1.out.size))
  have HX1a := Lib.hid (keptR9 hb1a HX1.out)
  have HY1a := Lib.hid (keptR9 hb1a HY1.out)
  clear hw hb1a c0 c1 c2 c3 d0 d1 d2 d3 HX1 HY1 HB1
  refine (HBG.out _ _ HB1a.out HR1.out).mono ?_; rintro e w2 ⟨rfl, hb2⟩
  have HB2 := Lib.hid (HB1a.out.trans (hb2.mono HB1a.out.size))
  have HX2 := Lib.hid (keptR9 hb2 HX1a.out)
  have HY2 := Lib.hid (keptR9 hb2 HY1a.out)
  clear hb2 HX1a HY1a HR1 HB1a HBG
  cases bg with
  | true =>
    go_wp2_with fail
    go_ret
    exact ⟨rfl, HB2.out⟩
  | false =>
    obtain ⟨hn1, hn2, hn3⟩ := HNO.out rfl
    have hle : bs.length ≤ 100000 := by omega
    have HXS : Hid (x.size ≤ 3000) := Lib.hid (hn3 x (by simp))
    have HYS : Hid (y.size ≤ 3000) := Lib.hid (hn3 y (by simp))
    have HZ2 := Lib.hid hn2
    have HLE := Lib.hid hn1
    clear hn1 hn2 hn3 HNO
    obtain ⟨c0, c1, c2, c3, _⟩ := cellsT HX2.out
    obtain ⟨d0, d1, d2, d3, _⟩ := cellsT HY2.out
    go_wp2_with fail
    generalize hw : w2.alloc (.cells #[.int .i64 x.kind, .string x.name, .int .i64 x.n, .slice ax x.args.length cx, .int .i64 y.kind, .string y.name, .int .i64 y.n, .slice ay y.args.length cy] 25) = w2a
    have HR2 : Hid (TArgs w2a (some ⟨w2.heap.size, 0, none⟩) [x, y]) := Lib.hid (by rw [← hw]; exact rowS2 (HXN.out _ HB2.out) (HYN.out _ HB2.out) _ rfl)
    have hb2a : Below w2.heap.size w2 w2a := by rw [← hw]; exact (Below.refl _ _).alloc (Nat.le_refl _) _
    have HB2a := Lib.hid (HB2.out.trans (hb2a.mono HB2.out.size))
    have HX2a := Lib.hid (keptR9 hb2a HX2.out)
    have HY2a := Lib.hid (keptR9 hb2a HY2.out)
    clear hw hb2a c0 c1 c2 c3 d0 d1 d2 d3 HX2 HY2 HB2
    refine (HGD.out _ _ hle HZ2.out HXS.out HYS.out HB2a.out HR2.out).mono ?_; rintro e w3 ⟨rfl, hb3⟩
    have HB3 := Lib.hid (HB2a.out.trans (hb3.mono HB2a.out.size))
    have HX3 := Lib.hid (keptR9 hb3 HX2a.out)
    have HY3 := Lib.hid (keptR9 hb3 HY2a.out)
    clear hb3 HX2a HY2a HR2 HB2a HGD
    cases gd with
    | false =>
      go_wp2_with fail
      go_ret
      exact ⟨rfl, HB3.out⟩
    | true =>
      obtain ⟨hg1, hg2⟩ := HYES.out rfl
      have HMB : Hid (MayB bs) := Lib.hid (fun p hp => chk_mayU (hg1 p hp))
      have HMX : Hid (x.may = true) := Lib.hid (chk_mayU (hg2 x (by simp)))
      have HMY : Hid (y.may = true) := Lib.hid (chk_mayU (hg2 y (by simp)))
      clear hg1 hg2 HYES
      obtain ⟨c0, c1, c2, c3, _⟩ := cellsT HX3.out
      obtain ⟨d0, d1, d2, d3, _⟩ := cellsT HY3.out
      go_wp2_with fail
      refine (HU1.out _ hle HZ2.out HXS.out HYS.out HB3.out).mono ?_; rintro e w4 ⟨v1, rfl, hv1, hb4⟩
      have HB4 := Lib.hid (HB3.out.trans (hb4.mono HB3.out.size))
      have HX4 := Lib.hid (keptR9 hb4 HX3.out)
      have HY4 := Lib.hid (keptR9 hb4 HY3.out)
      have HV1 := Lib.hid hv1.at
      clear hv1 HU1
      clear hb4 c0 c1 c2 c3 d0 d1 d2 d3 HX3 HY3 HB3
      obtain ⟨c0, c1, c2, c3, _⟩ := cellsT HX4.out
      obtain ⟨d0, d1, d2, d3, _⟩ := cellsT HY4.out
      rcases HUO.out with ⟨L, n', rfl, _, hn'⟩ | ⟨n', rfl, _⟩ | rfl
      · have HEQ := Lib.hid (HFC.out L n' HMB.out HMX.out HMY.out rfl)
        obtain ⟨hls, hll, _⟩ := HSZ.out L n' HZ2.out HXS.out HYS.out rfl
        have HLS := Lib.hid hls
        have HLL : Hid (L.length ≤ 3000) := Lib.hid (by have := HLE.out; omega)
        obtain ⟨a1, k1, rfl, hl1, hc1, hbl⟩ := HV1.out
        dsimp only [Option.getD] at hl1 hc1 hbl
        have HBL : Hid (∀ W, Below w4.heap.size w4 W → BdsAt W (fun b => b < W.heap.size) a1 L) := Lib.hid (fun W h => hbl.kept (fun b _ hl => h.block b hl) fun b hb _ => Nat.lt_of_lt_of_le hb h.size)
        have HRX := Lib.hid (fun W (h : Below w4.heap.size w4 W) => r9_Resolve L a1 k1 x ax cx W (by have := HLL.out; omega) (fun b hb => Nat.le_trans (HLS.out b hb) (by decide)) (Nat.le_trans HXS.out (by decide)) (HBL.out W h) (HXN.out W (HB4.out.trans (h.mono HB4.out.size))))
        have HRY := Lib.hid (fun W (h : Below w4.heap.size w4 W) => r9_Resolve L a1 k1 y ay cy W (by have := HLL.out; omega) (fun b hb => Nat.le_trans (HLS.out b hb) (by decide)) (Nat.le_trans HYS.out (by decide)) (HBL.out W h) (HYN.out W (HB4.out.trans (h.mono HB4.out.size))))
        have HU2 := Lib.hid (fun W (h : Below w4.heap.size w4 W) => ub_Unify L a1 k1 x y ax cx ay cy W (by have := HLL.out; omega) hl1 hc1 (fun b hb => Nat.le_trans (HLS.out b hb) (by decide)) (Nat.le_trans HXS.out (by decide)) (Nat.le_trans HYS.out (by decide)) (HBL.out W h) (HXN.out W (HB4.out.trans (h.mono HB4.out.size))) (HYN.out W (HB4.out.trans (h.mono HB4.out.size))))
        have HAG := Lib.hid (uni_again (l := L) _ 0 [(x, y)] (Nat.le_refl _) (Nat.zero_le _) fun p hp k => by rw [List.mem_singleton.1 hp]; exact HEQ.out k)
        have HRO := Lib.hid (fun s t p q (h1 : resR L 60 0 x = (s, 0, p)) (h2 : resR L 60 0 y = (t, 0, q)) => resR_one (l := L) 60 60 0 0 x y s t p q HEQ.out h1 h2)
        have HSX := Lib.hid (resR_out L 60 0 x (Nat.zero_le _))
        have HSB := Lib.hid (fun W (a2 : Option Addr) (k2 : Nat) (h : Below w4.heap.size w4 W) (h2 : BdsAt W (fun b => b < W.heap.size) a2 L) => r10_SameBinds L a1 k1 a2 k2 W (fun b => b < W.heap.size) (fun b => b < W.heap.size) (by have := HLL.out; omega) (fun b hb => Nat.le_trans (HLS.out b hb) (by decide)) (HBL.out W h) h2)
        clear HV1 HUO HFC HSZ hls hll hl1 hc1 hbl HEQ
        generalize uni L 0 [(x, y)] = r2 at *
        generalize resR L 60 0 x = rs at *
        generalize resR L 60 0 y = rt at *
        obtain ⟨S, es, ns⟩ := rs
        obtain ⟨T, et, nt⟩ := rt
        unfold tmv at HRX HRY HU2
        dsimp only [Option.getD, Option.isSome] at HRX HRY ⊢
        have hsx := HSX.out
        unfold ResOk at hsx
        dsimp only at hsx
        go_wp2_with fail
        refine (HRX.out w4 (Below.refl _ _)).mono ?_; rintro e w5 ⟨sa, sc, rfl, hs5, hb5⟩
        have HX5 := Lib.hid (keptR9 hb5 HX4.out)
        have HY5 := Lib.hid (keptR9 hb5 HY4.out)
        have HB45 := Lib.hid hb5
        have HS5 := Lib.hid hs5
        clear hs5 hb5 c0 c1 c2 c3 d0 d1 d2 d3 HX4 HY4 HRX
        go_upto_region 8 with fail
        generalize hw : w5.alloc (.cells #[.int .i64 S.kind, .string S.name, .int .i64 S.n, .slice sa S.args.length sc] 25) = w5a
        have hb5a : Below w5.heap.size w5 w5a := by rw [← hw]; exact (Below.refl _ _).alloc (Nat.le_refl _) _
        have HQ5 : Hid (w5a.heap[w5.heap.size]? = some (.cells #[.int .i64 S.kind, .string S.name, .int .i64 S.n, .slice sa S.args.length sc] 25 (0, 0))) := Lib.hid (by rw [← hw]; exact alloc_new w5 _)
        have HX5a := Lib.hid (keptR9 hb5a HX5.out)
        have HY5a := Lib.hid (keptR9 hb5a HY5.out)
        have HB5a := Lib.hid (HB45.out.trans (hb5a.mono HB45.out.size))
        have HS5a := Lib.hid (HS5.out.on hb5a)
        clear hw hb5a HX5 HY5 HB45 HS5
        obtain ⟨d0, d1, d2, d3, _⟩ := cellsT HY5a.out
        go_wp2_with fail
        refine (HRY.out w5a HB5a.out).mono ?_; rintro e w6 ⟨ta, tc, rfl, ht6, hb6⟩
        have HX6 := Lib.hid (keptR9 hb6 HX5a.out)
        have HY6 := Lib.hid (keptR9 hb6 HY5a.out)
        have HQ6 := Lib.hid (keptR9 hb6 HQ5.out)
        have HB6 := Lib.hid (HB5a.out.trans (hb6.mono HB5a.out.size))
        have HS6 := Lib.hid (HS5a.out.on hb6)
        have HT6 := Lib.hid ht6
        clear ht6 hb6 d0 d1 d2 d3 HX5a HY5a HQ5 HB5a HS5a HRY
        go_upto_region 9 with fail
        generalize hw : w6.alloc (.cells #[.int .i64 T.kind, .string T.name, .int .i64 T.n, .slice ta T.args.length tc] 25) = w6a
        have hb6a : Below w6.heap.size w6 w6a := by rw [← hw]; exact (Below.refl _ _).alloc (Nat.le_refl _) _
        have HP6 : Hid (w6a.heap[w6.heap.size]? = some (.cells #[.int .i64 T.kind, .string T.name, .int .i64 T.n, .slice ta T.args.length tc] 25 (0, 0))) := Lib.hid (by rw [← hw]; exact alloc_new w6 _)
        have HX6a := Lib.hid (keptR9 hb6a HX6.out)
        have HY6a := Lib.hid (keptR9 hb6a HY6.out)
        have HQ6a := Lib.hid (keptR9 hb6a HQ6.out)
        have HB6a := Lib.hid (HB6.out.trans (hb6a.mono HB6.out.size))
        have HS6a := Lib.hid (HS6.out.on hb6a)
        have HT6a := Lib.hid (HT6.out.on hb6a)
        have HE6 := Lib.hid (HB4.out.trans (HB6a.out.mono HB4.out.size))
        clear hw hb6a HX6 HY6 HQ6 HB6 HS6 HT6
        by_cases hes : es = 0
        · by_cases het : et = 0
          · subst hes het
            obtain rfl := HRO.out S T ns nt rfl rfl
            have hss : S.size ≤ 1000000 := by
              rcases hsx with ⟨_, _, _, h1, h2⟩ | ⟨h, _⟩
              · omega
              · exact absurd rfl h
            have HSM := Lib.hid (fun W (h1 : TmIn W S sa sc) (h2 : TmIn W S ta tc) => same_yes S sa ta sc tc W hss h1 h2)
            unfold tmv at HSM
            clear hsx hss HRO
            obtain ⟨c0, c1, c2, c3, _⟩ := cellsT HX6a.out
            obtain ⟨d0, d1, d2, d3, _⟩ := cellsT HY6a.out
            go_wp2_with fail
            refine (HU2.out w6a HB6a.out).mono ?_; rintro e w7 ⟨v2, rfl, hv2, hb7⟩
            have HV2 := Lib.hid hv2
            have HQ7 := Lib.hid (keptR9 hb7 HQ6a.out)
            have HP7 := Lib.hid (keptR9 hb7 HP6.out)
            have HB7 := Lib.hid (HB6a.out.trans (hb7.mono HB6a.out.size))
            have HE7 := Lib.hid (HE6.out.trans (hb7.mono HE6.out.size))
            have HS7 := Lib.hid (HS6a.out.on hb7)
            have HT7 := Lib.hid (HT6a.out.on hb7)
            clear hv2 hb7 c0 c1 c2 c3 d0 d1 d2 d3 HQ6a HP6 HB6a HE6 HS6a HT6a HU2 HX6a HY6a
            rcases HAG.out with ⟨n2, rfl⟩ | rfl
            · obtain ⟨p0, p1, p2, p3, _⟩ := cellsT HQ7.out
              obtain ⟨q0, q1, q2, q3, _⟩ := cellsT HP7.out
              dsimp only [Option.getD, Option.isSome] at HV2 ⊢
              go_wp2_with fail
              refine (HSM.out w7 HS7.out HT7.out).mono ?_; rintro e w8 ⟨rfl, hb8⟩
              have HV8 := Lib.hid (HV2.out.below hb8).at
              have HB8 := Lib.hid (HB7.out.trans (hb8.mono HB7.out.size))
              have HE8 := Lib.hid (HE7.out.trans (hb8.mono HE7.out.size))
              clear hb8 p0 p1 p2 p3 q0 q1 q2 q3 HSM HV2
              obtain ⟨a2, k2, rfl, _, _, hbl2⟩ := HV8.out
              have HS := Lib.hid (HSB.out w8 a2 k2 HB8.out hbl2)
              clear hbl2 HV8 HSB
              go_wp2_with fail
              refine HS.out.mono ?_; rintro e w9 ⟨rfl, hb9⟩
              have HE9 := Lib.hid (HE8.out.trans (hb9.mono HE8.out.size))
              clear hb9
              go_wp2_with fail
              go_ret
              exact ⟨rfl, HE9.out⟩
            · go_wp2_with fail
              go_ret
              exact ⟨rfl, HE7.out⟩
          · have h1 : (es != 0) = false := by rw [hes]; rfl
            have h2 : (et != 0) = true := bne_iff_ne.2 het
            clear hes het hsx
            go_wp2_with fail
            go_ret
            exact ⟨rfl, HE6.out⟩
        · have h1 : (es != 0) = true := bne_iff_ne.2 hes
          clear hes hsx
          go_wp2_with fail
          go_ret
          exact ⟨rfl, HE6.out⟩
      · go_wp2_with fail
        go_ret
        exact ⟨rfl, HB4.out⟩
      · go_wp2_with fail
        go_ret
        exact ⟨rfl, HB4.out⟩
end Go.Proofs.YtlpmofmhcnclhaaDoor
