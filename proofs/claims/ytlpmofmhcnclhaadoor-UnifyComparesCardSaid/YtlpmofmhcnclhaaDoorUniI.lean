/-
  The walk of the law UnifyCompares.
-/
import Derived.Test.YtlpmofmhcnclhaaDoorUniH
import Derived.Test.YtlpmofmhcnclhaaDoorUniF
namespace Go.Proofs.YtlpmofmhcnclhaaDoor
open Go.RowKit

set_option maxRecDepth 100000 in
set_option maxHeartbeats 8000000 in
theorem walk_UnifyCompares (bs : List (Int × Tm)) (ab : Option Addr) (cb : Nat) (x y : Tm) (ax : Option Addr) (cx : Nat) (ay : Option Addr) (cy : Nat) (w : World) (hl : bs.length ≤ cb) (hc : cb ≤ maxLen) (hb : BdsAt w (fun b => b < w.heap.size) ab bs) (hx : TmIn w x ax cx) (hy : TmIn w y ay cy) (hT : Tabs w) :
    Calls Tryd.prog 3 #[.slice ab bs.length cb, tmv x ax cx, tmv y ay cy] w fun e w' => e = .returned (.bool true) ∧ Below w.heap.size w w' := by
  have HL := Lib.hid (fun W => uni_live W)
  have HB0 := Lib.hid (fun o1 o2 : Obj => ((Below.refl w.heap.size w).alloc (Nat.le_refl _) o1).alloc (by simp) o2)
  have HXN := Lib.hid (fun W (h : Below w.heap.size w W) => hx.on h)
  have HYN := Lib.hid (fun W (h : Below w.heap.size w W) => hy.on h)
  have HBD := Lib.hid (fun W (h : Below w.heap.size w W) => hb.kept (w' := W) (Q := fun b => b < W.heap.size) (fun b _ hl => h.block b hl) fun b hb _ => Nat.lt_of_lt_of_le hb h.size)
  have HBG := Lib.hid (fun W (g : Nat) (h : Below w.heap.size w W) (ht : TArgs W (some ⟨g, 0, none⟩) [x, y]) => (show Calls Tryd.prog 9 #[.slice ab bs.length cb, .slice (some ⟨g, 0, none⟩) 2 2] W _ from law_big10 bs ab cb [x, y] (some ⟨g, 0, none⟩) 2 W (HBD.out W h) (Nat.le_refl 2) (by decide) ht))
  have HNO := Lib.hid (fun (h : bigB bs [x, y] = false) => bigB_no h)
  have HGD := Lib.hid (fun W (g : Nat) (hle : bs.length ≤ 100000) (hz : ∀ b ∈ bs, b.2.size ≤ 300) (hxs : x.size ≤ 3000) (hys : y.size ≤ 3000) (h : Below w.heap.size w W) (ht : TArgs W (some ⟨g, 0, none⟩) [x, y]) => (show Calls Tryd.prog 10 #[.slice ab bs.length cb, .slice (some ⟨g, 0, none⟩) 2 2] W _ from law_good10 bs ab cb [x, y] (some ⟨g, 0, none⟩) 2 W (hT.on h) (by omega) (fun b hb => Nat.le_trans (hz b hb) (by decide)) (fun s hs => by rcases List.mem_cons.1 hs with rfl | hs; exact Nat.le_trans hxs (by decide); rw [List.mem_singleton.1 hs]; exact Nat.le_trans hys (by decide)) (HBD.out W h) (Nat.le_refl 2) (by decide) ht))
  have HYES := Lib.hid (fun (h : goodB bs [x, y] = true) => goodB_yes h)
  have HCM := Lib.hid (fun W (hle : bs.length ≤ 100000) (hz : ∀ b ∈ bs, b.2.size ≤ 300) (hxs : x.size ≤ 3000) (hys : y.size ≤ 3000) (mb : MayB bs) (mx : x.may = true) (my : y.may = true) (h : Below w.heap.size w W) => ub_Compare bs ab cb x y ax cx ay cy W hle hl hc (fun b hb => Nat.le_trans (hz b hb) (by decide)) (Nat.le_trans hxs (by decide)) (Nat.le_trans hys (by decide)) (HBD.out W h) (hx.on h) (hy.on h) mb mx my)
  have HRC := Lib.hid (fun W (hle : bs.length ≤ 100000) (hz : ∀ b ∈ bs, b.2.size ≤ 300) (hxs : x.size ≤ 3000) (hys : y.size ≤ 3000) (h : Below w.heap.size w W) => r10_Compare bs ab cb x y ax cx ay cy W (by omega) (fun b hb => Nat.le_trans (hz b hb) (by decide)) (Nat.le_trans hxs (by decide)) (Nat.le_trans hys (by decide)) (HBD.out W h) (hx.on h) (hy.on h))
  clear hb hx hy hT
  generalize bigB bs [x, y] = bg at *
  generalize goodB bs [x, y] = gd at *
  generalize cmpr bs 0 [(x, y)] = rc at *
  unfold tmv at *
  go_enter Tryd.func3, Tryd.ntmps3
  go_wp2_with fail
  have qx := (Below.heap_alloc (w.alloc (.cells #[.int .i64 x.kind, .string x.name, .int .i64 x.n, .slice ax x.args.length cx] 25)) (.cells #[.int .i64 y.kind, .string y.name, .int .i64 y.n, .slice ay y.args.length cy] 25) w.heap.size (by simp)).trans (alloc_new w (.cells #[.int .i64 x.kind, .string x.name, .int .i64 x.n, .slice ax x.args.length cx] 25))
  have qy := alloc_new2 w (.cells #[.int .i64 x.kind, .string x.name, .int .i64 x.n, .slice ax x.args.length cx] 25) (.cells #[.int .i64 y.kind, .string y.name, .int .i64 y.n, .slice ay y.args.length cy] 25)
  refine (HL.out _).mono ?_; rintro e w1 ⟨rfl, hb⟩
  have HB1 := Lib.hid ((HB0.out _ _).trans (hb.mono (by simp <;> omega)))
  have HX1 := Lib.hid (keptR9 hb qx)
  have HY1 := Lib.hid (keptR9 hb qy)
  clear hb qx qy HB0 HL
  obtain ⟨c0, c1, c2, c3, _⟩ := cellsT HX1.out
  obtain ⟨d0, d1, d2, d3, _⟩ := cellsT HY1.out
  go_wp2_with fail
  generalize hw : w1.alloc (.cells #[.int .i64 x.kind, .string x.name, .int .i64 x.n, .slice ax x.args.length cx, .int .i64 y.kind, .string y.name, .int .i64 y.n, .slice ay y.args.length cy] 25) = w1a
  have HR1 : Hid (TArgs w1a (some ⟨w1.heap.size, 0, none⟩) [x, y]) := Lib.hid (by rw [← hw]; exact rowS2 (HXN.out _ HB1.out) (HYN.out _ HB1.out) _ rfl)
  have hb1a : Below w1.heap.size w1 w1a := by rw [← hw]; exact (Below.refl _ _).alloc (Nat.le_refl _) _
  have HB1a := Lib.hid (HB1.out.trans (hb1a.mono HB1.out.size))
  have HX1a := Lib.hid (keptR9 hb1a HX1.out)
  have HY1a := Lib.hid (keptR9 hb1a HY1.out)
  clear hw hb1a c0 c1 c2 c3 d0 d1 d2 d3 HX1 HY1 HB1
  refine (HBG.out _ _ HB1a.out HR1.out).mono ?_; rintro e w2 ⟨rfl, hb2⟩
  have HB2 := Lib.hid (HB1a.out.trans (hb2.mono HB1a.out.size))
  have HX2 := Lib.hid (keptR9 hb2 HX1a.out)
  have HY2 := Lib.hid (keptR9 hb2 HY1a.out)
  clear hb2 HX1a HY1a HR1 HB1a HBG
  cases bg with
  | true =>
    go_wp2_with fail
    go_ret
    exact ⟨rfl, HB2.out⟩
  | false =>
    obtain ⟨hn1, hn2, hn3⟩ := HNO.out rfl
    have hle : bs.length ≤ 100000 := by omega
    have HXS : Hid (x.size ≤ 3000) := Lib.hid (hn3 x (by simp))
    have HYS : Hid (y.size ≤ 3000) := Lib.hid (hn3 y (by simp))
    have HZ2 := Lib.hid hn2
    have HLE := Lib.hid hn1
    clear hn1 hn2 hn3 HNO
    obtain ⟨c0, c1, c2, c3, _⟩ := cellsT HX2.out
    obtain ⟨d0, d1, d2, d3, _⟩ := cellsT HY2.out
    go_wp2_with fail
    generalize hw : w2.alloc (.cells #[.int .i64 x.kind, .string x.name, .int .i64 x.n, .slice ax x.args.length cx, .int .i64 y.kind, .string y.name, .int .i64 y.n, .slice ay y.args.length cy] 25) = w2a
    have HR2 : Hid (TArgs w2a (some ⟨w2.heap.size, 0, none⟩) [x, y]) := Lib.hid (by rw [← hw]; exact rowS2 (HXN.out _ HB2.out) (HYN.out _ HB2.out) _ rfl)
    have hb2a : Below w2.heap.size w2 w2a := by rw [← hw]; exact (Below.refl _ _).alloc (Nat.le_refl _) _
    have HB2a := Lib.hid (HB2.out.trans (hb2a.mono HB2.out.size))
    have HX2a := Lib.hid (keptR9 hb2a HX2.out)
    have HY2a := Lib.hid (keptR9 hb2a HY2.out)
    clear hw hb2a c0 c1 c2 c3 d0 d1 d2 d3 HX2 HY2 HB2
    refine (HGD.out _ _ hle HZ2.out HXS.out HYS.out HB2a.out HR2.out).mono ?_; rintro e w3 ⟨rfl, hb3⟩
    have HB3 := Lib.hid (HB2a.out.trans (hb3.mono HB2a.out.size))
    have HX3 := Lib.hid (keptR9 hb3 HX2a.out)
    have HY3 := Lib.hid (keptR9 hb3 HY2a.out)
    clear hb3 HX2a HY2a HR2 HB2a HGD
    cases gd with
    | false =>
      go_wp2_with fail
      go_ret
      exact ⟨rfl, HB3.out⟩
    | true =>
      obtain ⟨hg1, hg2⟩ := HYES.out rfl
      have HMB : Hid (MayB bs) := Lib.hid (fun p hp => chk_mayU (hg1 p hp))
      have HMX : Hid (x.may = true) := Lib.hid (chk_mayU (hg2 x (by simp)))
      have HMY : Hid (y.may = true) := Lib.hid (chk_mayU (hg2 y (by simp)))
      clear hg1 hg2 HYES
      obtain ⟨c0, c1, c2, c3, _⟩ := cellsT HX3.out
      obtain ⟨d0, d1, d2, d3, _⟩ := cellsT HY3.out
      go_wp2_with fail
      refine (HCM.out _ hle HZ2.out HXS.out HYS.out HMB.out HMX.out HMY.out HB3.out).mono ?_; rintro e w4 ⟨rfl, hb4⟩
      have HB4 := Lib.hid (HB3.out.trans (hb4.mono HB3.out.size))
      have HX4 := Lib.hid (keptR9 hb4 HX3.out)
      have HY4 := Lib.hid (keptR9 hb4 HY3.out)
      clear hb4 c0 c1 c2 c3 d0 d1 d2 d3 HX3 HY3 HB3
      obtain ⟨c0, c1, c2, c3, _⟩ := cellsT HX4.out
      obtain ⟨d0, d1, d2, d3, _⟩ := cellsT HY4.out
      go_wp2_with fail
      refine (HRC.out _ hle HZ2.out HXS.out HYS.out HB4.out).mono ?_; rintro e w5 ⟨rfl, hb5⟩
      have HB5 := Lib.hid (HB4.out.trans (hb5.mono HB4.out.size))
      clear hb5 c0 c1 c2 c3 d0 d1 d2 d3 HX4 HY4 HB4
      go_wp2_with fail
      go_ret
      exact ⟨rfl, HB5.out⟩
end Go.Proofs.YtlpmofmhcnclhaaDoor
