/-
  The walk of the law UnifySelf.
-/
import Derived.Test.YtlpmofmhcnclhaaDoorUniV
namespace Go.Proofs.YtlpmofmhcnclhaaDoor
open Go.RowKit

set_option maxRecDepth 100000 in
set_option maxHeartbeats 8000000 in
theorem walk_UnifySelf (bs : List (Int × Tm)) (ab : Option Addr) (cb : Nat) (t : Tm) (ad : Option Addr) (cap : Nat) (w : World) (hl : bs.length ≤ cb) (hc : cb ≤ maxLen) (hb : BdsAt w (fun b => b < w.heap.size) ab bs) (hin : TmIn w t ad cap) (hT : Tabs w) :
    Calls Tryd.prog 7 #[.slice ab bs.length cb, tmv t ad cap] w fun e w' => e = .returned (.bool true) ∧ Below w.heap.size w w' := by
  have HL := Lib.hid (fun W => uni_live W)
  have HB0 := Lib.hid (fun o : Obj => (Below.refl w.heap.size w).alloc (Nat.le_refl _) o)
  have HIN := Lib.hid (fun W (h : Below w.heap.size w W) => hin.on h)
  have HBD := Lib.hid (fun W (h : Below w.heap.size w W) => hb.kept (w' := W) (Q := fun b => b < W.heap.size) (fun b _ hl => h.block b hl) fun b hb _ => Nat.lt_of_lt_of_le hb h.size)
  have HBG := Lib.hid (fun W (g : Nat) (h : Below w.heap.size w W) (ht : TArgs W (some ⟨g, 0, none⟩) [t]) => (show Calls Tryd.prog 9 #[.slice ab bs.length cb, .slice (some ⟨g, 0, none⟩) 1 1] W _ from law_big10 bs ab cb [t] (some ⟨g, 0, none⟩) 1 W (HBD.out W h) (Nat.le_refl 1) (by decide) ht))
  have HGD := Lib.hid (fun W (g : Nat) (hle : bs.length ≤ 1000000) (hz : ∀ b ∈ bs, b.2.size ≤ 300) (hts : t.size ≤ 3000) (h : Below w.heap.size w W) (ht : TArgs W (some ⟨g, 0, none⟩) [t]) => (show Calls Tryd.prog 10 #[.slice ab bs.length cb, .slice (some ⟨g, 0, none⟩) 1 1] W _ from law_good10 bs ab cb [t] (some ⟨g, 0, none⟩) 1 W (hT.on h) hle (fun b hb => Nat.le_trans (hz b hb) (by decide)) (fun s hs => by rw [List.mem_singleton.1 hs]; exact Nat.le_trans hts (by decide)) (HBD.out W h) (Nat.le_refl 1) (by decide) ht))
  have HNO := Lib.hid (fun (h : bigB bs [t] = false) => bigB_no h)
  have HYES := Lib.hid (fun (h : goodB bs [t] = true) => goodB_yes h)
  have HUN := Lib.hid (fun W (hle : bs.length ≤ 100000) (hz : ∀ b ∈ bs, b.2.size ≤ 300) (hts : t.size ≤ 3000) (h : Below w.heap.size w W) => ub_Unify bs ab cb t t ad cap ad cap W hle hl hc (fun b hb => Nat.le_trans (hz b hb) (by decide)) (Nat.le_trans hts (by decide)) (Nat.le_trans hts (by decide)) (HBD.out W h) (hin.on h) (hin.on h))
  have HCM := Lib.hid (fun W (hle : bs.length ≤ 100000) (hz : ∀ b ∈ bs, b.2.size ≤ 300) (hts : t.size ≤ 3000) (mb : MayB bs) (mt : t.may = true) (h : Below w.heap.size w W) => ub_Compare bs ab cb t t ad cap ad cap W hle hl hc (fun b hb => Nat.le_trans (hz b hb) (by decide)) (Nat.le_trans hts (by decide)) (Nat.le_trans hts (by decide)) (HBD.out W h) (hin.on h) (hin.on h) mb mt mt)
  have HSB := Lib.hid (fun W (a1 : Option Addr) (c1 : Nat) (hle : bs.length ≤ 100000) (hz : ∀ b ∈ bs, b.2.size ≤ 300) (h : Below w.heap.size w W) (h1 : BdsAt W (fun b => b < W.heap.size) a1 bs) => r10_SameBinds bs a1 c1 ab cb W (fun b => b < W.heap.size) (fun b => b < W.heap.size) (by omega) (fun b hb => Nat.le_trans (hz b hb) (by decide)) h1 (HBD.out W h))
  have HSF := Lib.hid (fun (mb : MayB bs) (mt : t.may = true) => cmpr_self _ bs 0 [(t, t)] (Nat.le_refl _) (Nat.zero_le _) mb (fun p hp => by rw [List.mem_singleton.1 hp]; exact ⟨mt, mt⟩) (fun p hp => by rw [List.mem_singleton.1 hp]))
  clear hb hin hT
  generalize bigB bs [t] = bg at *
  generalize goodB bs [t] = gd at *
  generalize uni bs 0 [(t, t)] = r at *
  generalize cmpr bs 0 [(t, t)] = rc at *
  unfold tmv at *
  go_enter Tryd.func7, Tryd.ntmps7
  go_wp2_with fail
  have q1 := alloc_new w (.cells #[.int .i64 t.kind, .string t.name, .int .i64 t.n, .slice ad t.args.length cap] 25)
  refine (HL.out _).mono ?_; rintro e w1 ⟨rfl, hb⟩
  have HB1 := Lib.hid ((HB0.out _).trans (hb.mono (by simp)))
  have HQ1 := Lib.hid (keptR9 hb q1)
  clear hb q1 HB0 HL
  obtain ⟨c0, c1, c2, c3, _⟩ := cellsT HQ1.out
  go_wp2_with fail
  generalize hw : w1.alloc (.cells #[.int .i64 t.kind, .string t.name, .int .i64 t.n, .slice ad t.args.length cap] 25) = w1a
  have HR1 : Hid (TArgs w1a (some ⟨w1.heap.size, 0, none⟩) [t]) := Lib.hid (by rw [← hw]; exact rowS1 (HIN.out _ HB1.out) _ rfl)
  have hb1a : Below w1.heap.size w1 w1a := by rw [← hw]; exact (Below.refl _ _).alloc (Nat.le_refl _) _
  have HB1a := Lib.hid (HB1.out.trans (hb1a.mono HB1.out.size))
  have HQ1a := Lib.hid (keptR9 hb1a HQ1.out)
  clear hw hb1a c0 c1 c2 c3 HQ1 HB1
  refine (HBG.out _ _ HB1a.out HR1.out).mono ?_; rintro e w2 ⟨rfl, hb2⟩
  have HB2 := Lib.hid (HB1a.out.trans (hb2.mono HB1a.out.size))
  have HQ2 := Lib.hid (keptR9 hb2 HQ1a.out)
  clear hb2 HQ1a HR1 HB1a HBG
  cases bg with
  | true =>
    go_wp2_with fail
    go_ret
    exact ⟨rfl, HB2.out⟩
  | false =>
    obtain ⟨hn1, hn2, hn3⟩ := HNO.out rfl
    have hle : bs.length ≤ 100000 := by omega
    have HTS : Hid (t.size ≤ 3000) := Lib.hid (hn3 t (by simp))
    have HZ2 := Lib.hid hn2
    clear hn1 hn2 hn3 HNO
    obtain ⟨c0, c1, c2, c3, _⟩ := cellsT HQ2.out
    go_wp2_with fail
    generalize hw : w2.alloc (.cells #[.int .i64 t.kind, .string t.name, .int .i64 t.n, .slice ad t.args.length cap] 25) = w2a
    have HR2 : Hid (TArgs w2a (some ⟨w2.heap.size, 0, none⟩) [t]) := Lib.hid (by rw [← hw]; exact rowS1 (HIN.out _ HB2.out) _ rfl)
    have hb2a : Below w2.heap.size w2 w2a := by rw [← hw]; exact (Below.refl _ _).alloc (Nat.le_refl _) _
    have HB2a := Lib.hid (HB2.out.trans (hb2a.mono HB2.out.size))
    have HQ2a := Lib.hid (keptR9 hb2a HQ2.out)
    clear hw hb2a c0 c1 c2 c3 HQ2 HB2
    refine (HGD.out _ _ (by omega) HZ2.out HTS.out HB2a.out HR2.out).mono ?_; rintro e w3 ⟨rfl, hb3⟩
    have HB3 := Lib.hid (HB2a.out.trans (hb3.mono HB2a.out.size))
    have HQ3 := Lib.hid (keptR9 hb3 HQ2a.out)
    clear hb3 HQ2a HR2 HB2a HGD
    cases gd with
    | false =>
      go_wp2_with fail
      go_ret
      exact ⟨rfl, HB3.out⟩
    | true =>
      obtain ⟨hg1, hg2⟩ := HYES.out rfl
      have HMB : Hid (MayB bs) := Lib.hid (fun p hp => chk_mayU (hg1 p hp))
      have HMT : Hid (t.may = true) := Lib.hid (chk_mayU (hg2 t (by simp)))
      have hsf := HSF.out HMB.out HMT.out
      clear hg1 hg2 HYES HSF
      obtain ⟨c0, c1, c2, c3, _⟩ := cellsT HQ3.out
      go_wp2_with fail
      refine (HUN.out _ hle HZ2.out HTS.out HB3.out).mono ?_; rintro e w4 ⟨v, rfl, hv, hb4⟩
      have HB4 := Lib.hid (HB3.out.trans (hb4.mono HB3.out.size))
      have HQ4 := Lib.hid (keptR9 hb4 HQ3.out)
      have HV := Lib.hid hv
      clear hv hb4 c0 c1 c2 c3 HQ3 HB3 HUN
      obtain ⟨c0, c1, c2, c3, _⟩ := cellsT HQ4.out
      go_wp2_with fail
      refine (HCM.out _ hle HZ2.out HTS.out HMB.out HMT.out HB4.out).mono ?_; rintro e w5 ⟨rfl, hb5⟩
      have HB5 := Lib.hid (HB4.out.trans (hb5.mono HB4.out.size))
      have HV5 := Lib.hid (HV.out.below hb5)
      clear hb5 c0 c1 c2 c3 HCM HQ4 HB4
      rcases hsf with ⟨n', rfl, rfl⟩ | ⟨rfl, rfl⟩
      · obtain ⟨va, vc, rfl, hv1, hv2, hv3⟩ := HV5.out.at
        have HS := Lib.hid (HSB.out w5 va vc hle HZ2.out HB5.out hv3)
        clear hv1 hv2 hv3 HV HV5 HSB
        go_wp2_with fail
        refine HS.out.mono ?_; rintro e w6 ⟨rfl, hb6⟩
        have HB6 := Lib.hid (HB5.out.trans (hb6.mono HB5.out.size))
        clear hb6 HB5 HS
        go_wp2_with fail
        go_ret
        exact ⟨rfl, HB6.out⟩
      · clear HV HV5 HSB
        go_wp2_with fail
        go_ret
        exact ⟨rfl, HB5.out⟩
end Go.Proofs.YtlpmofmhcnclhaaDoor
