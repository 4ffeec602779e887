/-
  The walk of the law UnifyMakes (over stand-ins).
-/
import Derived.Test.YtlpmofmhcnclhaaUniW
import Derived.Test.YtlpmofmhcnclhaaUniE
namespace Go.Proofs.Ytlpmofmhcnclhaa
open Go.RowKit

set_option maxRecDepth 100000 in
set_option maxHeartbeats 8000000 in
theorem walk_UnifyMakes (bs : List (Int × Tm)) (ab : Option Addr) (cb : Nat) (x y : Tm) (ax : Option Addr) (cx : Nat) (ay : Option Addr) (cy : Nat) (w : World) (hl : bs.length ≤ cb) (hc : cb ≤ maxLen) (hb : BdsAt w (fun b => b < w.heap.size) ab bs) (hx : TmIn w x ax cx) (hy : TmIn w y ay cy) :
    Calls Try.prog 3 #[.slice ab bs.length cb, tmv x ax cx, tmv y ay cy] w fun e w' => e = .returned (.bool true) ∧ Below w.heap.size w w' := by
  have HL := Lib.hid (fun W => uni_live W)
  have HB0 := Lib.hid (fun o1 o2 : Obj => ((Below.refl w.heap.size w).alloc (Nat.le_refl _) o1).alloc (by simp) o2)
  have HXN := Lib.hid (fun W (h : Below w.heap.size w W) => hx.on h)
  have HYN := Lib.hid (fun W (h : Below w.heap.size w W) => hy.on h)
  have HBD := Lib.hid (fun W (h : Below w.heap.size w W) => hb.kept (w' := W) (Q := fun b => b < W.heap.size) (fun b _ hl => h.block b hl) fun b hb _ => Nat.lt_of_lt_of_le hb h.size)
  have HBG := Lib.hid (fun W (g : Nat) (h : Below w.heap.size w W) (ht : TArgs W (some ⟨g, 0, none⟩) [x, y]) => (show Calls Try.prog 6 #[.slice ab bs.length cb, .slice (some ⟨g, 0, none⟩) 2 2] W _ from law_big10 bs ab cb [x, y] (some ⟨g, 0, none⟩) 2 W (HBD.out W h) (Nat.le_refl 2) (by decide) ht))
  have HNO := Lib.hid (fun (h : bigB bs [x, y] = false) => bigB_no h)
  have HU1 := Lib.hid (fun W (ma : Option Addr) (mc : Nat) (xa : Option Addr) (xc : Nat) (ya : Option Addr) (yc : Nat) (hml : bs.length ≤ mc) (hmc : mc ≤ maxLen) (hle : bs.length ≤ 100000) (hz : ∀ b ∈ bs, b.2.size ≤ 300) (hxs : x.size ≤ 3000) (hys : y.size ≤ 3000) (hm : BdsAt W (fun b => b < W.heap.size) ma bs) (hxx : TmIn W x xa xc) (hyy : TmIn W y ya yc) => ub_Unify bs ma mc x y xa xc ya yc W hle hml hmc (fun b hb => Nat.le_trans (hz b hb) (by decide)) (Nat.le_trans hxs (by decide)) (Nat.le_trans hys (by decide)) hm hxx hyy)
  have HRU := Lib.hid (fun W (hle : bs.length ≤ 100000) (h : Below w.heap.size w W) => r10_Unify bs ab cb x y ax cx ay cy W hle hl hc (HBD.out W h) (hx.on h) (hy.on h))
  have HGT := Lib.hid (uni_get bs x y)
  have HBO := Lib.hid (fun W (h : Below w.heap.size w W) => hb.kept (w' := W) (Q := fun b => b < w.heap.size) (fun b _ hl => h.block b hl) fun b hb _ => hb)
  have HSB := Lib.hid (fun W (a1 : Option Addr) (k1 : Nat) (hle : bs.length ≤ 100000) (hz : ∀ b ∈ bs, b.2.size ≤ 300) (h : Below w.heap.size w W) (h1 : BdsAt W (fun b => b < W.heap.size) a1 bs) => r10_SameBinds bs a1 k1 ab cb W (fun b => b < W.heap.size) (fun b => b < W.heap.size) (by omega) (fun b hb => Nat.le_trans (hz b hb) (by decide)) h1 (HBD.out W h))
  have HCX := Lib.hid (fun W (hs : x.size ≤ 3000) (h : Below w.heap.size w W) => law_Copy10 x ax cx W (by omega) (HXN.out W h))
  have HCY := Lib.hid (fun W (hs : y.size ≤ 3000) (h : Below w.heap.size w W) => law_Copy10 y ay cy W (by omega) (HYN.out W h))
  clear hb hx hy
  generalize bigB bs [x, y] = bg at *
  generalize (uni bs 0 [(x, y)]).1.getD [] = L at *
  generalize (uni bs 0 [(x, y)]).1.isSome = is1 at *
  generalize (uni bs 0 [(x, y)]).2.1 = er at *
  unfold tmv MadeTerm at *
  go_enter Try.func3, Try.ntmps3
  go_wp2_with fail
  have qx := (Below.heap_alloc (w.alloc (.cells #[.int .i64 x.kind, .string x.name, .int .i64 x.n, .slice ax x.args.length cx] 25)) (.cells #[.int .i64 y.kind, .string y.name, .int .i64 y.n, .slice ay y.args.length cy] 25) w.heap.size (by simp)).trans (alloc_new w (.cells #[.int .i64 x.kind, .string x.name, .int .i64 x.n, .slice ax x.args.length cx] 25))
  have qy := alloc_new2 w (.cells #[.int .i64 x.kind, .string x.name, .int .i64 x.n, .slice ax x.args.length cx] 25) (.cells #[.int .i64 y.kind, .string y.name, .int .i64 y.n, .slice ay y.args.length cy] 25)
  refine (HL.out _).mono ?_; rintro e w1 ⟨rfl, hb⟩
  have HB1 := Lib.hid ((HB0.out _ _).trans (hb.mono (by simp <;> omega)))
  have HX1 := Lib.hid (keptR9 hb qx)
  have HY1 := Lib.hid (keptR9 hb qy)
  clear hb qx qy HB0 HL
  obtain ⟨c0, c1, c2, c3, _⟩ := cellsT HX1.out
  obtain ⟨d0, d1, d2, d3, _⟩ := cellsT HY1.out
  go_wp2_with fail
  generalize hw : w1.alloc (.cells #[.int .i64 x.kind, .string x.name, .int .i64 x.n, .slice ax x.args.length cx, .int .i64 y.kind, .string y.name, .int .i64 y.n, .slice ay y.args.length cy] 25) = w1a
  have HR1 : Hid (TArgs w1a (some ⟨w1.heap.size, 0, none⟩) [x, y]) := Lib.hid (by rw [← hw]; exact rowS2 (HXN.out _ HB1.out) (HYN.out _ HB1.out) _ rfl)
  have hb1a : Below w1.heap.size w1 w1a := by rw [← hw]; exact (Below.refl _ _).alloc (Nat.le_refl _) _
  have HB1a := Lib.hid (HB1.out.trans (hb1a.mono HB1.out.size))
  have HX1a := Lib.hid (keptR9 hb1a HX1.out)
  have HY1a := Lib.hid (keptR9 hb1a HY1.out)
  clear hw hb1a c0 c1 c2 c3 d0 d1 d2 d3 HX1 HY1 HB1
  refine (HBG.out _ _ HB1a.out HR1.out).mono ?_; rintro e w2 ⟨rfl, hb2⟩
  have HB2 := Lib.hid (HB1a.out.trans (hb2.mono HB1a.out.size))
  have HX2 := Lib.hid (keptR9 hb2 HX1a.out)
  have HY2 := Lib.hid (keptR9 hb2 HY1a.out)
  clear hb2 HX1a HY1a HR1 HB1a HBG
  cases bg with
  | true =>
    go_wp2_with fail
    go_ret
    exact ⟨rfl, HB2.out⟩
  | false =>
    obtain ⟨hn1, hn2, hn3⟩ := HNO.out rfl
    have hle : bs.length ≤ 100000 := by omega
    have HXS : Hid (x.size ≤ 3000) := Lib.hid (hn3 x (by simp))
    have HYS : Hid (y.size ≤ 3000) := Lib.hid (hn3 y (by simp))
    have HZ2 := Lib.hid hn2
    have HLE := Lib.hid hn1
    clear hn1 hn2 hn3 HNO
    obtain ⟨news, hnr, hnc, hno⟩ := brow_of (HBO.out _ HB2.out) bs.length (Nat.le_refl _)
    rw [List.take_length] at hnr
    have hnl := hnr.1
    have hno' := hno
    have hw2 := HB2.out.size
    obtain ⟨c0, c1, c2, c3, _⟩ := cellsT HX2.out
    obtain ⟨d0, d1, d2, d3, _⟩ := cellsT HY2.out
    go_upto_region 5 with (refine wpList_step fun K1 hK1 => ?_; refine step_app_nilb (by rfl) (.tmp 24) (by rfl) w2.heap.size (by rfl) hnl hnc hno (by omega) (Nat.le_refl _) ?_; intro v3 w3 hown3 hb3; refine hK1 _ _ ?_)
    have HB3 := Lib.hid (HB2.out.trans (hb3.mono HB2.out.size))
    have HX3 := Lib.hid (keptR9 hb3 HX2.out)
    have HY3 := Lib.hid (keptR9 hb3 HY2.out)
    have hw3 := HB3.out.size
    have hw23 := hb3.size
    have HM3 : Hid (OwnBds (fun b => b < w2.heap.size) w2.heap.size w3 v3 bs) := Lib.hid ⟨news, hown3, hnr.kept (fun b _ hl => hb3.block b hl) fun b hb hl => ⟨hl, fun e => by have := hown3.lt b e.symm; omega⟩⟩
    obtain ⟨ma, mc, rfl, hml, hmc, hma⟩ := HM3.out.at
    have HMA : Hid (∀ W, Below w3.heap.size w3 W → BdsAt W (fun b => b < W.heap.size) ma bs) := Lib.hid (fun W h => hma.kept (fun b _ hl => h.block b hl) fun b hb _ => Nat.lt_of_lt_of_le hb h.size)
    have HMO : Hid (∀ W, (∀ b, b < w3.heap.size → W.heap[b]? = w3.heap[b]?) → w3.heap.size ≤ W.heap.size → BdsAt W (fun b => b < W.heap.size) ma bs) := Lib.hid (fun W h hs => hma.kept (fun b _ hl => h b hl) fun b hb _ => Nat.lt_of_lt_of_le hb hs)
    have HKEEP : Hid (∀ W, Below w3.heap.size w3 W → W.cell? ⟨w.heap.size, 0, none⟩ = some (.int .i64 x.kind) ∧ W.cell? ⟨w.heap.size, 1, none⟩ = some (.string x.name) ∧ W.cell? ⟨w.heap.size, 2, none⟩ = some (.int .i64 x.n) ∧ W.cell? ⟨w.heap.size, 3, none⟩ = some (.slice ax x.args.length cx) ∧ W.cell? ⟨w.heap.size + 1, 0, none⟩ = some (.int .i64 y.kind) ∧ W.cell? ⟨w.heap.size + 1, 1, none⟩ = some (.string y.name) ∧ W.cell? ⟨w.heap.size + 1, 2, none⟩ = some (.int .i64 y.n) ∧ W.cell? ⟨w.heap.size + 1, 3, none⟩ = some (.slice ay y.args.length cy)) := Lib.hid (fun W h => by
      obtain ⟨c0, c1, c2, c3, _⟩ := cellsT (keptR9 h HX3.out)
      obtain ⟨d0, d1, d2, d3, _⟩ := cellsT (keptR9 h HY3.out)
      exact ⟨c0, c1, c2, c3, d0, d1, d2, d3⟩)
    have HU2 := Lib.hid (fun W xa xc ya yc h1 h2 => HU1.out W ma mc xa xc ya yc hml hmc hle HZ2.out HXS.out HYS.out h1 h2)
    have bD : Below w3.heap.size w3 w3.drew := (Below.refl _ w3).drew
    have HMC := Lib.hid (And.intro hml hmc)
    clear hnr hnc hno hno' hown3 hb3 hma c0 c1 c2 c3 d0 d1 d2 d3 HX2 HY2 HB2 HBO HM3 HU1 hml hmc
    go_region_held3 (fun W => W.cell? ⟨w.heap.size, 0, none⟩ = some (.int .i64 x.kind) ∧ W.cell? ⟨w.heap.size, 1, none⟩ = some (.string x.name) ∧ W.cell? ⟨w.heap.size, 2, none⟩ = some (.int .i64 x.n) ∧ W.cell? ⟨w.heap.size, 3, none⟩ = some (.slice ax x.args.length cx) ∧ W.cell? ⟨w.heap.size + 1, 0, none⟩ = some (.int .i64 y.kind) ∧ W.cell? ⟨w.heap.size + 1, 1, none⟩ = some (.string y.name) ∧ W.cell? ⟨w.heap.size + 1, 2, none⟩ = some (.int .i64 y.n) ∧ W.cell? ⟨w.heap.size + 1, 3, none⟩ = some (.slice ay y.args.length cy))
      (first | with_reducible exact HKEEP.out _ b6 | with_reducible exact HKEEP.out _ b5 | with_reducible exact HKEEP.out _ b4 | with_reducible exact HKEEP.out _ bD)
      (first
        | (go_at_call 7; (with_reducible refine (HU2.out _ _ _ _ _ (HMA.out _ b5) HX5.out HY5.out).mono ?_); rintro e w6 ⟨v6, rfl, ho6, hb6⟩; have b6 := b5.trans (hb6.mono b5.size); have HO6 := Lib.hid ho6; have hw56 := b5.size; clear ho6 hb6)
        | (go_at_call 8; (with_reducible refine (HCY.out _ HYS.out (HB3.out.trans (b4.mono HB3.out.size))).mono ?_); rintro e w5 ⟨ya, yc, rfl, hty, hb5⟩; have b5 := b4.trans (hb5.mono b4.size); have HX5 := Lib.hid (HX4.out.on hb5); have HY5 := Lib.hid hty.toIn; clear hty hb5; unfold tmv)
        | (go_at_call 8; (with_reducible refine (HCX.out _ HXS.out (HB3.out.trans (bD.mono HB3.out.size))).mono ?_); rintro e w4 ⟨xa, xc, rfl, htx, hb4⟩; have b4 := bD.trans (hb4.mono bD.size); have HX4 := Lib.hid htx.toIn; clear htx hb4; unfold tmv))
    all_goals
      obtain ⟨la, lc, rfl, hll, hlc, hla⟩ := HO6.out.at
      have HLA := Lib.hid hla
      have HB6 := Lib.hid (HB3.out.trans (b6.mono HB3.out.size))
      have HX6 := Lib.hid (keptR9 b6 HX3.out)
      have HY6 := Lib.hid (keptR9 b6 HY3.out)
      have B6 := Lib.hid b6
      have hSM := fun W ra rc (h1 : BdsAt W (fun b => b < W.heap.size) la L) (h2 : BdsAt W (fun b => b < W.heap.size) ra L) => r10_SameBinds L la lc ra rc W (fun b => b < W.heap.size) (fun b => b < W.heap.size) (HGT.out hle HZ2.out HXS.out HYS.out).1 (HGT.out hle HZ2.out HXS.out HYS.out).2 h1 h2
      have HSM := Lib.hid hSM
      unfold maxLen at hlc
      clear hla hSM HCX HCY HU2 HKEEP HMA HX3 HY3 HB3 b6 bD b4 b5 HX4 HX5 HY5 HGT
      obtain ⟨c0, c1, c2, c3, _⟩ := cellsT HX6.out
      obtain ⟨d0, d1, d2, d3, _⟩ := cellsT HY6.out
      go_wp2_with fail
      refine (HRU.out _ hle HB6.out).mono ?_; rintro e w7 ⟨ra, rc, rfl, _, _, hra, hb7⟩
      have HB7 := Lib.hid (HB6.out.trans (hb7.mono HB6.out.size))
      have B7 := Lib.hid (B6.out.trans (hb7.mono B6.out.size))
      have HO7 := Lib.hid (HO6.out.below hb7)
      have HS7 := Lib.hid (HSM.out w7 ra rc (HLA.out.kept (fun b _ hl => hb7.block b hl) fun b hb _ => Nat.lt_of_lt_of_le hb hb7.size) hra)
      clear hra hb7 c0 c1 c2 c3 d0 d1 d2 d3 HX6 HY6 HB6 B6 HO6 HLA HSM HRU
      go_wp2_with fail
      refine HS7.out.mono ?_; rintro e w8 ⟨rfl, hb8⟩
      have HB8 := Lib.hid (HB7.out.trans (hb8.mono HB7.out.size))
      have B8 := Lib.hid (B7.out.trans (hb8.mono B7.out.size))
      obtain ⟨g, la', lc', e, hgo, hrb⟩ := own_rb HO7.out hb8
      injection e with e1 _ e3
      subst e1 e3
      have HGO := Lib.hid hgo
      have HRB := Lib.hid hrb
      clear hgo hrb hb8 HB7 B7 HO7 HS7
      go_wp2_with fail
      go_loopw [59] (fun iv wr => ∃ k : Nat, k ≤ L.length ∧ iv = .int .i64 k ∧ Hid (RbI w8 g L.length wr)) (fun iv _ => L.length - (intOf iv).toNat)
      case atStart => exact ⟨0, Nat.zero_le _, rfl, HRB⟩
      case round =>
        obtain ⟨k, hk, rfl, HR⟩ := hrel
        by_cases hlt : k < L.length
        · obtain ⟨rfl, hg1, hg2⟩ := HGO.out (by omega)
          obtain ⟨r3, r4⟩ := HR.out.row (by omega)
          obtain ⟨u0, y0⟩ := r3 (k * 5) (by omega)
          have z0 := r4 (k * 5)
          have HN := Lib.hid (fun a0 => HR.out.set (by omega) (k * 5) a0)
          have hk0 : (0 : Int) ≤ (k : Int) := by omega
          have hk1 : (k : Int) < (L.length : Int) := by omega
          clear r3 r4
          go_wp2_with fail
          go_roundw
          case rel => exact ⟨k + 1, by omega, by go_num, Lib.hid (HN.out _)⟩
          case measure => simp [intOf]; omega
        · have hk1 : ¬ (k : Int) < (L.length : Int) := by omega
          obtain ⟨wD, rfl⟩ : ∃ x, x = wr := ⟨_, rfl⟩
          have hg8 : 0 < L.length → w3.heap.size ≤ g := fun h => Nat.le_trans hw56 (HGO.out h).2.1
          have HBW := Lib.hid (HB8.out.trans (HR.out.turn.below (fun j hj => by have := hg8 hj.1; omega) HB8.out.size))
          have hmw := HMO.out wD (fun b hl => (HR.out.turn.block b (Nat.lt_of_lt_of_le hl B8.out.size) (fun hj => by have := hg8 hj.1; omega)).trans (B8.out.block b hl)) (Nat.le_trans B8.out.size HR.out.turn.size)
          have HS9 := Lib.hid (HSB.out wD ma mc hle HZ2.out HBW.out hmw)
          clear hmw HR hg8 HGO HRB HB8 B8 HMO
          go_wp2_with fail
          refine HS9.out.mono ?_; rintro e w9 ⟨rfl, hb9⟩
          have HB9 := Lib.hid (HBW.out.trans (hb9.mono HBW.out.size))
          clear hb9
          go_wp2_with fail
          go_ret
          exact ⟨rfl, HB9.out⟩
end Go.Proofs.Ytlpmofmhcnclhaa
