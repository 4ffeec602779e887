/-
  The walk of the law UnifyShifts (over stand-ins).
-/
import Derived.Test.YtlpmofmhcnclhaaDoorUniZ
namespace Go.Proofs.YtlpmofmhcnclhaaDoor
open Go.RowKit

set_option maxRecDepth 100000 in
set_option maxHeartbeats 8000000 in
theorem walk_UnifyShifts (bs : List (Int × Tm)) (ab : Option Addr) (cb : Nat) (x y : Tm) (ax : Option Addr) (cx : Nat) (ay : Option Addr) (cy : Nat) (w : World) (hl : bs.length ≤ cb) (hc : cb ≤ maxLen) (hb : BdsAt w (fun b => b < w.heap.size) ab bs) (by' : Int) (hx : TmIn w x ax cx) (hy : TmIn w y ay cy) (_hby : In64 by') (hT : Tabs w) :
    Calls Tryd.prog 6 #[.slice ab bs.length cb, tmv x ax cx, tmv y ay cy, .int .i64 by'] w fun e w' => e = .returned (.bool true) ∧ Below w.heap.size w w' := by
  have HL := Lib.hid (fun W => uni_live W)
  have HB0 := Lib.hid (fun o1 o2 : Obj => ((Below.refl w.heap.size w).alloc (Nat.le_refl _) o1).alloc (by simp) o2)
  have HXN := Lib.hid (fun W (h : Below w.heap.size w W) => hx.on h)
  have HYN := Lib.hid (fun W (h : Below w.heap.size w W) => hy.on h)
  have HBD := Lib.hid (fun W (h : Below w.heap.size w W) => hb.kept (w' := W) (Q := fun b => b < W.heap.size) (fun b _ hl => h.block b hl) fun b hb _ => Nat.lt_of_lt_of_le hb h.size)
  have HBG := Lib.hid (fun W (g : Nat) (h : Below w.heap.size w W) (ht : TArgs W (some ⟨g, 0, none⟩) [x, y]) => (show Calls Tryd.prog 9 #[.slice ab bs.length cb, .slice (some ⟨g, 0, none⟩) 2 2] W _ from law_big10 bs ab cb [x, y] (some ⟨g, 0, none⟩) 2 W (HBD.out W h) (Nat.le_refl 2) (by decide) ht))
  have HNO := Lib.hid (fun (h : bigB bs [x, y] = false) => bigB_no h)
  have HBO := Lib.hid (fun W (h : Below w.heap.size w W) => hb.kept (w' := W) (Q := fun b => b < w.heap.size) (fun b _ hl => h.block b hl) fun b hb _ => hb)
  have HTB := Lib.hid hT
  have HN64 := Lib.hid (And.intro ((Tm.n64_eq x).2 ⟨hx.n, hx.args.n64⟩) ((Tm.n64_eq y).2 ⟨hy.n, hy.args.n64⟩))
  have HB64 := Lib.hid hb.n64
  obtain ⟨i0, hi, hz0, hz1, hz2⟩ := info_partsB infoBd
  have hbl := byL_in by'
  have HBY : Hid (byL by' = min (max by' 0) 1000000) := Lib.hid rfl
  clear hb hx hy hT
  generalize bigB bs [x, y] = bg at *
  unfold tmv at *
  go_enter Tryd.func6, Tryd.ntmps6
  go_wp2_with fail
  have qx := (Below.heap_alloc (w.alloc (.cells #[.int .i64 x.kind, .string x.name, .int .i64 x.n, .slice ax x.args.length cx] 25)) (.cells #[.int .i64 y.kind, .string y.name, .int .i64 y.n, .slice ay y.args.length cy] 25) w.heap.size (by simp)).trans (alloc_new w (.cells #[.int .i64 x.kind, .string x.name, .int .i64 x.n, .slice ax x.args.length cx] 25))
  have qy := alloc_new2 w (.cells #[.int .i64 x.kind, .string x.name, .int .i64 x.n, .slice ax x.args.length cx] 25) (.cells #[.int .i64 y.kind, .string y.name, .int .i64 y.n, .slice ay y.args.length cy] 25)
  refine (HL.out _).mono ?_; rintro e w1 ⟨rfl, hb⟩
  have HB1 := Lib.hid ((HB0.out _ _).trans (hb.mono (by simp <;> omega)))
  have HX1 := Lib.hid (keptR9 hb qx)
  have HY1 := Lib.hid (keptR9 hb qy)
  clear hb qx qy HB0 HL
  obtain ⟨c0, c1, c2, c3, _⟩ := cellsT HX1.out
  obtain ⟨d0, d1, d2, d3, _⟩ := cellsT HY1.out
  go_wp2_with fail
  generalize hw : w1.alloc (.cells #[.int .i64 x.kind, .string x.name, .int .i64 x.n, .slice ax x.args.length cx, .int .i64 y.kind, .string y.name, .int .i64 y.n, .slice ay y.args.length cy] 25) = w1a
  have HR1 : Hid (TArgs w1a (some ⟨w1.heap.size, 0, none⟩) [x, y]) := Lib.hid (by rw [← hw]; exact rowS2 (HXN.out _ HB1.out) (HYN.out _ HB1.out) _ rfl)
  have hb1a : Below w1.heap.size w1 w1a := by rw [← hw]; exact (Below.refl _ _).alloc (Nat.le_refl _) _
  have HB1a := Lib.hid (HB1.out.trans (hb1a.mono HB1.out.size))
  have HX1a := Lib.hid (keptR9 hb1a HX1.out)
  have HY1a := Lib.hid (keptR9 hb1a HY1.out)
  clear hw hb1a c0 c1 c2 c3 d0 d1 d2 d3 HX1 HY1 HB1
  refine (HBG.out _ _ HB1a.out HR1.out).mono ?_; rintro e w2 ⟨rfl, hb2⟩
  have HB2 := Lib.hid (HB1a.out.trans (hb2.mono HB1a.out.size))
  have HX2 := Lib.hid (keptR9 hb2 HX1a.out)
  have HY2 := Lib.hid (keptR9 hb2 HY1a.out)
  clear hb2 HX1a HY1a HR1 HB1a HBG
  cases bg with
  | true =>
    go_wp2_with fail
    go_ret
    exact ⟨rfl, HB2.out⟩
  | false =>
    obtain ⟨hn1, hn2, hn3⟩ := HNO.out rfl
    have hle : bs.length ≤ 100000 := by omega
    have HXS : Hid (x.size ≤ 3000) := Lib.hid (hn3 x (by simp))
    have HYS : Hid (y.size ≤ 3000) := Lib.hid (hn3 y (by simp))
    have HZ2 := Lib.hid hn2
    have HLE := Lib.hid hn1
    clear hn1 hn2 hn3 HNO
    obtain ⟨c0, c1, c2, c3, _⟩ := cellsT HX2.out
    obtain ⟨d0, d1, d2, d3, _⟩ := cellsT HY2.out
    go_wp2_with fail
    obtain ⟨c, hcv⟩ : ∃ c, min (max by' 0) 1000000 = c := ⟨_, rfl⟩
    rw [← HBY.out] at hcv
    rw [hcv] at hbl
    rw [HBY.out] at hcv
    rw [hcv]
    obtain ⟨hc0, hc1⟩ := hbl
    have hc64 : In64 c := ⟨by omega, by omega⟩
    clear hcv HBY c0 c1 c2 c3 d0 d1 d2 d3
    have hw2s := HB2.out.size
    go_loopw [10, 40] (fun lv iv wr => ∃ k : Nat, k ≤ bs.length ∧ iv = .int .i64 k ∧ Below w2.heap.size w2 wr ∧ OwnBds (fun b => w2.heap.size ≤ b) w2.heap.size wr lv (shiftB c (bs.take k)) ∧ Hid (∀ j (hj : j < bs.length), j < k → -1000000 ≤ bs[j].1 ∧ bs[j].1 ≤ 1000000)) (fun _ iv _ => bs.length - (intOf iv).toNat)
    case atStart => exact ⟨0, Nat.zero_le _, rfl, Below.refl _ _, OwnBds.nil _ _ _, Lib.hid fun j _ h => by cases h⟩
    case round =>
      obtain ⟨k, hk, rfl, hbw, hown, HRG⟩ := hrel
      have hwrs := hbw.size
      have HBW := Lib.hid (HB2.out.trans (hbw.mono HB2.out.size))
      by_cases hlt : k < bs.length
      · obtain ⟨b, o, a1, d1, rfl, hPb, hi64, hp, x0, x1, x2, x3, x4⟩ := HBO.out wr HBW.out k hlt
        have HST := Lib.hid (shiftB_step c bs k hlt)
        have hal := shiftB_take_len c bs k hk
        have hxs := HZ2.out bs[k] (List.getElem_mem hlt)
        have HP := Lib.hid hp
        have HOWN := Lib.hid hown
        have HNX : Hid (-1000000 ≤ bs[k].1 → bs[k].1 ≤ 1000000 → ∀ j (hj : j < bs.length), j < k + 1 → -1000000 ≤ bs[j].1 ∧ bs[j].1 ≤ 1000000) := Lib.hid (fun h1 h2 j hj hjk => by
          by_cases e : j < k
          · exact HRG.out j hj e
          · obtain rfl : j = k := by omega
            exact ⟨h1, h2⟩)
        have hk0 : (0 : Int) ≤ (k : Int) := by omega
        have hk1 : (k : Int) < (bs.length : Int) := by omega
        have HLTW := Lib.hid HOWN.out.lt
        clear hp hown HRG
        generalize shiftB c (bs.take k) = cs at *
        generalize bs[k] = X at *
        obtain ⟨xv, z⟩ := X
        dsimp only at *
        go_upto_region 9 with fail
        have hb5 : Below wr.heap.size wr (wr.alloc (.cells #[.int .i64 xv, .int .i64 z.kind, .string z.name, .int .i64 z.n, .slice a1 z.args.length d1] 39)) := (Below.refl _ _).alloc (Nat.le_refl _) _
        have hq5 := alloc_new wr (.cells #[.int .i64 xv, .int .i64 z.kind, .string z.name, .int .i64 z.n, .slice a1 z.args.length d1] 39)
        generalize wr.alloc (.cells #[.int .i64 xv, .int .i64 z.kind, .string z.name, .int .i64 z.n, .slice a1 z.args.length d1] 39) = w5 at *
        have HB5 := Lib.hid (HBW.out.trans (hb5.mono HBW.out.size))
        have HB45 := Lib.hid (hbw.trans (hb5.mono hwrs))
        have HX5 := Lib.hid hq5
        have HO5 := Lib.hid (HOWN.out.below hb5)
        have HP5 := Lib.hid ((HP.out.onS hb5).toIn)
        clear hb5 hq5 x0 x1 x2 x3 x4 hbw HBW HP
        obtain ⟨x0, x1, x2, x3, x4⟩ := cells5S HX5.out
        by_cases hg1 : 1000000 < xv
        · have hd : decide (1000000 < xv) = true := decide_eq_true hg1
          go_wp2_with fail
          go_ret
          exact ⟨rfl, HB5.out⟩
        have hd1 : decide (1000000 < xv) = false := decide_eq_false hg1
        by_cases hg2 : xv < -1000000
        · have hd : decide (xv < -1000000) = true := decide_eq_true hg2
          go_wp2_with fail
          go_ret
          exact ⟨rfl, HB5.out⟩
        have hd2 : decide (xv < -1000000) = false := decide_eq_false hg2
        have HN := Lib.hid (HNX.out (by omega) (by omega))
        have hwr : IntKind.i64.wrap (xv + c) = xv + c := IntWalk.i64_in _ ⟨by omega, by omega⟩
        have HFR := Lib.hid (fun W (h : Below w5.heap.size w5 W) => ref_Shift c z.size z a1 d1 W (Nat.le_refl _) (by omega) (HP5.out.on h))
        unfold MadeTerm tmv at HFR
        go_upto_region 11 with fail
        have HK : Hid (∀ W, Below w5.heap.size w5 W → W.cell? ⟨wr.heap.size, 0, none⟩ = some (.int .i64 xv) ∧ W.cell? ⟨wr.heap.size, 1, none⟩ = some (.int .i64 z.kind) ∧ W.cell? ⟨wr.heap.size, 2, none⟩ = some (.string z.name) ∧ W.cell? ⟨wr.heap.size, 3, none⟩ = some (.int .i64 z.n) ∧ W.cell? ⟨wr.heap.size, 4, none⟩ = some (.slice a1 z.args.length d1)) := Lib.hid (fun W h => cells5S (keptR9 h HX5.out))
        have bD : Below w5.heap.size w5 w5.drew := (Below.refl _ w5).drew
        have hs45 := HB45.out.size
        have hz5 := hs45
        clear x0 x1 x2 x3 x4
        go_region_held3 (fun W => W.cell? ⟨wr.heap.size, 0, none⟩ = some (.int .i64 xv) ∧ W.cell? ⟨wr.heap.size, 1, none⟩ = some (.int .i64 z.kind) ∧ W.cell? ⟨wr.heap.size, 2, none⟩ = some (.string z.name) ∧ W.cell? ⟨wr.heap.size, 3, none⟩ = some (.int .i64 z.n) ∧ W.cell? ⟨wr.heap.size, 4, none⟩ = some (.slice a1 z.args.length d1))
          (first | with_reducible exact HK.out _ bD | with_reducible exact cells5S hq9 | with_reducible exact HK.out _ b6 | with_reducible exact HK.out _ (b6.alloc b6.size _))
          (first
            | (go_at_call 17; (with_reducible refine (HFR.out _ bD).mono ?_); rintro e w6 ⟨fa, fc, rfl, hp6, hb6⟩; have b6 := bD.trans (hb6.mono bD.size); have HPF := Lib.hid hp6; obtain ⟨xs, hox, hrow⟩ := HO5.out.below b6; have HLT := HLTW; have HOX := Lib.hid hox; have HROW := Lib.hid hrow; have hs6 := b6.size; clear hp6 hox hrow)
            | (refine step_app_binds (by rfl) (.tmp 53) (.tmp 63) (by rfl) (by rfl) (HOX.out.alloc _) (by rfl) rfl (cells5P (b := (xv + c, z.shift c))) one5P (by decide) (by omega) (show w2.heap.size ≤ (w6.alloc _).heap.size by rw [World.size_alloc]; omega) ?_; intro g9 cap9 w9 hown9 hgrow hat hlt9; obtain ⟨ho9, hb9, hq9⟩ := app_shift HX5.out HB45.out b6 HLT.out HROW.out (y := (xv + c, z.shift c)) ⟨by show _ ≤ xv + c; omega, by show xv + c ≤ _; omega⟩ HPF.out hown9 hgrow (hat.elim (fun e => .inl e.symm) fun e => .inr (by rw [e]; rfl)); have HO9 := Lib.hid ho9; have HB9 := Lib.hid hb9; clear ho9 hb9 hown9 hgrow hat hlt9))
        rw [← HST.out, hal] at HO9
        go_wp2_with fail
        go_roundw
        case rel => exact ⟨k + 1, by omega, by go_num, HB9.out, HO9.out, HN⟩
        case measure => simp [intOf]; omega
      · obtain rfl : k = bs.length := by omega
        have hkeys := fun j (hj : j < bs.length) => HRG.out j hj hj
        rw [List.take_length] at hown
        have hown9 := hown
        obtain ⟨ca, cc, rfl, hcl, hcc, hca⟩ := hown.at
        rw [shiftB_len] at *
        obtain ⟨wD, rfl⟩ : ∃ z, z = wr := ⟨_, rfl⟩
        have HKY := Lib.hid hkeys
        have HCA := Lib.hid hca
        have HCL := Lib.hid (And.intro hcl hcc)
        have HXD := Lib.hid (keptR9 hbw HX2.out)
        have HYD := Lib.hid (keptR9 hbw HY2.out)
        have HBD9 := Lib.hid HBW.out
        clear hown hown9 hca hkeys hcl hcc hbw HRG HBW HX2 HY2 hi hz0 hz1 hz2
        obtain ⟨c0, c1, c2, c3, _⟩ := cellsT HXD.out
        obtain ⟨d0, d1, d2, d3, _⟩ := cellsT HYD.out
        go_wp2_with fail
        generalize hw : wD.alloc (.cells #[.int .i64 x.kind, .string x.name, .int .i64 x.n, .slice ax x.args.length cx, .int .i64 y.kind, .string y.name, .int .i64 y.n, .slice ay y.args.length cy] 25) = wE
        have HTA : Hid (TArgs wE (some ⟨wD.heap.size, 0, none⟩) [x, y]) := Lib.hid (by rw [← hw]; exact rowS2 (HXN.out _ HBD9.out) (HYN.out _ HBD9.out) _ rfl)
        have hbE : Below wD.heap.size wD wE := by rw [← hw]; exact (Below.refl _ _).alloc (Nat.le_refl _) _
        have HBE := Lib.hid (HBD9.out.trans (hbE.mono HBD9.out.size))
        have HXE := Lib.hid (keptR9 hbE HXD.out)
        have HYE := Lib.hid (keptR9 hbE HYD.out)
        have HCE : Hid (BdsAt wE (fun b => b < wE.heap.size) ca (shiftB c bs)) := Lib.hid (HCA.out.kept (fun b _ hl => hbE.block b hl) fun b hb _ => Nat.lt_of_lt_of_le hb hbE.size)
        have HTZ : Hid (∀ t ∈ [x, y], t.size ≤ 3000) := Lib.hid (fun t ht => by
          rcases List.mem_cons.1 ht with rfl | ht
          · exact HXS.out
          · rw [List.mem_singleton.1 ht]; exact HYS.out)
        clear hw hbE c0 c1 c2 c3 d0 d1 d2 d3 HXD HYD HBD9 HCA
        go_loopw [70] (fun iv wr => ∃ k : Nat, k ≤ 2 ∧ iv = .int .i64 k ∧ Below wE.heap.size wE wr ∧ Hid (∀ j (hj : j < [x, y].length), j < k → [x, y][j].chk = 0 ∧ ∀ v ∈ [x, y][j].vars, v ≤ 1000000)) (fun iv _ => 2 - (intOf iv).toNat)
        case atStart => exact ⟨0, Nat.zero_le _, rfl, Below.refl _ _, Lib.hid fun j _ h => by cases h⟩
        case round =>
          obtain ⟨k, hk, rfl, hbw, HRV⟩ := hrel
          by_cases hlt : k < 2
          · obtain ⟨ad1, cap1, c0, c1, c2, c3, hin1⟩ := (HTA.out.on hbw).get k hlt
            simp only [Nat.zero_add] at c0 c1 c2 c3
            have HNX : Hid ([x, y][k].chk = 0 → (∀ v ∈ [x, y][k].vars, v ≤ 1000000) → ∀ j (hj : j < [x, y].length), j < k + 1 → [x, y][j].chk = 0 ∧ ∀ v ∈ [x, y][j].vars, v ≤ 1000000) := Lib.hid (fun h1 h2 j hj hjk => by
              by_cases e : j < k
              · exact HRV.out j hj e
              · obtain rfl : j = k := by omega
                exact ⟨h1, h2⟩)
            have hz := HTZ.out _ (List.getElem_mem (l := [x, y]) hlt)
            have HBWk := Lib.hid hbw
            have hk0 : (0 : Int) ≤ (k : Int) := by omega
            have hk1 : (k : Int) < 2 := by omega
            clear HRV hbw
            generalize [x, y][k] = z at *
            have hin2 := hin1.on ((Below.refl _ wr).alloc (Nat.le_refl _) (.cells #[.int .i64 z.kind, .string z.name, .int .i64 z.n, .slice ad1 z.args.length cap1] 25))
            have hF := ref_TermCheck z ad1 cap1 (wr.alloc (.cells #[.int .i64 z.kind, .string z.name, .int .i64 z.n, .slice ad1 z.args.length cap1] 25)) (by omega) (HTB.out.on (HBE.out.trans ((HBWk.out.alloc HBWk.out.size _).mono HBE.out.size))) hin2
            have hV := fun W (h : Below (wr.alloc (.cells #[.int .i64 z.kind, .string z.name, .int .i64 z.n, .slice ad1 z.args.length cap1] 25)).heap.size (wr.alloc (.cells #[.int .i64 z.kind, .string z.name, .int .i64 z.n, .slice ad1 z.args.length cap1] 25)) W) => ref_Vars z ad1 cap1 W (by omega) (hin2.on h)
            unfold tmv at hF hV
            have HF := Lib.hid hF
            have HV := Lib.hid hV
            clear hF hV hin1 hin2 hz
            by_cases hx : z.chk = 0
            · have hd : (z.chk != 0) = false := by rw [hx]; rfl
              have HN := Lib.hid (HNX.out hx)
              clear hx HNX
              go_wp2_with fail
              refine HF.out.mono ?_
              rintro e w6 ⟨rfl, hb6⟩
              obtain ⟨g0, g1, g2, g3, _⟩ := cellsT (keptR9 hb6 (alloc_new wr _))
              have HV6 := Lib.hid (HV.out w6 hb6)
              have HB6 := Lib.hid ((HBWk.out.alloc HBWk.out.size _).trans (hb6.mono (Nat.le_trans HBWk.out.size (by simp))))
              clear hb6 c0 c1 c2 c3 HV HF HBWk
              go_wp2_with fail
              refine HV6.out.mono ?_
              rintro e w7 ⟨v, rfl, hv, hb7⟩
              obtain ⟨vad, vcap, rfl, hv1, hv2, hv3⟩ := hv.view
              unfold maxLen at hv2
              have HVW := Lib.hid hv3
              have HB7 := Lib.hid (HB6.out.trans (hb7.mono HB6.out.size))
              clear hv hv3 hb7 g0 g1 g2 g3 HV6 HB6
              generalize z.vars = vs at *
              go_wp2_with fail
              go_loopw [81] (fun iv wr => ∃ j : Nat, j ≤ vs.length ∧ iv = .int .i64 j ∧ Below w7.heap.size w7 wr ∧ Hid (∀ i (hi : i < vs.length), i < j → vs[i] ≤ 1000000)) (fun iv _ => vs.length - (intOf iv).toNat)
              case atStart => exact ⟨0, Nat.zero_le _, rfl, Below.refl _ _, Lib.hid fun j _ h => by cases h⟩
              case round =>
                obtain ⟨j, hj, rfl, hbv, HLE9⟩ := hrel
                by_cases hjl : j < vs.length
                · obtain ⟨g, rfl, hcell⟩ := HVW.out j hjl
                  have hcell := (hbv.cell (p := ⟨g, j, none⟩) (World.block_lt_of_cell? w7 ⟨g, j, none⟩ hcell)).trans hcell
                  have HNL : Hid (vs[j] ≤ 1000000 → ∀ i (hi : i < vs.length), i < j + 1 → vs[i] ≤ 1000000) := Lib.hid (fun h1 i hi hij => by
                    by_cases e : i < j
                    · exact HLE9.out i hi e
                    · obtain rfl : i = j := by omega
                      exact h1)
                  have hj0 : (0 : Int) ≤ (j : Int) := by omega
                  have hj1 : (j : Int) < (vs.length : Int) := by omega
                  have HBV := Lib.hid hbv
                  clear hbv HLE9
                  generalize vs[j] = n at *
                  by_cases hn : 1000000 < n
                  · have hd1 : decide (1000000 < n) = true := decide_eq_true hn
                    clear hn
                    go_wp2_with fail
                    go_ret
                    exact ⟨rfl, HBE.out.trans ((HB7.out.trans (HBV.out.mono HB7.out.size)).mono HBE.out.size)⟩
                  · have hd1 : decide (1000000 < n) = false := decide_eq_false hn
                    have HN9 := Lib.hid (HNL.out (by omega))
                    clear hn HNL
                    go_wp2_with fail
                    go_roundw
                    case rel => exact ⟨j + 1, by omega, by go_num, HBV.out, HN9⟩
                    case measure => simp [intOf]; omega
                · have hj1 : ¬ (j : Int) < (vs.length : Int) := by omega
                  have HNK := Lib.hid (HN.out (fun v hv => by obtain ⟨i, hi, rfl⟩ := List.mem_iff_getElem.1 hv; exact HLE9.out i hi (by omega)))
                  have HBV := Lib.hid (HB7.out.trans (hbv.mono HB7.out.size))
                  clear hbv HLE9
                  go_wp2_with fail
                  go_roundw
                  case rel => exact ⟨k + 1, by omega, by go_num, HBV.out, HNK⟩
                  case measure => simp [intOf]; omega
            · have hd : (z.chk != 0) = true := bne_iff_ne.2 hx
              clear hx HNX
              go_wp2_with fail
              refine HF.out.mono ?_
              rintro e w6 ⟨rfl, hb6⟩
              have HB6 := Lib.hid (HBE.out.trans (((HBWk.out.alloc HBWk.out.size _).trans (hb6.mono (Nat.le_trans HBWk.out.size (by simp)))).mono HBE.out.size))
              clear hb6 c0 c1 c2 c3 HV HF HBWk
              go_wp2_with fail
              go_ret
              exact ⟨rfl, HB6.out⟩
          · have HXC : Hid (x.chk = 0 ∧ ∀ v ∈ x.vars, v ≤ 1000000) := Lib.hid (HRV.out 0 (by simp) (by omega))
            have HYC : Hid (y.chk = 0 ∧ ∀ v ∈ y.vars, v ≤ 1000000) := Lib.hid (HRV.out 1 (by simp) (by omega))
            have hk1 : ¬ (k : Int) < 2 := by omega
            obtain ⟨wF, rfl⟩ : ∃ z, z = wr := ⟨_, rfl⟩
            have HBF := Lib.hid (HBE.out.trans (hbw.mono HBE.out.size))
            have HXF := Lib.hid (keptR9 hbw HXE.out)
            have HYF := Lib.hid (keptR9 hbw HYE.out)
            have HCF : Hid (BdsAt wF (fun b => b < wF.heap.size) ca (shiftB c bs)) := Lib.hid (HCE.out.kept (fun b _ hl => hbw.block b hl) fun b hb _ => Nat.lt_of_lt_of_le hb hbw.size)
            clear hbw HRV HTA HXE HYE HBE HCE HTZ
            go_wp2_with fail
            go_loopw [92] (fun iv wr => ∃ k : Nat, k ≤ bs.length ∧ iv = .int .i64 k ∧ Below wF.heap.size wF wr ∧ Hid (∀ j (hj : j < bs.length), j < k → ∀ v ∈ bs[j].2.vars, 0 ≤ v ∧ v ≤ 1000000)) (fun iv _ => bs.length - (intOf iv).toNat)
            case atStart => exact ⟨0, Nat.zero_le _, rfl, Below.refl _ _, Lib.hid fun j _ h => by cases h⟩
            case round =>
              obtain ⟨k, hk, rfl, hbw, HRV⟩ := hrel
              by_cases hlt : k < bs.length
              · obtain ⟨b, o, a1, d1, rfl, hPb, hi64, hp, x0, x1, x2, x3, x4⟩ := HBO.out wr (HBF.out.trans (hbw.mono HBF.out.size)) k hlt
                have HNX : Hid ((∀ v ∈ bs[k].2.vars, 0 ≤ v ∧ v ≤ 1000000) → ∀ j (hj : j < bs.length), j < k + 1 → ∀ v ∈ bs[j].2.vars, 0 ≤ v ∧ v ≤ 1000000) := Lib.hid (fun h2 j hj hjk => by
                  by_cases e : j < k
                  · exact HRV.out j hj e
                  · obtain rfl : j = k := by omega
                    exact h2)
                have hz := HZ2.out _ (List.getElem_mem hlt)
                have HBWk := Lib.hid hbw
                have hk0 : (0 : Int) ≤ (k : Int) := by omega
                have hk1 : (k : Int) < (bs.length : Int) := by omega
                clear HRV hbw
                generalize bs[k] = X at *
                obtain ⟨xv, z⟩ := X
                dsimp only at *
                have hin2 := hp.toIn.on ((Below.refl _ wr).alloc (Nat.le_refl _) (.cells #[.int .i64 xv, .int .i64 z.kind, .string z.name, .int .i64 z.n, .slice a1 z.args.length d1] 39))
                have hV := ref_Vars z a1 d1 (wr.alloc (.cells #[.int .i64 xv, .int .i64 z.kind, .string z.name, .int .i64 z.n, .slice a1 z.args.length d1] 39)) (by omega) hin2
                unfold tmv at hV
                have HV := Lib.hid hV
                clear hV hp hin2 hz
                go_wp2_with fail
                refine HV.out.mono ?_
                rintro e w7 ⟨v, rfl, hv, hb7⟩
                obtain ⟨vad, vcap, rfl, hv1, hv2, hv3⟩ := hv.view
                unfold maxLen at hv2
                have HVW := Lib.hid hv3
                have HB7 := Lib.hid ((HBWk.out.alloc HBWk.out.size _).trans (hb7.mono (Nat.le_trans HBWk.out.size (by simp))))
                clear hv hv3 hb7 x0 x1 x2 x3 x4 HV HBWk
                generalize z.vars = vs at *
                go_wp2_with fail
                go_loopw [100] (fun iv wr => ∃ j : Nat, j ≤ vs.length ∧ iv = .int .i64 j ∧ Below w7.heap.size w7 wr ∧ Hid (∀ i (hi : i < vs.length), i < j → 0 ≤ vs[i] ∧ vs[i] ≤ 1000000)) (fun iv _ => vs.length - (intOf iv).toNat)
                case atStart => exact ⟨0, Nat.zero_le _, rfl, Below.refl _ _, Lib.hid fun j _ h => by cases h⟩
                case round =>
                  obtain ⟨j, hj, rfl, hbv, HLE9⟩ := hrel
                  by_cases hjl : j < vs.length
                  · obtain ⟨g, rfl, hcell⟩ := HVW.out j hjl
                    have hcell := (hbv.cell (p := ⟨g, j, none⟩) (World.block_lt_of_cell? w7 ⟨g, j, none⟩ hcell)).trans hcell
                    have HNL : Hid (0 ≤ vs[j] → vs[j] ≤ 1000000 → ∀ i (hi : i < vs.length), i < j + 1 → 0 ≤ vs[i] ∧ vs[i] ≤ 1000000) := Lib.hid (fun h0 h1 i hi hij => by
                      by_cases e : i < j
                      · exact HLE9.out i hi e
                      · obtain rfl : i = j := by omega
                        exact ⟨h0, h1⟩)
                    have hj0 : (0 : Int) ≤ (j : Int) := by omega
                    have hj1 : (j : Int) < (vs.length : Int) := by omega
                    have HBV := Lib.hid hbv
                    clear hbv HLE9
                    generalize vs[j] = n at *
                    by_cases hn : 1000000 < n
                    · have hd1 : decide (1000000 < n) = true := decide_eq_true hn
                      clear hn
                      go_wp2_with fail
                      go_ret
                      exact ⟨rfl, HBF.out.trans ((HB7.out.trans (HBV.out.mono HB7.out.size)).mono HBF.out.size)⟩
                    have hd1 : decide (1000000 < n) = false := decide_eq_false hn
                    by_cases hn0 : n < 0
                    · have hd2 : decide (n < 0) = true := decide_eq_true hn0
                      clear hn hn0
                      go_wp2_with fail
                      go_ret
                      exact ⟨rfl, HBF.out.trans ((HB7.out.trans (HBV.out.mono HB7.out.size)).mono HBF.out.size)⟩
                    · have hd2 : decide (n < 0) = false := decide_eq_false hn0
                      have HN9 := Lib.hid (HNL.out (by omega) (by omega))
                      clear hn hn0 HNL
                      go_wp2_with fail
                      go_roundw
                      case rel => exact ⟨j + 1, by omega, by go_num, HBV.out, HN9⟩
                      case measure => simp [intOf]; omega
                  · have hj1 : ¬ (j : Int) < (vs.length : Int) := by omega
                    have HNK := Lib.hid (HNX.out (fun v hv => by obtain ⟨i, hi, rfl⟩ := List.mem_iff_getElem.1 hv; exact HLE9.out i hi (by omega)))
                    have HBV := Lib.hid (HB7.out.trans (hbv.mono HB7.out.size))
                    clear hbv HLE9
                    go_wp2_with fail
                    go_roundw
                    case rel => exact ⟨k + 1, by omega, by go_num, HBV.out, HNK⟩
                    case measure => simp [intOf]; omega
              · obtain rfl : k = bs.length := by omega
                obtain ⟨wG, rfl⟩ : ∃ z, z = wr := ⟨_, rfl⟩
                have HBG9 := Lib.hid (HBF.out.trans (hbw.mono HBF.out.size))
                have HXG := Lib.hid (keptR9 hbw HXF.out)
                have HYG := Lib.hid (keptR9 hbw HYF.out)
                have HCG : Hid (∀ W, Below wG.heap.size wG W → BdsAt W (fun b => b < W.heap.size) ca (shiftB c bs)) := Lib.hid (fun W h => HCF.out.kept (fun b _ hl => (hbw.trans (h.mono hbw.size)).block b hl) fun b hb _ => Nat.lt_of_lt_of_le hb (hbw.trans (h.mono hbw.size)).size)
                have hus := uni_shift (c := c) ⟨hc0, hc1⟩ _ bs 0 [(x, y)] (Nat.le_refl _) (Nat.zero_le _) (bdsM_ofY HKY.out HB64.out (fun j hj => HRV.out j hj hj)) (fun p hp => by rw [List.mem_singleton.1 hp]; exact ⟨HN64.out.1, HN64.out.2, plM_chkY HXC.out.1 HXC.out.2, plM_chkY HYC.out.1 HYC.out.2⟩)
                have hus : uni (shiftB c bs) 0 [(x.shift c, y.shift c)] = ((uni bs 0 [(x, y)]).1.map (shiftB c), (uni bs 0 [(x, y)]).2.1, (uni bs 0 [(x, y)]).2.2) := hus
                have hU2 := fun W xa xc ya yc (hW : Below wG.heap.size wG W) (h1 : TmIn W (x.shift c) xa xc) (h2 : TmIn W (y.shift c) ya yc) => ub_Unify (shiftB c bs) ca cc (x.shift c) (y.shift c) xa xc ya yc W (by rw [shiftB_len]; omega) (by rw [shiftB_len]; exact HCL.out.1) HCL.out.2 (fun b hb => by
                  obtain ⟨b0, hb0, rfl⟩ := List.mem_map.1 hb
                  show (b0.2.shift c).size ≤ _
                  rw [(Tm.shift_size c b0.2).1]; exact Nat.le_trans (HZ2.out _ hb0) (by decide)) (by rw [(Tm.shift_size c x).1]; exact Nat.le_trans HXS.out (by decide)) (by rw [(Tm.shift_size c y).1]; exact Nat.le_trans HYS.out (by decide)) (HCG.out W hW) h1 h2
                rw [hus] at hU2
                simp only [getD_shiftY, isSome_shiftY, shiftB_len] at hU2
                have hU1 := ub_Unify bs ab cb x y ax cx ay cy wG hle hl hc (fun b hb => Nat.le_trans (HZ2.out b hb) (by decide)) (Nat.le_trans HXS.out (by decide)) (Nat.le_trans HYS.out (by decide)) (HBD.out wG HBG9.out) (HXN.out _ HBG9.out) (HYN.out _ HBG9.out)
                have hSX := fun W (h : Below w.heap.size w W) => ref_Shift c x.size x ax cx W (Nat.le_refl _) (Nat.le_trans HXS.out (by decide)) (HXN.out W h)
                have hSY := fun W (h : Below w.heap.size w W) => ref_Shift c y.size y ay cy W (Nat.le_refl _) (Nat.le_trans HYS.out (by decide)) (HYN.out W h)
                have hgt := uni_get bs x y hle HZ2.out HXS.out HYS.out
                generalize (uni bs 0 [(x, y)]).1.getD [] = L at *
                generalize (uni bs 0 [(x, y)]).1.isSome = is1 at *
                generalize (uni bs 0 [(x, y)]).2.1 = er at *
                generalize x.shift c = x' at *
                generalize y.shift c = y' at *
                unfold tmv at hU1 hU2
                unfold MadeTerm tmv at hSX hSY
                have HU1 := Lib.hid hU1
                have HU2 := Lib.hid hU2
                have HSX := Lib.hid hSX
                have HSY := Lib.hid hSY
                have HGT := Lib.hid hgt
                clear hus hU1 hU2 hSX hSY hgt hbw HRV HKY HN64 HB64 HXC HYC HCF HXF HYF HBF HCL HBO
                obtain ⟨c0, c1, c2, c3, _⟩ := cellsT HXG.out
                obtain ⟨d0, d1, d2, d3, _⟩ := cellsT HYG.out
                go_wp2_with fail
                refine HU1.out.mono ?_; rintro e wH ⟨v1, rfl, ho1, hbH⟩
                obtain ⟨la, lc, rfl, hll, hlc, hla⟩ := ho1.at
                have HLA := Lib.hid hla
                have HBH := Lib.hid (HBG9.out.trans (hbH.mono HBG9.out.size))
                have HGH := Lib.hid hbH
                have HXH := Lib.hid (keptR9 hbH HXG.out)
                have HYH := Lib.hid (keptR9 hbH HYG.out)
                unfold maxLen at hlc
                clear ho1 hla hbH HU1 c0 c1 c2 c3 d0 d1 d2 d3 HXG HYG
                go_upto_region 36 with fail
                have HKEEP : Hid (∀ W, Below wH.heap.size wH W → W.cell? ⟨w.heap.size, 0, none⟩ = some (.int .i64 x.kind) ∧ W.cell? ⟨w.heap.size, 1, none⟩ = some (.string x.name) ∧ W.cell? ⟨w.heap.size, 2, none⟩ = some (.int .i64 x.n) ∧ W.cell? ⟨w.heap.size, 3, none⟩ = some (.slice ax x.args.length cx) ∧ W.cell? ⟨w.heap.size + 1, 0, none⟩ = some (.int .i64 y.kind) ∧ W.cell? ⟨w.heap.size + 1, 1, none⟩ = some (.string y.name) ∧ W.cell? ⟨w.heap.size + 1, 2, none⟩ = some (.int .i64 y.n) ∧ W.cell? ⟨w.heap.size + 1, 3, none⟩ = some (.slice ay y.args.length cy)) := Lib.hid (fun W h => by
                  obtain ⟨c0, c1, c2, c3, _⟩ := cellsT (keptR9 h HXH.out)
                  obtain ⟨d0, d1, d2, d3, _⟩ := cellsT (keptR9 h HYH.out)
                  exact ⟨c0, c1, c2, c3, d0, d1, d2, d3⟩)
                have HU3 := Lib.hid (fun W xa xc ya yc (h : Below wH.heap.size wH W) h1 h2 => HU2.out W xa xc ya yc (HGH.out.trans (h.mono HGH.out.size)) h1 h2)
                have bD : Below wH.heap.size wH wH.drew := (Below.refl _ wH).drew
                clear HU2
                go_region_held3 (fun W => W.cell? ⟨w.heap.size, 0, none⟩ = some (.int .i64 x.kind) ∧ W.cell? ⟨w.heap.size, 1, none⟩ = some (.string x.name) ∧ W.cell? ⟨w.heap.size, 2, none⟩ = some (.int .i64 x.n) ∧ W.cell? ⟨w.heap.size, 3, none⟩ = some (.slice ax x.args.length cx) ∧ W.cell? ⟨w.heap.size + 1, 0, none⟩ = some (.int .i64 y.kind) ∧ W.cell? ⟨w.heap.size + 1, 1, none⟩ = some (.string y.name) ∧ W.cell? ⟨w.heap.size + 1, 2, none⟩ = some (.int .i64 y.n) ∧ W.cell? ⟨w.heap.size + 1, 3, none⟩ = some (.slice ay y.args.length cy))
                  (first | with_reducible exact HKEEP.out _ b6 | with_reducible exact HKEEP.out _ b5 | with_reducible exact HKEEP.out _ b4 | with_reducible exact HKEEP.out _ bD)
                  (first
                    | (go_at_call 13; (with_reducible refine (HU3.out _ _ _ _ _ b5 HX5.out HY5.out).mono ?_); rintro e w6 ⟨v6, rfl, ho6, hb6⟩; have b6 := b5.trans (hb6.mono b5.size); have HO6 := Lib.hid ho6; clear ho6 hb6)
                    | (go_at_call 17; (with_reducible refine (HSY.out _ (HBH.out.trans (b4.mono HBH.out.size))).mono ?_); rintro e w5 ⟨ya, yc, rfl, hty, hb5⟩; have b5 := b4.trans (hb5.mono b4.size); have HX5 := Lib.hid (HX4.out.on hb5); have HY5 := Lib.hid hty.toIn; clear hty hb5)
                    | (go_at_call 17; (with_reducible refine (HSX.out _ (HBH.out.trans (bD.mono HBH.out.size))).mono ?_); rintro e w4 ⟨xa, xc, rfl, htx, hb4⟩; have b4 := bD.trans (hb4.mono bD.size); have HX4 := Lib.hid htx.toIn; clear htx hb4))
                all_goals
                  obtain ⟨ma, mc, rfl, hml, hmc, hma⟩ := HO6.out.at
                  rw [shiftB_len] at *
                  have HMA := Lib.hid hma
                  have HLA6 : Hid (BdsAt w6 (fun b => b < w6.heap.size) la L) := Lib.hid (HLA.out.kept (fun b _ hl => b6.block b hl) fun b hb _ => Nat.lt_of_lt_of_le hb b6.size)
                  have HB6 := Lib.hid (HBH.out.trans (b6.mono HBH.out.size))
                  unfold maxLen at hmc
                  clear hma HO6 HLA b6 b5 b4 bD HX4 HX5 HY5 HKEEP HU3 HSX HSY HXH HYH HBH HGH HCG
                  go_wp2_with fail
                  go_loopw [150] (fun iv wr => ∃ k : Nat, k ≤ L.length ∧ iv = .int .i64 k ∧ Hid (Below w6.heap.size w6 wr)) (fun iv _ => L.length - (intOf iv).toNat)
                  case atStart => exact ⟨0, Nat.zero_le _, rfl, Lib.hid (Below.refl _ _)⟩
                  case round =>
                    obtain ⟨k, hk, rfl, HR⟩ := hrel
                    by_cases hlt : k < L.length
                    · have hlt' : k < (shiftB c L).length := by rw [shiftB_len]; exact hlt
                      obtain ⟨b, o, p1, q1, rfl, _, _, hp1, x0, x1, x2, x3, x4⟩ := (HLA6.out.on HR.out) k hlt
                      obtain ⟨b', o', p2, q2, rfl, _, hi2, hp2, y0, y1, y2, y3, y4⟩ := (HMA.out.on HR.out) k hlt'
                      have hel : (shiftB c L)[k]'hlt' = (L[k].1 + c, L[k].2.shift c) := List.getElem_map _
                      rw [hel] at hi2 hp2 y0 y1 y2 y3 y4
                      clear hel
                      have hz := HGT.out.2 _ (List.getElem_mem hlt)
                      have hk0 : (0 : Int) ≤ (k : Int) := by omega
                      have hk1 : (k : Int) < (L.length : Int) := by omega
                      generalize L[k] = B at *
                      obtain ⟨n, t⟩ := B
                      dsimp only at *
                      have hwr : IntKind.i64.wrap (n + c) = n + c := IntWalk.i64_in _ hi2
                      have hz' : (t.shift c).size ≤ 1000000 := by rw [(Tm.shift_size c t).1]; exact hz
                      have hS := fun W (h : Below wr.heap.size wr W) => ref_Shift c t.size t p1 q1 W (Nat.le_refl _) hz (hp1.toIn.on h)
                      have hE := fun W (ua : Option Addr) (uc : Nat) (h : Below wr.heap.size wr W) (hu : TmIn W (t.shift c) ua uc) => same_yes (t.shift c) p2 ua q2 uc W hz' (hp2.toIn.on h) hu
                      generalize t.shift c = t' at *
                      unfold MadeTerm tmv at hS
                      unfold tmv at hE
                      have HS := Lib.hid hS
                      have HE := Lib.hid hE
                      have HK : Hid (∀ W, Below wr.heap.size wr W → W.cell? ⟨b, o + k * 5, none⟩ = some (.int .i64 n) ∧ W.cell? ⟨b, o + k * 5 + 1, none⟩ = some (.int .i64 t.kind) ∧ W.cell? ⟨b, o + k * 5 + 2, none⟩ = some (.string t.name) ∧ W.cell? ⟨b, o + k * 5 + 3, none⟩ = some (.int .i64 t.n) ∧ W.cell? ⟨b, o + k * 5 + 4, none⟩ = some (.slice p1 t.args.length q1) ∧ W.cell? ⟨b', o' + k * 5, none⟩ = some (.int .i64 (n + c)) ∧ W.cell? ⟨b', o' + k * 5 + 1, none⟩ = some (.int .i64 t'.kind) ∧ W.cell? ⟨b', o' + k * 5 + 2, none⟩ = some (.string t'.name) ∧ W.cell? ⟨b', o' + k * 5 + 3, none⟩ = some (.int .i64 t'.n) ∧ W.cell? ⟨b', o' + k * 5 + 4, none⟩ = some (.slice p2 t'.args.length q2)) := Lib.hid (fun W h => by
                        have k1 : ∀ (q i : Nat) (v : Value), wr.cell? ⟨q, i, none⟩ = some v → W.cell? ⟨q, i, none⟩ = some v := fun q i v hv => (h.cell (p := ⟨q, i, none⟩) (World.block_lt_of_cell? wr ⟨q, i, none⟩ hv)).trans hv
                        exact ⟨k1 _ _ _ x0, k1 _ _ _ x1, k1 _ _ _ x2, k1 _ _ _ x3, k1 _ _ _ x4, k1 _ _ _ y0, k1 _ _ _ y1, k1 _ _ _ y2, k1 _ _ _ y3, k1 _ _ _ y4⟩)
                      have bD : Below wr.heap.size wr wr.drew := (Below.refl _ wr).drew
                      clear hS hE hz hz' hp1 hp2 hi2 hlt' x0 x1 x2 x3 x4 y0 y1 y2 y3 y4
                      go_upto_region 42 with fail
                      go_region_held3 (fun W => W.cell? ⟨b, o + k * 5, none⟩ = some (.int .i64 n) ∧ W.cell? ⟨b, o + k * 5 + 1, none⟩ = some (.int .i64 t.kind) ∧ W.cell? ⟨b, o + k * 5 + 2, none⟩ = some (.string t.name) ∧ W.cell? ⟨b, o + k * 5 + 3, none⟩ = some (.int .i64 t.n) ∧ W.cell? ⟨b, o + k * 5 + 4, none⟩ = some (.slice p1 t.args.length q1) ∧ W.cell? ⟨b', o' + k * 5, none⟩ = some (.int .i64 (n + c)) ∧ W.cell? ⟨b', o' + k * 5 + 1, none⟩ = some (.int .i64 t'.kind) ∧ W.cell? ⟨b', o' + k * 5 + 2, none⟩ = some (.string t'.name) ∧ W.cell? ⟨b', o' + k * 5 + 3, none⟩ = some (.int .i64 t'.n) ∧ W.cell? ⟨b', o' + k * 5 + 4, none⟩ = some (.slice p2 t'.args.length q2))
                        (first | with_reducible exact HK.out _ b8 | with_reducible exact HK.out _ b7 | with_reducible exact HK.out _ bD)
                        (first
                          | (go_at_call 15; (with_reducible refine (HE.out _ _ _ b7 HU7.out).mono ?_); rintro e w8 ⟨rfl, hb8⟩; have b8 := b7.trans (hb8.mono b7.size); clear hb8)
                          | (go_at_call 17; (with_reducible refine (HS.out _ bD).mono ?_); rintro e w7 ⟨ua, uc, rfl, htu, hb7⟩; have b7 := bD.trans (hb7.mono bD.size); have HU7 := Lib.hid htu.toIn; clear htu hb7))
                      all_goals
                        have HB8 := Lib.hid (HR.out.trans (b8.mono HR.out.size))
                        clear HK HS HE bD b7 b8 HU7
                        go_wp2_with fail
                        go_roundw
                        case rel => exact ⟨k + 1, by omega, by go_num, HB8⟩
                        case measure => simp [intOf]; omega
                    · have hk1 : ¬ (k : Int) < (L.length : Int) := by omega
                      have HBZ := Lib.hid (HB6.out.trans (HR.out.mono HB6.out.size))
                      clear HR
                      go_wp2_with fail
                      go_ret
                      exact ⟨rfl, HBZ.out⟩
end Go.Proofs.YtlpmofmhcnclhaaDoor
