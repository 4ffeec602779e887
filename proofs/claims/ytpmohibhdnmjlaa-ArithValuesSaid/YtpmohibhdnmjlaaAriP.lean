/-
  The contracts of package arith: Eval, Holds.
-/
import Derived.Test.YtpmohibhdnmjlaaAriPF
import Derived.Test.YtpmohibhdnmjlaaShelf8
namespace Go.Proofs.Ytpmohibhdnmjlaa
open Go.RowKit Go.Maps

set_option maxRecDepth 100000 in
set_option maxHeartbeats 8000000 in
theorem ua_Eval (bs : List (Int × Tm)) (ab : Option Addr) (cb : Nat) (t : Tm) (ad : Option Addr) (cap : Nat) (w : World) (hlen : bs.length ≤ 1000000) (hl : bs.length ≤ cb) (hc : cb ≤ maxLen) (hsz : ∀ b ∈ bs, b.2.size ≤ 1000000) (hts : t.size ≤ 1000000) (hb : BdsAt w (fun b => b < w.heap.size) ab bs) (ht : TmIn w t ad cap) :
    Calls Try.prog 9 #[.slice ab bs.length cb, tmv t ad cap] w (EvO (evD bs 60 t) w) := by
  have hI := EvB.start w t ad cap ht
  have HBG := Lib.hid (fun W (h : Below w.heap.size w W) => pa_begin bs ab cb W (hb.kept (fun b hb' _ => h.block b hb') fun b hb' _ => Nat.lt_of_lt_of_le hb' h.size))
  have h64 := hb.n64
  have HVL := Lib.hid (fun p mb W (h : WkAt bs ab cb p mb W) (h' : TmIn W t ad cap) => pa_value bs ab cb p mb hlen hl hc hsz h64 60 0 (by omega) (by omega) t ad cap W hts h h')
  have HI := Lib.hid hI
  clear hI hlen hl hc hsz hts hb ht h64
  generalize evD bs 60 t = r at *
  unfold EvV tmv at HVL
  unfold EvO tmv
  go_enter Try.func9, Try.ntmps9
  go_upto_region 1 with fail
  generalize w.alloc _ = w0 at *
  have bD : Below w0.heap.size w0 w0.drew := (Below.refl _ w0).drew
  obtain ⟨x0, x1, x2, x3, _⟩ := cellsT HI.out.1
  go_region_law (first
    | (go_simp; go_at_call 24; refine (HBG.out _ HI.out.2.2.drew).mono ?_; rintro e w2 ⟨p, mb, rfl, hmb, hwk, hb2⟩; obtain ⟨f0, f1, f2, f3, _⟩ := cellsT (keptR9 hb2 HI.out.1); have HW2 := Lib.hid hwk; clear hwk)
    | (go_simp; go_at_call 25; refine (HVL.out _ _ _ HW2.out (HI.out.2.1.on (bD.trans (hb2.mono bD.size)))).mono ?_; rintro e w3 ⟨rfl, hs3⟩))
  all_goals
    have hs0 := HI.out.2.2.size
    have hbw := HI.out.2.2.trans ((bD.trans (hb2.mono bD.size)).mono hs0)
    have hmb' : w0.heap.size ≤ mb := hmb
    have HB := Lib.hid (hbw.trans (hs3.turn.below (n := w.heap.size) (fun j e => by have e : j = mb := e; omega) hbw.size))
    clear hs3 f0 f1 f2 f3 x0 x1 x2 x3 hmb hmb' hbw hb2
    go_wp2_with fail
    go_ret2
    exact ⟨rfl, HB.out⟩
theorem want_no {s : ByteArray} (h : isOp s = false) : wantL s = [] := by
  obtain ⟨s1, s2, s3, s4, s5, s6⟩ := isOp_no h
  unfold wantL
  rw [s1, s2, s3, s4, s5, s6]
  rfl
theorem want_op {s : ByteArray} (h : isOp s = true) : 1 ≤ (wantL s).length ∧ (wantL s).length ≤ 2 ∧ ∀ n m, (wantL s).contains (cmpV n m) = opV s n m := by
  have key : ∀ n m : Int, (n < m ∧ cmpV n m = -1) ∨ (n = m ∧ cmpV n m = 0) ∨ (m < n ∧ cmpV n m = 1) := fun n m => by
    unfold cmpV
    rcases Int.lt_trichotomy n m with h | h | h
    · exact .inl ⟨h, if_pos h⟩
    · exact .inr (.inl ⟨h, by rw [if_neg (by omega), if_neg (by omega)]⟩)
    · exact .inr (.inr ⟨h, by rw [if_neg (by omega), if_pos h]⟩)
  have ways : s.toList = [61, 58, 61] ∨ s.toList = [61, 92, 61] ∨ s.toList = [60] ∨ s.toList = [61, 60] ∨ s.toList = [62] ∨ s.toList = [62, 61] := by
    unfold isOp at h
    simp only [Bool.or_eq_true, beq_iff_eq] at h
    exact h
  unfold wantL opV
  rcases ways with e | e | e | e | e | e <;> rw [e]
  all_goals
    refine ⟨by simp, by simp, fun n m => ?_⟩
    rcases key n m with ⟨h1, h2⟩ | ⟨h1, h2⟩ | ⟨h1, h2⟩ <;> rw [h2] <;> simp <;> omega
theorem ho_keep {bs : List (Int × Tm)} {ab : Option Addr} {cb p mb g : Nat} {w w1 w2 w3 : World} {L : List Int} (h1 : Below w.heap.size w w1) (hb2 : Below w1.drew.heap.size w1.drew w2) (hmb : w1.drew.heap.size ≤ mb) (hw : WkAt bs ab cb p mb w2) (hs3 : Stp bs ab cb p mb w2 w3) (hc : ∀ j, j < L.length → w1.cell? ⟨g, 0 + j, none⟩ = some (.int .i64 (L.getD j 0))) :
    Below w.heap.size w w3 ∧ ∀ j, j < L.length → w3.cell? ⟨g, 0 + j, none⟩ = some (.int .i64 (L.getD j 0)) := by
  have bD : Below w1.heap.size w1 w1.drew := (Below.refl _ w1).drew
  have hbx : Below w1.heap.size w1 w2 := bD.trans (hb2.mono bD.size)
  have hmb' : w1.heap.size ≤ mb := hmb
  have h0 := h1.size
  have hbw : Below w.heap.size w w2 := h1.trans (hbx.mono h0)
  exact ⟨hbw.trans (hs3.turn.below (n := w.heap.size) (fun j e => by have e : j = mb := e; omega) hbw.size), fun j hj => hs3.cell hw ((hbx.cell (World.block_lt_of_cell? w1 ⟨g, 0 + j, none⟩ (hc j hj))).trans (hc j hj))⟩
theorem vals_badB {n e1 m e2 v1 v2 v3 : Int} {x : Bool × Int} (h : valsV (n, e1) (m, e2) = (v1, v2, v3)) (h0 : v3 ≠ 0) : (if e1 ≠ 0 then (false, e1) else if e2 ≠ 0 then (false, e2) else x) = (false, v3) := by
  unfold valsV at h
  dsimp only at h
  by_cases h1 : e1 = 0
  · rw [if_neg (by simpa using h1)] at h ⊢
    injection h with a b
    injection b with b c
    rw [if_pos (by omega), c]
  · rw [if_pos h1] at h ⊢
    injection h with a b
    injection b with b c
    rw [c]

set_option maxRecDepth 100000 in
set_option maxHeartbeats 8000000 in
theorem ho_bad (bs : List (Int × Tm)) (ab : Option Addr) (cb : Nat) (s : ByteArray) (x y : Tm) (ax : Option Addr) (cx : Nat) (ay : Option Addr) (cy : Nat) (w : World) (h : isOp s = false) :
    Calls Try.prog 11 #[.slice ab bs.length cb, .string s, tmv x ax cx, tmv y ay cy] w fun e w' => e = .returned (.tuple #[.bool false, .int .i64 1]) ∧ Below w.heap.size w w' := by
  have HI := Lib.hid (two_boxes w x ax cx y ay cy)
  have HC := Lib.hid (fun W => pa_comparison s W)
  rw [want_no h] at HC
  clear h
  unfold tmv
  unfold WantO at HC
  go_enter Try.func11, Try.ntmps11
  go_upto_region 1 with fail
  generalize (w.alloc _).alloc _ = w0 at *
  go_wp2_with fail
  refine (HC.out _).mono ?_; rintro e w1 ⟨v, rfl, hown, hb1⟩
  have HB := Lib.hid (HI.out.on hb1).2.2
  obtain ⟨_, ⟨rfl, _⟩ | ⟨g, cap, cur, rfl, _⟩⟩ := hown
  · clear hb1
    go_wp2_with fail
    go_ret2
    exact ⟨rfl, HB.out⟩
  · clear hb1
    simp only [List.length_nil] at *
    go_wp2_with fail
    go_ret2
    exact ⟨rfl, HB.out⟩

set_option maxRecDepth 100000 in
set_option maxHeartbeats 8000000 in
theorem ho_good (bs : List (Int × Tm)) (ab : Option Addr) (cb : Nat) (s : ByteArray) (x y : Tm) (ax : Option Addr) (cx : Nat) (ay : Option Addr) (cy : Nat) (w : World) (hlen : bs.length ≤ 1000000) (hl : bs.length ≤ cb) (hc : cb ≤ maxLen) (hsz : ∀ b ∈ bs, b.2.size ≤ 1000000) (hxs : x.size ≤ 1000000) (hys : y.size ≤ 1000000) (hb : BdsAt w (fun b => b < w.heap.size) ab bs) (hx : TmIn w x ax cx) (hy : TmIn w y ay cy) (hop : isOp s = true) :
    Calls Try.prog 11 #[.slice ab bs.length cb, .string s, tmv x ax cx, tmv y ay cy] w fun e w' => e = .returned (.tuple #[.bool (cmpA s (evD bs 60 x) (evD bs 60 y)).1, .int .i64 (cmpA s (evD bs 60 x) (evD bs 60 y)).2]) ∧ Below w.heap.size w w' := by
  have HI := Lib.hid (two_boxes w x ax cx y ay cy)
  have HC := Lib.hid (fun W => pa_comparison s W)
  have HBG := Lib.hid (fun W (h : Below w.heap.size w W) => pa_begin bs ab cb W (hb.kept (fun b hb' _ => h.block b hb') fun b hb' _ => Nat.lt_of_lt_of_le hb' h.size))
  have h64 := hb.n64
  have HVL := Lib.hid (fun p mb W (h : WkAt bs ab cb p mb W) (h' : TmIn W x ax cx) (h'' : TmIn W y ay cy) => pa_values bs ab cb p mb 60 0 (pa_value bs ab cb p mb hlen hl hc hsz h64 60 0 (by omega) (by omega)) x y ax cx ay cy W hxs hys h h' h'')
  have HXY := Lib.hid (fun W (h : Below w.heap.size w W) => And.intro (hx.on h) (hy.on h))
  obtain ⟨hw1, hw2, hw3⟩ := want_op hop
  have HW3 := Lib.hid hw3
  have HOP := Lib.hid hop
  clear hlen hl hc hsz hxs hys hb hx hy h64 hw3 hop
  generalize evD bs 60 x = rx at *
  generalize evD bs 60 y = ry at *
  generalize wantL s = L at *
  obtain ⟨n, e1⟩ := rx
  obtain ⟨m, e2⟩ := ry
  obtain ⟨⟨v1, v2, v3⟩, hvv⟩ : ∃ V : Int × Int × Int, valsV (n, e1) (m, e2) = V := ⟨_, rfl⟩
  rw [hvv] at HVL
  have HVV := Lib.hid hvv
  clear hvv
  obtain ⟨R, hR⟩ : ∃ R, cmpA s (n, e1) (m, e2) = R := ⟨_, rfl⟩
  rw [hR]
  have HR := Lib.hid hR
  clear hR
  unfold tmv at *
  unfold WantO at HC
  dsimp only at HVL
  go_enter Try.func11, Try.ntmps11
  go_upto_region 1 with fail
  generalize (w.alloc _).alloc _ = w0 at *
  go_wp2_with fail
  refine (HC.out _).mono ?_; rintro e w1 ⟨v, rfl, hown, hb1⟩
  have HI1 := Lib.hid (HI.out.on hb1)
  obtain ⟨g, cap, rfl, HCL⟩ : ∃ g cap, v = .slice (some ⟨g, 0, none⟩) L.length cap ∧ Hid (∀ j, j < L.length → w1.cell? ⟨g, 0 + j, none⟩ = some (.int .i64 (L.getD j 0))) := by
    have hw := hown
    obtain ⟨hln, ⟨rfl, h0⟩ | ⟨g, cap, cur, rfl, _⟩⟩ := hown
    · omega
    · refine ⟨g, cap, rfl, Lib.hid fun j hj => ?_⟩
      have h := hw.cellAt j (by omega)
      rw [Nat.zero_add, h, List.getElem?_map, List.getElem?_eq_getElem hj, List.getD_eq_getElem?_getD, List.getElem?_eq_getElem hj]
      rfl
  have hne : ((L.length : Int) == 0) = false := by simpa using (show (L.length : Int) ≠ 0 by omega)
  have HB1 := Lib.hid hb1
  have hs1 := HI.out.2.2.size
  have hs2 := hb1.size
  clear hb1 HC hown
  go_upto_region 4 with fail
  have bD : Below w1.heap.size w1 w1.drew := (Below.refl _ w1).drew
  obtain ⟨x0, x1, x2, x3, _⟩ := cellsT HI1.out.1
  obtain ⟨y0, y1, y2, y3, _⟩ := cellsT HI1.out.2.1
  go_cut [11, 12, 13] (fun s1 s2 s3 wx => s1 = .int .i64 v1 ∧ s2 = .int .i64 v2 ∧ s3 = .int .i64 v3 ∧ Hid (Below w.heap.size w wx ∧ ∀ j, j < L.length → wx.cell? ⟨g, 0 + j, none⟩ = some (.int .i64 (L.getD j 0))))
  case first =>
    go_region_law (first
      | (go_simp; go_at_call 24; refine (HBG.out _ HI1.out.2.2.drew).mono ?_; rintro e w2 ⟨p, mb, rfl, hmb, hwk, hb2⟩; obtain ⟨f0, f1, f2, f3, _⟩ := cellsT (keptR9 hb2 HI1.out.1); obtain ⟨g0, g1, g2, g3, _⟩ := cellsT (keptR9 hb2 HI1.out.2.1); have HW2 := Lib.hid hwk; clear hwk)
      | (go_simp; go_at_call 28; refine (HVL.out _ _ _ HW2.out (HXY.out _ (HI1.out.2.2.trans ((bD.trans (hb2.mono bD.size)).mono (Nat.le_trans hs1 hs2)))).1 (HXY.out _ (HI1.out.2.2.trans ((bD.trans (hb2.mono bD.size)).mono (Nat.le_trans hs1 hs2)))).2).mono ?_; rintro e w3 ⟨rfl, hs3⟩))
    all_goals
      have HBX := Lib.hid (ho_keep HI1.out.2.2 hb2 hmb HW2.out hs3 HCL.out)
      clear hs3 f0 f1 f2 f3 g0 g1 g2 g3 x0 x1 x2 x3 y0 y1 y2 y3 hmb hb2 HVL HBG HCL
      go_wp2_with fail
      go_meet
      exact ⟨rfl, rfl, rfl, HBX⟩
  case rest =>
  obtain ⟨rfl, rfl, rfl, HX⟩ := hcut
  clear x0 x1 x2 x3 y0 y1 y2 y3 bD HVL HBG HCL
  by_cases hz : v3 = 0
  · subst hz
    obtain ⟨g1, g2, g3, g4⟩ := vals_good HVV.out rfl
    subst g1 g2 g3 g4
    have HRR : Hid (R = (opV s v1 v2, 0)) := Lib.hid (by rw [← HR.out]; unfold cmpA; rw [if_pos HOP.out]; simp)
    have HCT := Lib.hid (fun W (h : ∀ j, j < L.length → W.cell? ⟨g, 0 + j, none⟩ = some (.int .i64 (L.getD j 0))) => Try.slices_Contains_int g 0 L.length cap L (cmpV v1 v2) W (Nat.le_refl _) (by omega) h)
    rw [List.take_length, HW3.out] at HCT
    go_wp2_with fail
    refine (num_Cmp _ _ _).mono ?_; rintro e w' ⟨rfl, rfl⟩
    go_wp2_with fail
    refine (HCT.out _ HX.out.2).mono ?_; rintro e w' ⟨rfl, rfl⟩
    go_wp2_with fail
    refine bodyPost_ret (v := .tuple #[.bool (opV s v1 v2), .int .i64 0]) (by simp [results, Try.results11, go_sem]) rfl ?_
    rw [HRR.out]
    exact ⟨rfl, HX.out.1⟩
  · have HRR : Hid (R = (false, v3)) := Lib.hid (by rw [← HR.out]; unfold cmpA; rw [if_pos HOP.out]; exact vals_badB HVV.out hz)
    have g1 : (v3 != 0) = true := by simpa using hz
    clear hz
    go_wp2_with fail
    go_ret2
    rw [HRR.out]
    exact ⟨rfl, HX.out.1⟩

theorem ua_Holds (bs : List (Int × Tm)) (ab : Option Addr) (cb : Nat) (s : ByteArray) (x y : Tm) (ax : Option Addr) (cx : Nat) (ay : Option Addr) (cy : Nat) (w : World) (hlen : bs.length ≤ 1000000) (hl : bs.length ≤ cb) (hc : cb ≤ maxLen) (hsz : ∀ b ∈ bs, b.2.size ≤ 1000000) (hxs : x.size ≤ 1000000) (hys : y.size ≤ 1000000) (_hs : s.size ≤ maxLen) (hb : BdsAt w (fun b => b < w.heap.size) ab bs) (hx : TmIn w x ax cx) (hy : TmIn w y ay cy) :
    Calls Try.prog 11 #[.slice ab bs.length cb, .string s, tmv x ax cx, tmv y ay cy] w fun e w' => e = .returned (.tuple #[.bool (cmpA s (evD bs 60 x) (evD bs 60 y)).1, .int .i64 (cmpA s (evD bs 60 x) (evD bs 60 y)).2]) ∧ Below w.heap.size w w' := by
  cases h : isOp s with
  | true => exact ho_good bs ab cb s x y ax cx ay cy w hlen hl hc hsz hxs hys hb hx hy h
  | false =>
    have := ho_bad bs ab cb s x y ax cx ay cy w h
    unfold cmpA
    rw [if_neg (by rw [h]; nofun)]
    exact this
end Go.Proofs.Ytpmohibhdnmjlaa
