/-
  The document's own compare.
-/
import Derived.Test.YtlpmofmhcnclhaaDoorUniE
import Derived.Test.YtlpmofmhcnclhaaDoorUniPl
import Derived.Test.YtlpmofmhcnclhaaDoorTermCmp
namespace Go.Proofs.YtlpmofmhcnclhaaDoor
open Go.RowKit

/-- What compare leaves. -/
def CmpOut (mb : Nat) (w : World) (r : Int × Int × Nat) (e : Ending) (w' : World) : Prop := e = .returned (.tuple #[.int .i64 r.1, .int .i64 r.2.1]) ∧ MtAt w' mb r.2.2 ∧ Turn (fun j => j = mb) w w'
theorem turn_belowU {M : Nat → Prop} {w W W' : World} (h : Turn M w W) (hb : Below W.heap.size W W') : Turn M w W' :=
  ⟨hb.os.trans h.os, hb.tape.trans h.tape, hb.output.trans h.output, Nat.le_trans h.size hb.size, fun k hk hn => (hb.block k (Nat.lt_of_lt_of_le hk h.size)).trans (h.block k hk hn)⟩
theorem cmpr_one_good {bs : Bds} {n n' : Nat} {p : Tm × Tm} {L : List (Tm × Tm)} (hn : n ≤ 2000) (h : cmpr bs n [p] = (0, 0, n')) : cmpr bs n (p :: L) = cmpr bs n' L := by
  have := cmpr_after bs _ n [p] L (Nat.le_refl _) hn
  rw [h] at this
  unfold cmpT at this
  rw [if_pos ⟨rfl, rfl⟩] at this
  exact this
theorem cmpr_one_bad {bs : Bds} {n : Nat} {r : Int × Int × Nat} {p : Tm × Tm} {L : List (Tm × Tm)} (hn : n ≤ 2000) (h : cmpr bs n [p] = r) (hr : ¬ (r.1 = 0 ∧ r.2.1 = 0)) : cmpr bs n (p :: L) = r := by
  have := cmpr_after bs _ n [p] L (Nat.le_refl _) hn
  rw [h] at this
  unfold cmpT at this
  rw [if_neg hr] at this
  exact this

set_option maxRecDepth 100000 in
set_option maxHeartbeats 8000000 in
/-- There were too many steps. -/
theorem c_err (bs : List (Int × Tm)) (ab : Option Addr) (cb mb n n2 : Nat) (x y x' y' : Tm) (er : Int) (ax : Option Addr) (cx : Nat) (ay : Option Addr) (cy : Nat) (w : World) (hlen : bs.length ≤ 1000000) (hb : BdsAt w (Old mb w) ab bs) (hm : MtAt w mb n) (hn : n ≤ 2000) (hx : TmP w (Old mb w) x ax cx) (hy : TmP w (Old mb w) y ay cy) (hbo : bothL bs n x y = (x', y', er, n2)) (her : er ≠ 0) :
    Calls Tryd.prog 30 #[.pointer (some ⟨mb, 0, none⟩), .slice ab bs.length cb, tmv x ax cx, tmv y ay cy] w (CmpOut mb w (0, er, n2)) := by
  have hd : (er != 0) = true := bne_iff_ne.2 her
  have hml := hm.lt
  have HBD := Lib.hid hb
  have HBO := Lib.hid (fun W (h : Turn (fun j => j = mb) w W) (hm : MtAt W mb n) => r10_both bs ab cb mb n x y ax cx ay cy W (Old mb w) hlen (fun b hb => by have h1 := h.size; exact ⟨Nat.lt_of_lt_of_le hb.1 h1, hb.2⟩) (hb.turn h fun b hb => hb.2) hm hn (hx.turnS h fun b hb => hb.2) (hy.turnS h fun b hb => hb.2))
  have HBX := Lib.hid (meet_boxes hm (.cells #[.int .i64 x.kind, .string x.name, .int .i64 x.n, .slice ax x.args.length cx] 25) (.cells #[.int .i64 y.kind, .string y.name, .int .i64 y.n, .slice ay y.args.length cy] 25))
  clear hb hm hx hy
  rw [hbo] at HBO
  clear hbo
  unfold BothOut at HBO
  unfold tmv at HBO
  dsimp only at HBO
  rw [show (tmv x ax cx) = .agg #[.int .i64 x.kind, .string x.name, .int .i64 x.n, .slice ax x.args.length cx] from rfl, show (tmv y ay cy) = .agg #[.int .i64 y.kind, .string y.name, .int .i64 y.n, .slice ay y.args.length cy] from rfl]
  go_enter Tryd.func30, Tryd.ntmps30
  go_wp2_with fail
  generalize hw0 : (w.alloc _).alloc _ = w0 at *
  obtain ⟨q0, q1, t0, m0, s0⟩ := HBX.out
  refine (HBO.out w0 t0 m0).mono ?_; rintro e w1 ⟨a1, d1, a2, d2, rfl, hx1, hy1, m1, t1⟩
  have HU := Lib.hid (fun X hX => UnB.start (x' := x') (y' := y') hml hw0.symm hx1 hy1 m1 t1 X hX)
  obtain ⟨z0, z1, z2, z3, e0, e1, e2, e3⟩ := cellsT ((t1.block w.heap.size (by omega) (by omega)).trans q0)
  obtain ⟨u0, u1, u2, u3, f0, f1, f2, f3⟩ := cellsT ((t1.block (w.heap.size + 1) (by omega) (by omega)).trans q1)
  clear q0 q1 t0 m0 s0 hw0 hx1 hy1 m1 t1 HBX HBO
  go_upto_region 2 with fail
  generalize hX : World.setCell _ _ _ = w3
  have HUB := Lib.hid (HU.out w3 hX.symm)
  clear z0 z1 z2 z3 e0 e1 e2 e3 u0 u1 u2 u3 f0 f1 f2 f3 hX HU
  obtain ⟨c0, c1, c2, c3, e0, e1, e2, e3⟩ := cellsT HUB.out.bx
  obtain ⟨d0, g1, g2, g3, f0, f1, f2, f3⟩ := cellsT HUB.out.bz
  go_wp2_with fail
  refine bodyPost_ret (v := .tuple #[.int .i64 0, .int .i64 er]) (by simp [results, Tryd.results30, go_sem]) rfl ?_
  exact ⟨rfl, HUB.out.mt, HUB.out.turn⟩

set_option maxRecDepth 100000 in
set_option maxHeartbeats 8000000 in
/-- The first one is no compound. -/
theorem c_leaf1 (bs : List (Int × Tm)) (ab : Option Addr) (cb mb n n2 : Nat) (x y x' y' : Tm) (ax : Option Addr) (cx : Nat) (ay : Option Addr) (cy : Nat) (w : World) (hlen : bs.length ≤ 1000000) (hb : BdsAt w (Old mb w) ab bs) (hm : MtAt w mb n) (hn : n ≤ 2000) (hx : TmP w (Old mb w) x ax cx) (hy : TmP w (Old mb w) y ay cy) (hbo : bothL bs n x y = (x', y', 0, n2)) (hxs : x'.size ≤ 1000000) (kx : x'.kind ≠ 4) :
    Calls Tryd.prog 30 #[.pointer (some ⟨mb, 0, none⟩), .slice ab bs.length cb, tmv x ax cx, tmv y ay cy] w (CmpOut mb w (x'.cmp y', 0, n2)) := by
  have hxk : (x'.kind != 4) = true := by simp [kx]
  clear kx
  have hml := hm.lt
  have HBD := Lib.hid hb
  have HBO := Lib.hid (fun W (h : Turn (fun j => j = mb) w W) (hm : MtAt W mb n) => r10_both bs ab cb mb n x y ax cx ay cy W (Old mb w) hlen (fun b hb => by have h1 := h.size; exact ⟨Nat.lt_of_lt_of_le hb.1 h1, hb.2⟩) (hb.turn h fun b hb => hb.2) hm hn (hx.turnS h fun b hb => hb.2) (hy.turnS h fun b hb => hb.2))
  have HBX := Lib.hid (meet_boxes hm (.cells #[.int .i64 x.kind, .string x.name, .int .i64 x.n, .slice ax x.args.length cx] 25) (.cells #[.int .i64 y.kind, .string y.name, .int .i64 y.n, .slice ay y.args.length cy] 25))
  clear hb hm hx hy
  rw [hbo] at HBO
  clear hbo
  unfold BothOut at HBO
  unfold tmv at HBO
  dsimp only at HBO
  rw [show (tmv x ax cx) = .agg #[.int .i64 x.kind, .string x.name, .int .i64 x.n, .slice ax x.args.length cx] from rfl, show (tmv y ay cy) = .agg #[.int .i64 y.kind, .string y.name, .int .i64 y.n, .slice ay y.args.length cy] from rfl]
  go_enter Tryd.func30, Tryd.ntmps30
  go_wp2_with fail
  generalize hw0 : (w.alloc _).alloc _ = w0 at *
  obtain ⟨q0, q1, t0, m0, s0⟩ := HBX.out
  refine (HBO.out w0 t0 m0).mono ?_; rintro e w1 ⟨a1, d1, a2, d2, rfl, hx1, hy1, m1, t1⟩
  have HU := Lib.hid (fun X hX => UnB.start (x' := x') (y' := y') hml hw0.symm hx1 hy1 m1 t1 X hX)
  obtain ⟨z0, z1, z2, z3, e0, e1, e2, e3⟩ := cellsT ((t1.block w.heap.size (by omega) (by omega)).trans q0)
  obtain ⟨u0, u1, u2, u3, f0, f1, f2, f3⟩ := cellsT ((t1.block (w.heap.size + 1) (by omega) (by omega)).trans q1)
  clear q0 q1 t0 m0 s0 hw0 hx1 hy1 m1 t1 HBX HBO
  go_upto_region 2 with fail
  generalize hX : World.setCell _ _ _ = w3
  have HUB := Lib.hid (HU.out w3 hX.symm)
  clear z0 z1 z2 z3 e0 e1 e2 e3 u0 u1 u2 u3 f0 f1 f2 f3 hX HU
  obtain ⟨c0, c1, c2, c3, e0, e1, e2, e3⟩ := cellsT HUB.out.bx
  obtain ⟨d0, g1, g2, g3, f0, f1, f2, f3⟩ := cellsT HUB.out.bz
  have HCP := Lib.hid (fun W (hx : TmIn W x' a1 d1) (hy : TmIn W y' a2 d2) => ref_Compare x'.size x' y' a1 a2 d1 d2 W (Nat.le_refl _) hxs hx hy)
  unfold tmv at HCP
  generalize x'.cmp y' = c at *
  go_wp2_with fail
  refine (HCP.out w3 HUB.out.px.toIn HUB.out.py.toIn).mono ?_; rintro e w4 ⟨rfl, hb4⟩
  have HB4 := Lib.hid hb4
  clear hb4
  go_wp2_with fail
  refine bodyPost_ret (v := .tuple #[.int .i64 c, .int .i64 0]) (by simp [results, Tryd.results30, go_sem]) rfl ?_
  exact ⟨rfl, HUB.out.mt.on HB4.out, turn_belowU HUB.out.turn HB4.out⟩

set_option maxRecDepth 100000 in
set_option maxHeartbeats 8000000 in
/-- The second one is no compound. -/
theorem c_leaf2 (bs : List (Int × Tm)) (ab : Option Addr) (cb mb n n2 : Nat) (x y x' y' : Tm) (ax : Option Addr) (cx : Nat) (ay : Option Addr) (cy : Nat) (w : World) (hlen : bs.length ≤ 1000000) (hb : BdsAt w (Old mb w) ab bs) (hm : MtAt w mb n) (hn : n ≤ 2000) (hx : TmP w (Old mb w) x ax cx) (hy : TmP w (Old mb w) y ay cy) (hbo : bothL bs n x y = (x', y', 0, n2)) (hxs : x'.size ≤ 1000000) (kx : x'.kind = 4) (ky : y'.kind ≠ 4) :
    Calls Tryd.prog 30 #[.pointer (some ⟨mb, 0, none⟩), .slice ab bs.length cb, tmv x ax cx, tmv y ay cy] w (CmpOut mb w (x'.cmp y', 0, n2)) := by
  have hxk : (x'.kind != 4) = false := by simp [kx]
  have hyk : (y'.kind != 4) = true := by simp [ky]
  clear kx ky
  have hml := hm.lt
  have HBD := Lib.hid hb
  have HBO := Lib.hid (fun W (h : Turn (fun j => j = mb) w W) (hm : MtAt W mb n) => r10_both bs ab cb mb n x y ax cx ay cy W (Old mb w) hlen (fun b hb => by have h1 := h.size; exact ⟨Nat.lt_of_lt_of_le hb.1 h1, hb.2⟩) (hb.turn h fun b hb => hb.2) hm hn (hx.turnS h fun b hb => hb.2) (hy.turnS h fun b hb => hb.2))
  have HBX := Lib.hid (meet_boxes hm (.cells #[.int .i64 x.kind, .string x.name, .int .i64 x.n, .slice ax x.args.length cx] 25) (.cells #[.int .i64 y.kind, .string y.name, .int .i64 y.n, .slice ay y.args.length cy] 25))
  clear hb hm hx hy
  rw [hbo] at HBO
  clear hbo
  unfold BothOut at HBO
  unfold tmv at HBO
  dsimp only at HBO
  rw [show (tmv x ax cx) = .agg #[.int .i64 x.kind, .string x.name, .int .i64 x.n, .slice ax x.args.length cx] from rfl, show (tmv y ay cy) = .agg #[.int .i64 y.kind, .string y.name, .int .i64 y.n, .slice ay y.args.length cy] from rfl]
  go_enter Tryd.func30, Tryd.ntmps30
  go_wp2_with fail
  generalize hw0 : (w.alloc _).alloc _ = w0 at *
  obtain ⟨q0, q1, t0, m0, s0⟩ := HBX.out
  refine (HBO.out w0 t0 m0).mono ?_; rintro e w1 ⟨a1, d1, a2, d2, rfl, hx1, hy1, m1, t1⟩
  have HU := Lib.hid (fun X hX => UnB.start (x' := x') (y' := y') hml hw0.symm hx1 hy1 m1 t1 X hX)
  obtain ⟨z0, z1, z2, z3, e0, e1, e2, e3⟩ := cellsT ((t1.block w.heap.size (by omega) (by omega)).trans q0)
  obtain ⟨u0, u1, u2, u3, f0, f1, f2, f3⟩ := cellsT ((t1.block (w.heap.size + 1) (by omega) (by omega)).trans q1)
  clear q0 q1 t0 m0 s0 hw0 hx1 hy1 m1 t1 HBX HBO
  go_upto_region 2 with fail
  generalize hX : World.setCell _ _ _ = w3
  have HUB := Lib.hid (HU.out w3 hX.symm)
  clear z0 z1 z2 z3 e0 e1 e2 e3 u0 u1 u2 u3 f0 f1 f2 f3 hX HU
  obtain ⟨c0, c1, c2, c3, e0, e1, e2, e3⟩ := cellsT HUB.out.bx
  obtain ⟨d0, g1, g2, g3, f0, f1, f2, f3⟩ := cellsT HUB.out.bz
  have HCP := Lib.hid (fun W (hx : TmIn W x' a1 d1) (hy : TmIn W y' a2 d2) => ref_Compare x'.size x' y' a1 a2 d1 d2 W (Nat.le_refl _) hxs hx hy)
  unfold tmv at HCP
  generalize x'.cmp y' = c at *
  go_wp2_with fail
  refine (HCP.out w3 HUB.out.px.toIn HUB.out.py.toIn).mono ?_; rintro e w4 ⟨rfl, hb4⟩
  have HB4 := Lib.hid hb4
  clear hb4
  go_wp2_with fail
  refine bodyPost_ret (v := .tuple #[.int .i64 c, .int .i64 0]) (by simp [results, Tryd.results30, go_sem]) rfl ?_
  exact ⟨rfl, HUB.out.mt.on HB4.out, turn_belowU HUB.out.turn HB4.out⟩

set_option maxRecDepth 100000 in
set_option maxHeartbeats 8000000 in
/-- Of different names. -/
theorem c_leaf3 (bs : List (Int × Tm)) (ab : Option Addr) (cb mb n n2 : Nat) (x y x' y' : Tm) (ax : Option Addr) (cx : Nat) (ay : Option Addr) (cy : Nat) (w : World) (hlen : bs.length ≤ 1000000) (hb : BdsAt w (Old mb w) ab bs) (hm : MtAt w mb n) (hn : n ≤ 2000) (hx : TmP w (Old mb w) x ax cx) (hy : TmP w (Old mb w) y ay cy) (hbo : bothL bs n x y = (x', y', 0, n2)) (hxs : x'.size ≤ 1000000) (kx : x'.kind = 4) (ky : y'.kind = 4) (ka : x'.name ≠ y'.name) :
    Calls Tryd.prog 30 #[.pointer (some ⟨mb, 0, none⟩), .slice ab bs.length cb, tmv x ax cx, tmv y ay cy] w (CmpOut mb w (x'.cmp y', 0, n2)) := by
  have hxk : (x'.kind != 4) = false := by simp [kx]
  have hyk : (y'.kind != 4) = false := by simp [ky]
  have ha : (x'.name.toList == y'.name.toList) = false := beq_eq_false_iff_ne.2 fun e => ka (bytes_ext e)
  clear kx ky ka
  have hml := hm.lt
  have HBD := Lib.hid hb
  have HBO := Lib.hid (fun W (h : Turn (fun j => j = mb) w W) (hm : MtAt W mb n) => r10_both bs ab cb mb n x y ax cx ay cy W (Old mb w) hlen (fun b hb => by have h1 := h.size; exact ⟨Nat.lt_of_lt_of_le hb.1 h1, hb.2⟩) (hb.turn h fun b hb => hb.2) hm hn (hx.turnS h fun b hb => hb.2) (hy.turnS h fun b hb => hb.2))
  have HBX := Lib.hid (meet_boxes hm (.cells #[.int .i64 x.kind, .string x.name, .int .i64 x.n, .slice ax x.args.length cx] 25) (.cells #[.int .i64 y.kind, .string y.name, .int .i64 y.n, .slice ay y.args.length cy] 25))
  clear hb hm hx hy
  rw [hbo] at HBO
  clear hbo
  unfold BothOut at HBO
  unfold tmv at HBO
  dsimp only at HBO
  rw [show (tmv x ax cx) = .agg #[.int .i64 x.kind, .string x.name, .int .i64 x.n, .slice ax x.args.length cx] from rfl, show (tmv y ay cy) = .agg #[.int .i64 y.kind, .string y.name, .int .i64 y.n, .slice ay y.args.length cy] from rfl]
  go_enter Tryd.func30, Tryd.ntmps30
  go_wp2_with fail
  generalize hw0 : (w.alloc _).alloc _ = w0 at *
  obtain ⟨q0, q1, t0, m0, s0⟩ := HBX.out
  refine (HBO.out w0 t0 m0).mono ?_; rintro e w1 ⟨a1, d1, a2, d2, rfl, hx1, hy1, m1, t1⟩
  have HU := Lib.hid (fun X hX => UnB.start (x' := x') (y' := y') hml hw0.symm hx1 hy1 m1 t1 X hX)
  obtain ⟨z0, z1, z2, z3, e0, e1, e2, e3⟩ := cellsT ((t1.block w.heap.size (by omega) (by omega)).trans q0)
  obtain ⟨u0, u1, u2, u3, f0, f1, f2, f3⟩ := cellsT ((t1.block (w.heap.size + 1) (by omega) (by omega)).trans q1)
  clear q0 q1 t0 m0 s0 hw0 hx1 hy1 m1 t1 HBX HBO
  go_upto_region 2 with fail
  generalize hX : World.setCell _ _ _ = w3
  have HUB := Lib.hid (HU.out w3 hX.symm)
  clear z0 z1 z2 z3 e0 e1 e2 e3 u0 u1 u2 u3 f0 f1 f2 f3 hX HU
  obtain ⟨c0, c1, c2, c3, e0, e1, e2, e3⟩ := cellsT HUB.out.bx
  obtain ⟨d0, g1, g2, g3, f0, f1, f2, f3⟩ := cellsT HUB.out.bz
  have HCP := Lib.hid (fun W (hx : TmIn W x' a1 d1) (hy : TmIn W y' a2 d2) => ref_Compare x'.size x' y' a1 a2 d1 d2 W (Nat.le_refl _) hxs hx hy)
  unfold tmv at HCP
  generalize x'.cmp y' = c at *
  go_wp2_with fail
  refine (HCP.out w3 HUB.out.px.toIn HUB.out.py.toIn).mono ?_; rintro e w4 ⟨rfl, hb4⟩
  have HB4 := Lib.hid hb4
  clear hb4
  go_wp2_with fail
  refine bodyPost_ret (v := .tuple #[.int .i64 c, .int .i64 0]) (by simp [results, Tryd.results30, go_sem]) rfl ?_
  exact ⟨rfl, HUB.out.mt.on HB4.out, turn_belowU HUB.out.turn HB4.out⟩

set_option maxRecDepth 100000 in
set_option maxHeartbeats 8000000 in
/-- With different numbers of arguments. -/
theorem c_leaf4 (bs : List (Int × Tm)) (ab : Option Addr) (cb mb n n2 : Nat) (x y x' y' : Tm) (ax : Option Addr) (cx : Nat) (ay : Option Addr) (cy : Nat) (w : World) (hlen : bs.length ≤ 1000000) (hb : BdsAt w (Old mb w) ab bs) (hm : MtAt w mb n) (hn : n ≤ 2000) (hx : TmP w (Old mb w) x ax cx) (hy : TmP w (Old mb w) y ay cy) (hbo : bothL bs n x y = (x', y', 0, n2)) (hxs : x'.size ≤ 1000000) (kx : x'.kind = 4) (ky : y'.kind = 4) (ka : x'.name = y'.name) (kl : x'.args.length ≠ y'.args.length) :
    Calls Tryd.prog 30 #[.pointer (some ⟨mb, 0, none⟩), .slice ab bs.length cb, tmv x ax cx, tmv y ay cy] w (CmpOut mb w (x'.cmp y', 0, n2)) := by
  have hxk : (x'.kind != 4) = false := by simp [kx]
  have hyk : (y'.kind != 4) = false := by simp [ky]
  have ha : (x'.name.toList == y'.name.toList) = true := by rw [ka]; exact beq_self_eq_true _
  have hll : ((x'.args.length : Int) != (y'.args.length : Int)) = true := bne_iff_ne.2 (by omega)
  clear kx ky ka kl
  have hml := hm.lt
  have HBD := Lib.hid hb
  have HBO := Lib.hid (fun W (h : Turn (fun j => j = mb) w W) (hm : MtAt W mb n) => r10_both bs ab cb mb n x y ax cx ay cy W (Old mb w) hlen (fun b hb => by have h1 := h.size; exact ⟨Nat.lt_of_lt_of_le hb.1 h1, hb.2⟩) (hb.turn h fun b hb => hb.2) hm hn (hx.turnS h fun b hb => hb.2) (hy.turnS h fun b hb => hb.2))
  have HBX := Lib.hid (meet_boxes hm (.cells #[.int .i64 x.kind, .string x.name, .int .i64 x.n, .slice ax x.args.length cx] 25) (.cells #[.int .i64 y.kind, .string y.name, .int .i64 y.n, .slice ay y.args.length cy] 25))
  clear hb hm hx hy
  rw [hbo] at HBO
  clear hbo
  unfold BothOut at HBO
  unfold tmv at HBO
  dsimp only at HBO
  rw [show (tmv x ax cx) = .agg #[.int .i64 x.kind, .string x.name, .int .i64 x.n, .slice ax x.args.length cx] from rfl, show (tmv y ay cy) = .agg #[.int .i64 y.kind, .string y.name, .int .i64 y.n, .slice ay y.args.length cy] from rfl]
  go_enter Tryd.func30, Tryd.ntmps30
  go_wp2_with fail
  generalize hw0 : (w.alloc _).alloc _ = w0 at *
  obtain ⟨q0, q1, t0, m0, s0⟩ := HBX.out
  refine (HBO.out w0 t0 m0).mono ?_; rintro e w1 ⟨a1, d1, a2, d2, rfl, hx1, hy1, m1, t1⟩
  have HU := Lib.hid (fun X hX => UnB.start (x' := x') (y' := y') hml hw0.symm hx1 hy1 m1 t1 X hX)
  obtain ⟨z0, z1, z2, z3, e0, e1, e2, e3⟩ := cellsT ((t1.block w.heap.size (by omega) (by omega)).trans q0)
  obtain ⟨u0, u1, u2, u3, f0, f1, f2, f3⟩ := cellsT ((t1.block (w.heap.size + 1) (by omega) (by omega)).trans q1)
  clear q0 q1 t0 m0 s0 hw0 hx1 hy1 m1 t1 HBX HBO
  go_upto_region 2 with fail
  generalize hX : World.setCell _ _ _ = w3
  have HUB := Lib.hid (HU.out w3 hX.symm)
  clear z0 z1 z2 z3 e0 e1 e2 e3 u0 u1 u2 u3 f0 f1 f2 f3 hX HU
  obtain ⟨c0, c1, c2, c3, e0, e1, e2, e3⟩ := cellsT HUB.out.bx
  obtain ⟨d0, g1, g2, g3, f0, f1, f2, f3⟩ := cellsT HUB.out.bz
  have HCP := Lib.hid (fun W (hx : TmIn W x' a1 d1) (hy : TmIn W y' a2 d2) => ref_Compare x'.size x' y' a1 a2 d1 d2 W (Nat.le_refl _) hxs hx hy)
  unfold tmv at HCP
  generalize x'.cmp y' = c at *
  go_wp2_with fail
  refine (HCP.out w3 HUB.out.px.toIn HUB.out.py.toIn).mono ?_; rintro e w4 ⟨rfl, hb4⟩
  have HB4 := Lib.hid hb4
  clear hb4
  go_wp2_with fail
  refine bodyPost_ret (v := .tuple #[.int .i64 c, .int .i64 0]) (by simp [results, Tryd.results30, go_sem]) rfl ?_
  exact ⟨rfl, HUB.out.mt.on HB4.out, turn_belowU HUB.out.turn HB4.out⟩

set_option maxRecDepth 100000 in
set_option maxHeartbeats 8000000 in
/-- Argument by argument. -/
theorem c_args (bs : List (Int × Tm)) (ab : Option Addr) (cb mb n n2 : Nat) (x y x' y' : Tm) (ax : Option Addr) (cx : Nat) (ay : Option Addr) (cy : Nat) (w : World) (hlen : bs.length ≤ 1000000) (hb : BdsAt w (Old mb w) ab bs) (hm : MtAt w mb n) (hn : n ≤ 2000) (hx : TmP w (Old mb w) x ax cx) (hy : TmP w (Old mb w) y ay cy) (hbo : bothL bs n x y = (x', y', 0, n2)) (r : Int × Int × Nat) (hn2 : n2 ≤ 2000) (hxs : x'.size ≤ 1000000) (hys : y'.size ≤ 1000000) (kx : x'.kind = 4) (ky : y'.kind = 4) (ka : x'.name = y'.name) (kl : x'.args.length = y'.args.length) (hr : cmpr bs n2 (List.zip x'.args y'.args) = r)
    (IH : ∀ (n : Nat) (p q : Tm) (pa : Option Addr) (pc : Nat) (qa : Option Addr) (qc : Nat) (W : World), n2 ≤ n → n ≤ 2000 → p.size ≤ 1000000 → q.size ≤ 1000000 → BdsAt W (Old mb W) ab bs → MtAt W mb n → TmP W (Old mb W) p pa pc → TmP W (Old mb W) q qa qc → Calls Tryd.prog 30 #[.pointer (some ⟨mb, 0, none⟩), .slice ab bs.length cb, tmv p pa pc, tmv q qa qc] W (CmpOut mb W (cmpr bs n [(p, q)]))) :
    Calls Tryd.prog 30 #[.pointer (some ⟨mb, 0, none⟩), .slice ab bs.length cb, tmv x ax cx, tmv y ay cy] w (CmpOut mb w r) := by
  have hxk : (x'.kind != 4) = false := by simp [kx]
  have hyk : (y'.kind != 4) = false := by simp [ky]
  clear kx ky
  have ha : (x'.name.toList == y'.name.toList) = true := by rw [ka]; exact beq_self_eq_true _
  have hll : ((x'.args.length : Int) != (y'.args.length : Int)) = false := by simp [kl]
  have HR := Lib.hid hr
  have HIH := Lib.hid IH
  have HKL := Lib.hid kl
  have HXS := Lib.hid (And.intro hxs hys)
  have HXZ := Lib.hid x'.size_eq
  have HYZ := Lib.hid y'.size_eq
  clear ka kl hr IH hxs hys
  have hml := hm.lt
  have HBD := Lib.hid hb
  have HBO := Lib.hid (fun W (h : Turn (fun j => j = mb) w W) (hm : MtAt W mb n) => r10_both bs ab cb mb n x y ax cx ay cy W (Old mb w) hlen (fun b hb => by have h1 := h.size; exact ⟨Nat.lt_of_lt_of_le hb.1 h1, hb.2⟩) (hb.turn h fun b hb => hb.2) hm hn (hx.turnS h fun b hb => hb.2) (hy.turnS h fun b hb => hb.2))
  have HBX := Lib.hid (meet_boxes hm (.cells #[.int .i64 x.kind, .string x.name, .int .i64 x.n, .slice ax x.args.length cx] 25) (.cells #[.int .i64 y.kind, .string y.name, .int .i64 y.n, .slice ay y.args.length cy] 25))
  clear hb hm hx hy
  rw [hbo] at HBO
  clear hbo
  unfold BothOut at HBO
  unfold tmv at HBO
  dsimp only at HBO
  rw [show (tmv x ax cx) = .agg #[.int .i64 x.kind, .string x.name, .int .i64 x.n, .slice ax x.args.length cx] from rfl, show (tmv y ay cy) = .agg #[.int .i64 y.kind, .string y.name, .int .i64 y.n, .slice ay y.args.length cy] from rfl]
  go_enter Tryd.func30, Tryd.ntmps30
  go_wp2_with fail
  generalize hw0 : (w.alloc _).alloc _ = w0 at *
  obtain ⟨q0, q1, t0, m0, s0⟩ := HBX.out
  refine (HBO.out w0 t0 m0).mono ?_; rintro e w1 ⟨a1, d1, a2, d2, rfl, hx1, hy1, m1, t1⟩
  have HU := Lib.hid (fun X hX => UnB.start (x' := x') (y' := y') hml hw0.symm hx1 hy1 m1 t1 X hX)
  obtain ⟨z0, z1, z2, z3, e0, e1, e2, e3⟩ := cellsT ((t1.block w.heap.size (by omega) (by omega)).trans q0)
  obtain ⟨u0, u1, u2, u3, f0, f1, f2, f3⟩ := cellsT ((t1.block (w.heap.size + 1) (by omega) (by omega)).trans q1)
  clear q0 q1 t0 m0 s0 hw0 hx1 hy1 m1 t1 HBX HBO
  go_upto_region 2 with fail
  generalize hX : World.setCell _ _ _ = w3
  have HUB := Lib.hid (HU.out w3 hX.symm)
  clear z0 z1 z2 z3 e0 e1 e2 e3 u0 u1 u2 u3 f0 f1 f2 f3 hX HU
  obtain ⟨c0, c1, c2, c3, e0, e1, e2, e3⟩ := cellsT HUB.out.bx
  obtain ⟨d0, g1, g2, g3, f0, f1, f2, f3⟩ := cellsT HUB.out.bz
  have HN2 := Lib.hid hn2
  go_wp2_with fail
  have HI0 : Hid (UnB mb n2 w x' y' a1 d1 a2 d2 w3 ∧ cmpr bs n2 ((List.zip x'.args y'.args).drop 0) = r ∧ n2 ≤ 2000) := Lib.hid ⟨HUB.out, HR.out, hn2⟩
  clear c0 c1 c2 c3 e0 e1 e2 e3 d0 g1 g2 g3 f0 f1 f2 f3
  go_loopw [56] (fun iv wr => ∃ (k m : Nat), k ≤ x'.args.length ∧ iv = .int .i64 k ∧ Hid (n2 ≤ m) ∧ Hid (UnB mb m w x' y' a1 d1 a2 d2 wr ∧ cmpr bs m ((List.zip x'.args y'.args).drop k) = r ∧ m ≤ 2000)) (fun iv _ => x'.args.length - (intOf iv).toNat)
  case atStart => exact ⟨0, n2, Nat.zero_le _, rfl, Lib.hid (Nat.le_refl _), HI0⟩
  case round =>
    obtain ⟨k, m, hk, rfl, HM, HI⟩ := hrel
    obtain ⟨c0, c1, c2, c3, _⟩ := cellsT HI.out.1.bx
    obtain ⟨d0, g1, g2, g3, _⟩ := cellsT HI.out.1.bz
    by_cases hlt : k < x'.args.length
    · have hkl := HKL.out
      have hxl : x'.args.length ≤ 9223372036854775807 := by have h1 := HI.out.1.px.len; have h2 := HI.out.1.px.cap; unfold maxLen at h2; omega
      obtain ⟨b1, o1, rfl⟩ := HI.out.1.px.args.addrU (by omega)
      obtain ⟨b2, o2, rfl⟩ := HI.out.1.py.args.addrU (by omega)
      obtain ⟨pa, pc, hb1, x0, x1, x2, x3, hp⟩ := HI.out.1.px.args.getU k hlt
      obtain ⟨qa, qc, hb2, y0, y1, y2, y3, hq⟩ := HI.out.1.py.args.getU k (by omega)
      have hans := HI.out.2.1
      have hzd := zip_drop (l := x'.args) (m := y'.args) hlt (by omega)
      rw [hzd] at hans
      clear hzd
      have hws := HI.out.1.turn.size
      have hps : x'.args[k].size ≤ 1000000 := by have h1 := Tm.mem_size (List.getElem_mem hlt); have h2 := HXS.out.1; have h3 := HXZ.out; omega
      have hqs : (y'.args[k]'(by omega)).size ≤ 1000000 := by have h1 := Tm.mem_size (List.getElem_mem (l := y'.args) (n := k) (by omega)); have h2 := HXS.out.2; have h3 := HYZ.out; omega
      have HIH2 := Lib.hid (HIH.out m x'.args[k] (y'.args[k]'(by omega)) pa pc qa qc wr.drew HM.out HI.out.2.2 hps hqs ((HBD.out.turn HI.out.1.turn fun b hb => hb.2).kept (fun _ _ _ => rfl) fun b hb _ => hb.on hws) HI.out.1.mt (hp.kept (fun _ _ _ => rfl) fun b hb _ => hb.on hws) (hq.kept (fun _ _ _ => rfl) fun b hb _ => hb.on hws))
      have hk0 : (0 : Int) ≤ (k : Int) := by omega
      have hk1 : (k : Int) < (x'.args.length : Int) := by omega
      have hk2 : (k : Int) < (y'.args.length : Int) := by omega
      have hmle := HI.out.2.2
      clear hps hqs
      generalize (y'.args[k]'(by omega)) = q at *
      generalize x'.args[k] = p at *
      have hgood := fun (n' : Nat) (h : cmpr bs m [(p, q)] = (0, 0, n')) => (cmpr_one_good (L := (List.zip x'.args y'.args).drop (k + 1)) hmle h).symm.trans hans
      have hbad := fun (h : ¬ ((cmpr bs m [(p, q)]).1 = 0 ∧ (cmpr bs m [(p, q)]).2.1 = 0)) => hans.symm.trans (cmpr_one_bad (L := (List.zip x'.args y'.args).drop (k + 1)) hmle rfl h)
      have hout := cmpr_out bs _ m [(p, q)] (Nat.le_refl _) hmle
      have hS0 : wr.drew.cell? ⟨w.heap.size, 3, none⟩ = some (.slice (some ⟨b1, o1, none⟩) x'.args.length d1) ∧ wr.drew.cell? ⟨b1, o1 + k * 4, none⟩ = some (.int .i64 p.kind) ∧ wr.drew.cell? ⟨b1, o1 + k * 4 + 1, none⟩ = some (.string p.name) ∧ wr.drew.cell? ⟨b1, o1 + k * 4 + 2, none⟩ = some (.int .i64 p.n) ∧ wr.drew.cell? ⟨b1, o1 + k * 4 + 3, none⟩ = some (.slice pa p.args.length pc) ∧ wr.drew.cell? ⟨w.heap.size + 1, 3, none⟩ = some (.slice (some ⟨b2, o2, none⟩) y'.args.length d2) ∧ wr.drew.cell? ⟨b2, o2 + k * 4, none⟩ = some (.int .i64 q.kind) ∧ wr.drew.cell? ⟨b2, o2 + k * 4 + 1, none⟩ = some (.string q.name) ∧ wr.drew.cell? ⟨b2, o2 + k * 4 + 2, none⟩ = some (.int .i64 q.n) ∧ wr.drew.cell? ⟨b2, o2 + k * 4 + 3, none⟩ = some (.slice qa q.args.length qc) := ⟨c3, x0, x1, x2, x3, g3, y0, y1, y2, y3⟩
      have HS1 : Hid (∀ W, Turn (fun j => j = mb) wr.drew W → W.cell? ⟨w.heap.size, 3, none⟩ = some (.slice (some ⟨b1, o1, none⟩) x'.args.length d1) ∧ W.cell? ⟨b1, o1 + k * 4, none⟩ = some (.int .i64 p.kind) ∧ W.cell? ⟨b1, o1 + k * 4 + 1, none⟩ = some (.string p.name) ∧ W.cell? ⟨b1, o1 + k * 4 + 2, none⟩ = some (.int .i64 p.n) ∧ W.cell? ⟨b1, o1 + k * 4 + 3, none⟩ = some (.slice pa p.args.length pc) ∧ W.cell? ⟨w.heap.size + 1, 3, none⟩ = some (.slice (some ⟨b2, o2, none⟩) y'.args.length d2) ∧ W.cell? ⟨b2, o2 + k * 4, none⟩ = some (.int .i64 q.kind) ∧ W.cell? ⟨b2, o2 + k * 4 + 1, none⟩ = some (.string q.name) ∧ W.cell? ⟨b2, o2 + k * 4 + 2, none⟩ = some (.int .i64 q.n) ∧ W.cell? ⟨b2, o2 + k * 4 + 3, none⟩ = some (.slice qa q.args.length qc)) := Lib.hid (fun W t => by
        have l1 := (Array.getElem?_eq_some_iff.1 HI.out.1.bx).1
        have l2 := (Array.getElem?_eq_some_iff.1 HI.out.1.bz).1
        have k1 : ∀ b o : Nat, b < wr.heap.size → b ≠ mb → W.cell? ⟨b, o, none⟩ = wr.cell? ⟨b, o, none⟩ := fun b o h1 h2 => World.cell?_of_block (a := ⟨b, o, none⟩) (t.block b h1 h2)
        have h1 := (hb1.on hws)
        have h2 := (hb2.on hws)
        exact ⟨(k1 _ _ l1 (by omega)).trans c3, (k1 _ _ h1.1 h1.2).trans x0, (k1 _ _ h1.1 h1.2).trans x1, (k1 _ _ h1.1 h1.2).trans x2, (k1 _ _ h1.1 h1.2).trans x3, (k1 _ _ l2 (by omega)).trans g3, (k1 _ _ h2.1 h2.2).trans y0, (k1 _ _ h2.1 h2.2).trans y1, (k1 _ _ h2.1 h2.2).trans y2, (k1 _ _ h2.1 h2.2).trans y3⟩)
      unfold tmv at HIH2
      clear hkl
      go_upto_region 9 with fail
      generalize cmpr bs m [(p, q)] = rc at *
      obtain ⟨cv, er, n'⟩ := rc
      unfold CmpOut at HIH2
      dsimp only at HIH2 hgood hbad hout
      have HGOOD := Lib.hid hgood
      have HBADR := Lib.hid hbad
      have HOUT := Lib.hid hout
      clear hgood hbad hout hans c0 c1 c2 c3 d0 g1 g2 g3 x0 x1 x2 x3 y0 y1 y2 y3
      go_region_held3 (fun W => W.cell? ⟨w.heap.size, 3, none⟩ = some (.slice (some ⟨b1, o1, none⟩) x'.args.length d1) ∧ W.cell? ⟨b1, o1 + k * 4, none⟩ = some (.int .i64 p.kind) ∧ W.cell? ⟨b1, o1 + k * 4 + 1, none⟩ = some (.string p.name) ∧ W.cell? ⟨b1, o1 + k * 4 + 2, none⟩ = some (.int .i64 p.n) ∧ W.cell? ⟨b1, o1 + k * 4 + 3, none⟩ = some (.slice pa p.args.length pc) ∧ W.cell? ⟨w.heap.size + 1, 3, none⟩ = some (.slice (some ⟨b2, o2, none⟩) y'.args.length d2) ∧ W.cell? ⟨b2, o2 + k * 4, none⟩ = some (.int .i64 q.kind) ∧ W.cell? ⟨b2, o2 + k * 4 + 1, none⟩ = some (.string q.name) ∧ W.cell? ⟨b2, o2 + k * 4 + 2, none⟩ = some (.int .i64 q.n) ∧ W.cell? ⟨b2, o2 + k * 4 + 3, none⟩ = some (.slice qa q.args.length qc))
        (first | with_reducible exact s4 | with_reducible exact hS0)
        (first | (go_at_call 30; (with_reducible refine HIH2.out.mono ?_); rintro e w4 ⟨rfl, hm4, ht4⟩; have s4 := HS1.out _ ht4; have HU4 := Lib.hid (HI.out.1.drew.next hml ht4 hm4); clear hm4 ht4))
      by_cases her : er = 0
      · by_cases hcv : cv = 0
        · have h1 : (er != 0) = false := by rw [her]; rfl
          have h2 : (cv != 0) = false := by rw [hcv]; rfl
          have HN' : Hid (n' ≤ 2000) := Lib.hid (by
            rcases HOUT.out with ⟨_, _, h⟩ | h
            · exact h
            · injection h with _ h; injection h with h _; rw [her] at h; cases h)
          have HNM : Hid (m ≤ n') := Lib.hid (by
            rcases HOUT.out with ⟨_, h, _⟩ | h
            · exact h
            · injection h with _ h; injection h with h _; rw [her] at h; cases h)
          go_wp2_with fail
          go_roundw
          case rel => exact ⟨k + 1, n', by omega, by go_num, Lib.hid (Nat.le_trans HM.out HNM.out), Lib.hid ⟨HU4.out, HGOOD.out n' (by rw [her, hcv]), HN'.out⟩⟩
          case measure => simp [intOf]; omega
        · have h1 : (er != 0) = false := by rw [her]; rfl
          have h2 : (cv != 0) = true := bne_iff_ne.2 hcv
          have HG := Lib.hid (HBADR.out fun h => hcv h.1)
          clear her hcv
          go_wp2_with fail
          refine bodyPost_ret (v := .tuple #[.int .i64 cv, .int .i64 er]) (by simp [results, Tryd.results30, go_sem]) rfl ?_
          rw [HG.out]
          exact ⟨rfl, HU4.out.mt, HU4.out.turn⟩
      · have h1 : (er != 0) = true := bne_iff_ne.2 her
        have HG := Lib.hid (HBADR.out fun h => her h.2)
        clear her
        go_wp2_with fail
        refine bodyPost_ret (v := .tuple #[.int .i64 cv, .int .i64 er]) (by simp [results, Tryd.results30, go_sem]) rfl ?_
        rw [HG.out]
        exact ⟨rfl, HU4.out.mt, HU4.out.turn⟩
    · obtain rfl : k = x'.args.length := by omega
      have HRR : Hid (r = (0, 0, m)) := Lib.hid (by
        have h := HI.out.2.1
        have hkl := HKL.out
        rw [List.drop_of_length_le (by rw [List.length_zip]; omega), cmpr_nil bs m HI.out.2.2] at h
        exact h.symm)
      go_wp2_with fail
      refine bodyPost_ret (v := .tuple #[.int .i64 0, .int .i64 0]) (by simp [results, Tryd.results30, go_sem]) rfl ?_
      rw [HRR.out]
      exact ⟨rfl, HI.out.1.mt, HI.out.1.turn⟩

/-- The document's own compare compares as the machine of pairs does. -/
theorem r10_compare (bs : List (Int × Tm)) (ab : Option Addr) (cb mb : Nat) (hlen : bs.length ≤ 1000000) (hsz : ∀ b ∈ bs, b.2.size ≤ 1000000) : ∀ (m : Nat) (n : Nat) (x y : Tm) (ax : Option Addr) (cx : Nat) (ay : Option Addr) (cy : Nat) (w : World), 2002 - n ≤ m → n ≤ 2000 → x.size ≤ 1000000 → y.size ≤ 1000000 →
    BdsAt w (Old mb w) ab bs → MtAt w mb n → TmP w (Old mb w) x ax cx → TmP w (Old mb w) y ay cy →
    Calls Tryd.prog 30 #[.pointer (some ⟨mb, 0, none⟩), .slice ab bs.length cb, tmv x ax cx, tmv y ay cy] w (CmpOut mb w (cmpr bs n [(x, y)]))
  | 0, n, _, _, _, _, _, _, _, hm, hn, _, _, _, _, _, _ => by omega
  | m + 1, n, x, y, ax, cx, ay, cy, w, hm, hn, hxs, hys, hb, hmt, hx, hy => by
    rcases pair_ways bs n x y hn with ⟨x', y', n1, n2, a1, a2, h1, h2, h3⟩ | ⟨hno, h⟩
    · have w1 := meet_wlk (bs := bs) (n := n) (t := x) (by rw [a1])
      have w2 := meet_wlk (bs := bs) (n := n1) (t := y) (by rw [a2])
      rw [a1] at w1
      rw [a2] at w2
      dsimp only at w1 w2
      have hx' : x'.size ≤ 1000000 := w1.keeps (Φ := fun t => t.size ≤ 1000000) hsz hxs
      have hy' : y'.size ≤ 1000000 := w2.keeps (Φ := fun t => t.size ≤ 1000000) hsz hys
      have hbo : bothL bs n x y = (x', y', 0, n2) := by
        unfold bothL
        rw [a1]
        dsimp only
        rw [if_neg (by nofun), a2]
      rw [cmpr_met hn a1 a2]
      have hleaf : leafP x' y' → cmpS (cmpr bs) x' y' n2 [] = (x'.cmp y', 0, n2) := fun hl => by
        unfold cmpS
        rw [if_pos hl]
        by_cases hc : x'.cmp y' ≠ 0
        · rw [if_pos hc]
        · rw [if_neg hc, cmpr_nil bs n2 h3]
          have : x'.cmp y' = 0 := by simpa using hc
          rw [this]
      by_cases kx : x'.kind = 4
      · by_cases ky : y'.kind = 4
        · by_cases c2 : x'.name = y'.name
          · by_cases c4 : x'.args.length = y'.args.length
            · have hnl : ¬ leafP x' y' := fun e => by rcases e with e | e | e | e <;> first | exact e kx | exact e ky | exact e c2 | exact e c4
              unfold cmpS
              rw [if_neg hnl, List.append_nil]
              exact c_args bs ab cb mb n n2 x y x' y' ax cx ay cy w hlen hb hmt hn hx hy hbo _ h3 hx' hy' kx ky c2 c4 rfl
                fun n p q pa pc qa qc W k1 k2 k3 k4 k5 k6 k7 k8 => r10_compare bs ab cb mb hlen hsz m n p q pa pc qa qc W (by omega) k2 k3 k4 k5 k6 k7 k8
            · rw [hleaf (.inr (.inr (.inr c4)))]
              exact c_leaf4 bs ab cb mb n n2 x y x' y' ax cx ay cy w hlen hb hmt hn hx hy hbo hx' kx ky c2 c4
          · rw [hleaf (.inr (.inr (.inl c2)))]
            exact c_leaf3 bs ab cb mb n n2 x y x' y' ax cx ay cy w hlen hb hmt hn hx hy hbo hx' kx ky c2
        · rw [hleaf (.inr (.inl ky))]
          exact c_leaf2 bs ab cb mb n n2 x y x' y' ax cx ay cy w hlen hb hmt hn hx hy hbo hx' kx ky
      · rw [hleaf (.inl kx)]
        exact c_leaf1 bs ab cb mb n n2 x y x' y' ax cx ay cy w hlen hb hmt hn hx hy hbo hx' kx
    · rw [(h []).2]
      have hbo : ∃ x' y', bothL bs n x y = (x', y', 140, 2001) := by
        unfold bothL
        rcases meet_out bs n x hn with ⟨h1, _, _, h4⟩ | ⟨h1, _, h3⟩
        · rcases meet_out bs (meetL bs n x).2.2 y h4 with ⟨k1, _⟩ | ⟨k1, _, k3⟩
          · rcases hno with e | e
            · exact absurd h1 e
            · exact absurd k1 e
          · rw [if_neg (by rw [h1]; nofun), k1, k3]; exact ⟨_, _, rfl⟩
        · rw [if_pos (by rw [h1]; nofun), h1, h3]; exact ⟨_, _, rfl⟩
      obtain ⟨x', y', hbo⟩ := hbo
      exact c_err bs ab cb mb n 2001 x y x' y' 140 ax cx ay cy w hlen hb hmt hn hx hy hbo (by decide)

set_option maxRecDepth 100000 in
set_option maxHeartbeats 4000000 in
/-- The document's own Compare under bindings. -/
theorem r10_Compare (bs : List (Int × Tm)) (ab : Option Addr) (cb : Nat) (x y : Tm) (ax : Option Addr) (cx : Nat) (ay : Option Addr) (cy : Nat) (w : World) (hlen : bs.length ≤ 1000000) (hsz : ∀ b ∈ bs, b.2.size ≤ 1000000) (hxs : x.size ≤ 1000000) (hys : y.size ≤ 1000000) (hb : BdsAt w (fun b => b < w.heap.size) ab bs) (hx : TmIn w x ax cx) (hy : TmIn w y ay cy) :
    Calls Tryd.prog 12 #[.slice ab bs.length cb, tmv x ax cx, tmv y ay cy] w fun e w' => e = .returned (.tuple #[.int .i64 (cmpr bs 0 [(x, y)]).1, .int .i64 (cmpr bs 0 [(x, y)]).2.1]) ∧ Below w.heap.size w w' := by
  have HU := Lib.hid (fun W (h : Below w.heap.size w W) (hm : MtAt W (w.heap.size + 2) 0) => r10_compare bs ab cb (w.heap.size + 2) hlen hsz _ 0 x y ax cx ay cy W (Nat.le_refl _) (Nat.zero_le _) hxs hys (hb.kept (w' := W) (Q := Old (w.heap.size + 2) W) (fun b hb _ => h.block b hb) fun b hb _ => ⟨Nat.lt_of_lt_of_le hb h.size, by omega⟩) hm (hx.inP.kept (fun b hb _ => h.block b hb) fun b hb _ => ⟨Nat.lt_of_lt_of_le hb h.size, by omega⟩) (hy.inP.kept (fun b hb _ => h.block b hb) fun b hb _ => ⟨Nat.lt_of_lt_of_le hb h.size, by omega⟩))
  clear hb hx hy hxs hys hsz
  generalize cmpr bs 0 [(x, y)] = r at *
  obtain ⟨c, er, n⟩ := r
  unfold CmpOut at HU
  unfold tmv at *
  dsimp only at HU ⊢
  have HB0 := Lib.hid ((((Below.refl w.heap.size w).alloc (Nat.le_refl _) (.cells #[.int .i64 x.kind, .string x.name, .int .i64 x.n, .slice ax x.args.length cx] 25)).alloc (by simp) (.cells #[.int .i64 y.kind, .string y.name, .int .i64 y.n, .slice ay y.args.length cy] 25)).alloc (by simp <;> omega) (.cells #[.int .i64 0] 59))
  have HM0 := Lib.hid (alloc_new ((w.alloc (.cells #[.int .i64 x.kind, .string x.name, .int .i64 x.n, .slice ax x.args.length cx] 25)).alloc (.cells #[.int .i64 y.kind, .string y.name, .int .i64 y.n, .slice ay y.args.length cy] 25)) (.cells #[.int .i64 0] 59))
  go_enter Tryd.func12, Tryd.ntmps12
  go_wp2_with fail
  generalize hw0 : ((w.alloc _).alloc _).alloc _ = w0 at *
  have hm0 := HM0.out
  simp only [World.size_alloc] at hm0
  refine (HU.out w0 HB0.out hm0).mono ?_; rintro e w1 ⟨rfl, _, h5⟩
  have hz := (Array.getElem?_eq_some_iff.1 hm0).1
  have HR := Lib.hid (below_turnU HB0.out h5 (fun j e => by omega) HB0.out.size)
  clear h5 hm0 HM0 hw0
  go_wp2_with fail
  refine bodyPost_ret (v := .tuple #[.int .i64 c, .int .i64 er]) (by simp [results, Tryd.results12, go_sem]) rfl ?_
  exact ⟨rfl, HR.out⟩
end Go.Proofs.YtlpmofmhcnclhaaDoor
