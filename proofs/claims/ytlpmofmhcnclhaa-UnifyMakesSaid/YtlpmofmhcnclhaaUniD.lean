/-
  The ways of the document's own unify: what comes of two terms that were met.
-/
import Derived.Test.YtlpmofmhcnclhaaUniB
import Derived.Test.YtlpmofmhcnclhaaUniPl
import Derived.Test.YtlpmofmhcnclhaaSubW
import Derived.Test.YtlpmofmhcnclhaaSubU
import Derived.Deep.DeepCutAuto
namespace Go.Proofs.Ytlpmofmhcnclhaa
open Go.RowKit

theorem bytes_ext {a b : ByteArray} (h : a.toList = b.toList) : a = b := by
  rw [Lib.toList_data, Lib.toList_data] at h
  exact ByteArray.ext (Array.toList_inj.mp h)
/-- The blocks that are there, but the meter. -/
def Old (mb : Nat) (w : World) (b : Nat) : Prop := b < w.heap.size ∧ b ≠ mb
theorem Old.on {mb : Nat} {w w' : World} {b : Nat} (h : Old mb w b) (hs : w.heap.size ≤ w'.heap.size) : Old mb w' b := ⟨Nat.lt_of_lt_of_le h.1 hs, h.2⟩
theorem TArgsP.getU {w : World} {P : Nat → Prop} {b o : Nat} {ts : List Tm} (h : TArgsP w P (some ⟨b, o, none⟩) ts) (i : Nat) (hi : i < ts.length) :
    ∃ ad cap, P b ∧ w.cell? ⟨b, o + i * 4, none⟩ = some (.int .i64 (ts[i]'hi).kind) ∧ w.cell? ⟨b, o + i * 4 + 1, none⟩ = some (.string (ts[i]'hi).name) ∧ w.cell? ⟨b, o + i * 4 + 2, none⟩ = some (.int .i64 (ts[i]'hi).n) ∧
      w.cell? ⟨b, o + i * 4 + 3, none⟩ = some (.slice ad (ts[i]'hi).args.length cap) ∧ TmP w P (ts[i]'hi) ad cap := by
  induction i generalizing o ts with
  | zero =>
    rw [Nat.zero_mul, Nat.add_zero]
    cases h with
    | nil => cases hi
    | cons _ _ k n nm l ts ad cap hp c0 c1 c2 c3 hk hn hm hl hc ha _ => exact ⟨ad, cap, hp, c0, c1, c2, c3, ⟨hk, hn, hm, hl, hc, ha⟩⟩
  | succ i ih =>
    cases h with
    | nil => cases hi
    | cons _ _ k n nm l ts ad cap hp c0 c1 c2 c3 hk hn hm hl hc ha hr =>
      have h9 := ih hr (by simpa using hi)
      rw [show o + (i + 1) * 4 = o + 4 + i * 4 by omega]
      exact h9
theorem TArgsP.addrU {w : World} {P : Nat → Prop} {ad : Option Addr} {ts : List Tm} (h : TArgsP w P ad ts) (hp : 0 < ts.length) : ∃ b o, ad = some ⟨b, o, none⟩ := by
  cases h with
  | nil => cases hp
  | cons b o => exact ⟨b, o, rfl⟩
/-- What unify leaves. -/
def UniOut (mb : Nat) (w : World) (r : Option Bds × Int × Nat) (e : Ending) (w' : World) : Prop :=
  ∃ la lc, e = .returned (.tuple #[.slice la (r.1.getD []).length lc, .bool r.1.isSome, .int .i64 r.2.1]) ∧ (r.1.getD []).length ≤ lc ∧ lc ≤ maxLen ∧ BdsAt w' (Old mb w') la (r.1.getD []) ∧ MtAt w' mb r.2.2 ∧ Turn (fun j => j = mb) w w'
/-- Both terms in their boxes. -/
structure UnB (mb n : Nat) (w : World) (x y : Tm) (a1 : Option Addr) (c1 : Nat) (a2 : Option Addr) (c2 : Nat) (W : World) : Prop where
  bx : W.heap[w.heap.size]? = some (.cells #[.int .i64 x.kind, .string x.name, .int .i64 x.n, .slice a1 x.args.length c1] 25 (0, 0))
  bz : W.heap[w.heap.size + 1]? = some (.cells #[.int .i64 y.kind, .string y.name, .int .i64 y.n, .slice a2 y.args.length c2] 25 (0, 0))
  px : TmP W (Old mb w) x a1 c1
  py : TmP W (Old mb w) y a2 c2
  mt : MtAt W mb n
  turn : Turn (fun j => j = mb) w W
theorem UnB.start {mb n : Nat} {w w0 w1 : World} {x y x' y' : Tm} {ax : Option Addr} {cx : Nat} {ay : Option Addr} {cy : Nat} {a1 : Option Addr} {c1 : Nat} {a2 : Option Addr} {c2 : Nat} (hm : mb < w.heap.size)
    (h0 : w0 = (w.alloc (.cells #[.int .i64 x.kind, .string x.name, .int .i64 x.n, .slice ax x.args.length cx] 25)).alloc (.cells #[.int .i64 y.kind, .string y.name, .int .i64 y.n, .slice ay y.args.length cy] 25))
    (hx : TmP w1 (Old mb w) x' a1 c1) (hy : TmP w1 (Old mb w) y' a2 c2) (hmt : MtAt w1 mb n) (ht : Turn (fun j => j = mb) w0 w1) (X : World)
    (hX : X = ((((((((w1.setCell ⟨w.heap.size, 0, none⟩ (.int .i64 x'.kind)).setCell ⟨w.heap.size, 1, none⟩ (.string x'.name)).setCell ⟨w.heap.size, 2, none⟩ (.int .i64 x'.n)).setCell ⟨w.heap.size, 3, none⟩ (.slice a1 x'.args.length c1)).setCell ⟨w.heap.size + 1, 0, none⟩ (.int .i64 y'.kind)).setCell ⟨w.heap.size + 1, 1, none⟩ (.string y'.name)).setCell ⟨w.heap.size + 1, 2, none⟩ (.int .i64 y'.n)).setCell ⟨w.heap.size + 1, 3, none⟩ (.slice a2 y'.args.length c2))) :
    UnB mb n w x' y' a1 c1 a2 c2 X := by
  subst hX
  have s0 : w0.heap.size = w.heap.size + 2 := by rw [h0]; simp
  have q0 : w0.heap[w.heap.size]? = some (.cells #[.int .i64 x.kind, .string x.name, .int .i64 x.n, .slice ax x.args.length cx] 25 (0, 0)) := by rw [h0]; exact (Below.heap_alloc _ _ _ (by simp)).trans (alloc_new _ _)
  have q1 : w0.heap[w.heap.size + 1]? = some (.cells #[.int .i64 y.kind, .string y.name, .int .i64 y.n, .slice ay y.args.length cy] 25 (0, 0)) := by rw [h0]; exact alloc_new2 _ _ _
  have t0 : Turn (fun j => j = mb) w w0 := by rw [h0]; exact (Turn.alloc _ _ _).trans (Turn.alloc _ _ _)
  have b0 := (ht.block w.heap.size (by omega) (by omega)).trans q0
  have b1 := (ht.block (w.heap.size + 1) (by omega) (by omega)).trans q1
  have k1 := Turn.set4 (M := fun j => w.heap.size ≤ j) (W := w1) (q := w.heap.size) (Nat.le_refl _) (.int .i64 x'.kind) (.string x'.name) (.int .i64 x'.n) (.slice a1 x'.args.length c1)
  have e0 := set4_blk b0 (.int .i64 x'.kind) (.string x'.name) (.int .i64 x'.n) (.slice a1 x'.args.length c1)
  have e1 := (set4_oth (W := w1) (q := w.heap.size) (j := w.heap.size + 1) (.int .i64 x'.kind) (.string x'.name) (.int .i64 x'.n) (.slice a1 x'.args.length c1) (by omega)).trans b1
  generalize (((w1.setCell _ _).setCell _ _).setCell _ _).setCell _ _ = w2 at *
  have k2 := Turn.set4 (M := fun j => w.heap.size ≤ j) (W := w2) (q := w.heap.size + 1) (Nat.le_succ _) (.int .i64 y'.kind) (.string y'.name) (.int .i64 y'.n) (.slice a2 y'.args.length c2)
  have k := k1.trans k2
  have o : ∀ b, Old mb w b → ¬ w.heap.size ≤ b := fun b h => Nat.not_le.2 h.1
  refine ⟨(set4_oth (W := w2) (q := w.heap.size + 1) (j := w.heap.size) _ _ _ _ (by omega)).trans e0, set4_blk e1 _ _ _ _, hx.turnS k o, hy.turnS k o, hmt.turn k (by omega), ?_⟩
  exact turn_own ((t0.trans ht).more fun j e => .inl e) k
/-- Both turned round. -/
theorem UnB.swap {mb n : Nat} {w W : World} {x y : Tm} {a1 : Option Addr} {c1 : Nat} {a2 : Option Addr} {c2 : Nat} (h : UnB mb n w x y a1 c1 a2 c2 W) (hm : mb < w.heap.size) (X : World)
    (hX : X = ((((((((W.setCell ⟨w.heap.size, 0, none⟩ (.int .i64 y.kind)).setCell ⟨w.heap.size, 1, none⟩ (.string y.name)).setCell ⟨w.heap.size, 2, none⟩ (.int .i64 y.n)).setCell ⟨w.heap.size, 3, none⟩ (.slice a2 y.args.length c2)).setCell ⟨w.heap.size + 1, 0, none⟩ (.int .i64 x.kind)).setCell ⟨w.heap.size + 1, 1, none⟩ (.string x.name)).setCell ⟨w.heap.size + 1, 2, none⟩ (.int .i64 x.n)).setCell ⟨w.heap.size + 1, 3, none⟩ (.slice a1 x.args.length c1))) :
    UnB mb n w y x a2 c2 a1 c1 X := by
  subst hX
  have k1 := Turn.set4 (M := fun j => w.heap.size ≤ j) (W := W) (q := w.heap.size) (Nat.le_refl _) (.int .i64 y.kind) (.string y.name) (.int .i64 y.n) (.slice a2 y.args.length c2)
  have e0 := set4_blk h.bx (.int .i64 y.kind) (.string y.name) (.int .i64 y.n) (.slice a2 y.args.length c2)
  have e1 := (set4_oth (W := W) (q := w.heap.size) (j := w.heap.size + 1) (.int .i64 y.kind) (.string y.name) (.int .i64 y.n) (.slice a2 y.args.length c2) (by omega)).trans h.bz
  generalize hw : (((W.setCell _ _).setCell _ _).setCell _ _).setCell _ _ = w2 at *
  have k2 := Turn.set4 (M := fun j => w.heap.size ≤ j) (W := w2) (q := w.heap.size + 1) (Nat.le_succ _) (.int .i64 x.kind) (.string x.name) (.int .i64 x.n) (.slice a1 x.args.length c1)
  have k := k1.trans k2
  have o : ∀ b, Old mb w b → ¬ w.heap.size ≤ b := fun b h => Nat.not_le.2 h.1
  refine ⟨(set4_oth (W := w2) (q := w.heap.size + 1) (j := w.heap.size) _ _ _ _ (by omega)).trans e0, set4_blk e1 _ _ _ _, h.py.turnS k o, h.px.turnS k o, h.mt.turn k (by omega), ?_⟩
  exact turn_own (h.turn.more fun j e => .inl e) k
theorem UnB.noneU {mb n : Nat} {er : Int} {w W : World} {x y : Tm} {a1 : Option Addr} {c1 : Nat} {a2 : Option Addr} {c2 : Nat} (h : UnB mb n w x y a1 c1 a2 c2 W) : UniOut mb w (Option.none, er, n) (.returned (.tuple #[.slice Option.none 0 0, .bool false, .int .i64 er])) W :=
  ⟨Option.none, 0, rfl, Nat.le_refl _, Nat.zero_le _, BdsAt.nil, h.mt, h.turn⟩
theorem UnB.as {mb n : Nat} {w W : World} {x y : Tm} {a1 : Option Addr} {c1 : Nat} {a2 : Option Addr} {c2 : Nat} (h : UnB mb n w x y a1 c1 a2 c2 W) {bs : Bds} {ab : Option Addr} {cb : Nat} (hl : bs.length ≤ cb) (hc : cb ≤ maxLen) (hb : BdsAt w (Old mb w) ab bs) : UniOut mb w (some bs, 0, n) (.returned (.tuple #[.slice ab bs.length cb, .bool true, .int .i64 0])) W :=
  ⟨ab, cb, rfl, hl, hc, hb.kept (fun b hb hl => h.turn.block b hl hb.2) fun _ hb _ => hb.on h.turn.size, h.mt, h.turn⟩
/-- A row of one's own with a binding more, as bindings. -/
theorem OwnBds.atM {M : Nat → Prop} {B : Nat} {w : World} {v : Value} {bs : List (Int × Tm)} (h : OwnBds M B w v bs) : ∃ ad cap, v = .slice ad bs.length cap ∧ bs.length ≤ cap ∧ cap ≤ maxLen ∧ BdsAt w (fun b => M b ∨ B ≤ b) ad bs := by
  obtain ⟨xs, h1, h2⟩ := h
  have h0 := h1
  obtain ⟨hl, ⟨rfl, hz⟩ | ⟨g, cap, cur, rfl, hb, hh, hn, hm, _⟩⟩ := h1
  · exact ⟨_, _, by rw [hz], by omega, Nat.zero_le _, fun k hk => by omega⟩
  · refine ⟨_, _, rfl, hn, hm, fun k hk => ?_⟩
    obtain ⟨a1, c1, ⟨hi, g1⟩, g2⟩ := h2.2 k hk
    have at5 : ∀ j, j < 5 → w.cell? ⟨g, 0 + k * 5 + j, none⟩ = (bcellsP bs[k] a1 c1)[j]? := fun j hj => by
      rw [Nat.zero_add, h0.cellAt (k * 5 + j) (by omega), g2 j hj]
    exact ⟨g, 0, a1, c1, rfl, .inr hb, hi, g1.kept (fun _ _ _ => rfl) fun b h _ => .inl h.1, at5 0 (by omega), at5 1 (by omega), at5 2 (by omega), at5 3 (by omega), at5 4 (by omega)⟩
theorem order_postM {M : Nat → Prop} {B : Nat} {w2 w8 w9 : World} {v3 v9 : Value} {news : List Value} {bs : List (Int × Tm)} {y : Int × Tm} {ad : Option Addr} {cap : Nat} (hM : ∀ b, M b → b < B) (hB : B ≤ w2.heap.size) (hb8 : Below B w2 w8) (hlt : ∀ k, v3.ownBlock = some k → B ≤ k) (hrow : BRow w8 M news bs) (hi : In64 y.1) (hp : TmP w8 M y.2 ad cap)
    (ho : w9.ownsRow B 34 5 v9 (bs.length + 1) (news ++ bcellsP y ad cap)) (hg : w8.grownBy w9 v3.ownBlock) (hat : v9.ownBlock = v3.ownBlock ∨ v9.ownBlock = some w8.heap.size) : OwnBds M B w9 v9 (bs ++ [y]) ∧ Below B w2 w9 := by
  have hne : ∀ b, M b → M b ∧ some b ≠ v3.ownBlock := fun b hb => ⟨hb, fun e => by have := hlt b e.symm; have := hM b hb; omega⟩
  refine ⟨OwnBds.grown (hrow.kept (fun _ _ _ => rfl) fun b h _ => hne b h) ho hg (hat.imp id fun h => ⟨_, h, Nat.le_refl _⟩) hi (hp.kept (fun _ _ _ => rfl) fun b h _ => hne b h), ?_⟩
  exact hb8.grown hg (by have := hb8.size; omega) hlt
/-- The bindings with one more. -/
theorem UnB.more {mb n : Nat} {w W w9 : World} {x y : Tm} {a1 : Option Addr} {c1 : Nat} {a2 : Option Addr} {c2 : Nat} (h : UnB mb n w x y a1 c1 a2 c2 W) (hm : mb < w.heap.size) {bs : Bds} {v9 : Value} (ho : OwnBds (Old mb w) W.heap.size w9 v9 bs) (hb : Below W.heap.size W w9) : UniOut mb w (some bs, 0, n) (.returned (.tuple #[v9, .bool true, .int .i64 0])) w9 := by
  obtain ⟨ad, cap, rfl, h1, h2, h3⟩ := ho.atM
  have hs := h.turn.size
  exact ⟨ad, cap, rfl, h1, h2, h3.kept (fun _ _ _ => rfl) fun b hb hl => ⟨hl, hb.elim (fun h => h.2) fun h => by omega⟩, h.mt.on hb, h.turn.trans ⟨hb.os, hb.tape, hb.output, hb.size, fun k hk _ => hb.block k hk⟩⟩

set_option maxRecDepth 100000 in
set_option maxHeartbeats 8000000 in
/-- There were too many steps. -/
theorem u_err (bs : List (Int × Tm)) (ab : Option Addr) (cb mb n n2 : Nat) (x y x' y' : Tm) (er : Int) (ax : Option Addr) (cx : Nat) (ay : Option Addr) (cy : Nat) (w : World) (hlen : bs.length ≤ 1000000) (_hl : bs.length ≤ cb) (hc : cb ≤ maxLen) (hb : BdsAt w (Old mb w) ab bs) (hm : MtAt w mb n) (hn : n ≤ 2000) (hx : TmP w (Old mb w) x ax cx) (hy : TmP w (Old mb w) y ay cy) (hbo : bothL bs n x y = (x', y', er, n2)) (her : er ≠ 0) :
    Calls Try.prog 23 #[.pointer (some ⟨mb, 0, none⟩), .slice ab bs.length cb, tmv x ax cx, tmv y ay cy] w (UniOut mb w (none, er, n2)) := by
  have hd : (er != 0) = true := bne_iff_ne.2 her
  have hml := hm.lt
  have HBD := Lib.hid hb
  have HC := Lib.hid hc
  have HBO := Lib.hid (fun W (h : Turn (fun j => j = mb) w W) (hm : MtAt W mb n) => r10_both bs ab cb mb n x y ax cx ay cy W (Old mb w) hlen (fun b hb => by have h1 := h.size; exact ⟨Nat.lt_of_lt_of_le hb.1 h1, hb.2⟩) (hb.turn h fun b hb => hb.2) hm hn (hx.turnS h fun b hb => hb.2) (hy.turnS h fun b hb => hb.2))
  have HBX := Lib.hid (meet_boxes hm (.cells #[.int .i64 x.kind, .string x.name, .int .i64 x.n, .slice ax x.args.length cx] 25) (.cells #[.int .i64 y.kind, .string y.name, .int .i64 y.n, .slice ay y.args.length cy] 25))
  clear hb hm hx hy hc
  rw [hbo] at HBO
  clear hbo
  unfold BothOut at HBO
  unfold tmv at HBO
  dsimp only at HBO
  rw [show (tmv x ax cx) = .agg #[.int .i64 x.kind, .string x.name, .int .i64 x.n, .slice ax x.args.length cx] from rfl, show (tmv y ay cy) = .agg #[.int .i64 y.kind, .string y.name, .int .i64 y.n, .slice ay y.args.length cy] from rfl]
  go_enter Try.func23, Try.ntmps23
  go_wp2_with fail
  generalize hw0 : (w.alloc _).alloc _ = w0 at *
  obtain ⟨q0, q1, t0, m0, s0⟩ := HBX.out
  refine (HBO.out w0 t0 m0).mono ?_; rintro e w1 ⟨a1, d1, a2, d2, rfl, hx1, hy1, m1, t1⟩
  have HU := Lib.hid (fun X hX => UnB.start (x' := x') (y' := y') hml hw0.symm hx1 hy1 m1 t1 X hX)
  obtain ⟨z0, z1, z2, z3, e0, e1, e2, e3⟩ := cellsT ((t1.block w.heap.size (by omega) (by omega)).trans q0)
  obtain ⟨u0, u1, u2, u3, f0, f1, f2, f3⟩ := cellsT ((t1.block (w.heap.size + 1) (by omega) (by omega)).trans q1)
  clear q0 q1 t0 m0 s0 hw0 hx1 hy1 m1 t1 HBX HBO
  go_upto_region 2 with fail
  generalize hX : World.setCell _ _ _ = w3
  have HUB := Lib.hid (HU.out w3 hX.symm)
  clear z0 z1 z2 z3 e0 e1 e2 e3 u0 u1 u2 u3 f0 f1 f2 f3 hX HU
  obtain ⟨c0, c1, c2, c3, e0, e1, e2, e3⟩ := cellsT HUB.out.bx
  obtain ⟨d0, g1, g2, g3, f0, f1, f2, f3⟩ := cellsT HUB.out.bz
  go_wp2_with fail
  refine bodyPost_ret (v := .tuple #[.slice none 0 0, .bool false, .int .i64 er]) (by simp [results, Try.results23, go_sem]) rfl ?_
  exact HUB.out.noneU

set_option maxRecDepth 100000 in
set_option maxHeartbeats 8000000 in
/-- The same variable. -/
theorem u_same (bs : List (Int × Tm)) (ab : Option Addr) (cb mb n n2 : Nat) (x y x' y' : Tm) (ax : Option Addr) (cx : Nat) (ay : Option Addr) (cy : Nat) (w : World) (hlen : bs.length ≤ 1000000) (hl : bs.length ≤ cb) (hc : cb ≤ maxLen) (hb : BdsAt w (Old mb w) ab bs) (hm : MtAt w mb n) (hn : n ≤ 2000) (hx : TmP w (Old mb w) x ax cx) (hy : TmP w (Old mb w) y ay cy) (hbo : bothL bs n x y = (x', y', 0, n2)) (k1 : x'.kind = 1) (k2 : y'.kind = 1) (k3 : x'.n = y'.n) :
    Calls Try.prog 23 #[.pointer (some ⟨mb, 0, none⟩), .slice ab bs.length cb, tmv x ax cx, tmv y ay cy] w (UniOut mb w (some bs, 0, n2)) := by
  have h1 : (x'.kind == 1) = true := by simp [k1]
  have h2 : (y'.kind == 1) = true := by simp [k2]
  have h3 : (x'.n == y'.n) = true := by simp [k3]
  clear k1 k2 k3
  have hml := hm.lt
  have HBD := Lib.hid hb
  have HC := Lib.hid hc
  have HBO := Lib.hid (fun W (h : Turn (fun j => j = mb) w W) (hm : MtAt W mb n) => r10_both bs ab cb mb n x y ax cx ay cy W (Old mb w) hlen (fun b hb => by have h1 := h.size; exact ⟨Nat.lt_of_lt_of_le hb.1 h1, hb.2⟩) (hb.turn h fun b hb => hb.2) hm hn (hx.turnS h fun b hb => hb.2) (hy.turnS h fun b hb => hb.2))
  have HBX := Lib.hid (meet_boxes hm (.cells #[.int .i64 x.kind, .string x.name, .int .i64 x.n, .slice ax x.args.length cx] 25) (.cells #[.int .i64 y.kind, .string y.name, .int .i64 y.n, .slice ay y.args.length cy] 25))
  clear hb hm hx hy hc
  rw [hbo] at HBO
  clear hbo
  unfold BothOut at HBO
  unfold tmv at HBO
  dsimp only at HBO
  rw [show (tmv x ax cx) = .agg #[.int .i64 x.kind, .string x.name, .int .i64 x.n, .slice ax x.args.length cx] from rfl, show (tmv y ay cy) = .agg #[.int .i64 y.kind, .string y.name, .int .i64 y.n, .slice ay y.args.length cy] from rfl]
  go_enter Try.func23, Try.ntmps23
  go_wp2_with fail
  generalize hw0 : (w.alloc _).alloc _ = w0 at *
  obtain ⟨q0, q1, t0, m0, s0⟩ := HBX.out
  refine (HBO.out w0 t0 m0).mono ?_; rintro e w1 ⟨a1, d1, a2, d2, rfl, hx1, hy1, m1, t1⟩
  have HU := Lib.hid (fun X hX => UnB.start (x' := x') (y' := y') hml hw0.symm hx1 hy1 m1 t1 X hX)
  obtain ⟨z0, z1, z2, z3, e0, e1, e2, e3⟩ := cellsT ((t1.block w.heap.size (by omega) (by omega)).trans q0)
  obtain ⟨u0, u1, u2, u3, f0, f1, f2, f3⟩ := cellsT ((t1.block (w.heap.size + 1) (by omega) (by omega)).trans q1)
  clear q0 q1 t0 m0 s0 hw0 hx1 hy1 m1 t1 HBX HBO
  go_upto_region 2 with fail
  generalize hX : World.setCell _ _ _ = w3
  have HUB := Lib.hid (HU.out w3 hX.symm)
  clear z0 z1 z2 z3 e0 e1 e2 e3 u0 u1 u2 u3 f0 f1 f2 f3 hX HU
  obtain ⟨c0, c1, c2, c3, e0, e1, e2, e3⟩ := cellsT HUB.out.bx
  obtain ⟨d0, g1, g2, g3, f0, f1, f2, f3⟩ := cellsT HUB.out.bz
  go_wp2_with fail
  refine bodyPost_ret (v := .tuple #[.slice ab bs.length cb, .bool true, .int .i64 0]) (by simp [results, Try.results23, go_sem]) rfl ?_
  exact HUB.out.as hl HC.out HBD.out

set_option maxRecDepth 100000 in
set_option maxHeartbeats 8000000 in
/-- The second one is a variable, the first one is none. -/
theorem u_right1 (bs : List (Int × Tm)) (ab : Option Addr) (cb mb n n2 : Nat) (x y x' y' : Tm) (ax : Option Addr) (cx : Nat) (ay : Option Addr) (cy : Nat) (w : World) (hlen : bs.length ≤ 1000000) (_hl : bs.length ≤ cb) (hc : cb ≤ maxLen) (hb : BdsAt w (Old mb w) ab bs) (hm : MtAt w mb n) (hn : n ≤ 2000) (hx : TmP w (Old mb w) x ax cx) (hy : TmP w (Old mb w) y ay cy) (hbo : bothL bs n x y = (x', y', 0, n2)) (kx : x'.kind ≠ 1) (ky : y'.kind = 1) :
    Calls Try.prog 23 #[.pointer (some ⟨mb, 0, none⟩), .slice ab bs.length cb, tmv x ax cx, tmv y ay cy] w (UniOut mb w (some (bs ++ [(y'.n, x')]), 0, n2)) := by
  have hxk : (x'.kind == 1) = false := by simp [kx]
  have hyk : (y'.kind == 1) = true := by simp [ky]
  have hxn : (x'.kind != 1) = true := by simp [kx]
  clear kx ky
  have hml := hm.lt
  have HBD := Lib.hid hb
  have HC := Lib.hid hc
  have HBO := Lib.hid (fun W (h : Turn (fun j => j = mb) w W) (hm : MtAt W mb n) => r10_both bs ab cb mb n x y ax cx ay cy W (Old mb w) hlen (fun b hb => by have h1 := h.size; exact ⟨Nat.lt_of_lt_of_le hb.1 h1, hb.2⟩) (hb.turn h fun b hb => hb.2) hm hn (hx.turnS h fun b hb => hb.2) (hy.turnS h fun b hb => hb.2))
  have HBX := Lib.hid (meet_boxes hm (.cells #[.int .i64 x.kind, .string x.name, .int .i64 x.n, .slice ax x.args.length cx] 25) (.cells #[.int .i64 y.kind, .string y.name, .int .i64 y.n, .slice ay y.args.length cy] 25))
  clear hb hm hx hy hc
  rw [hbo] at HBO
  clear hbo
  unfold BothOut at HBO
  unfold tmv at HBO
  dsimp only at HBO
  rw [show (tmv x ax cx) = .agg #[.int .i64 x.kind, .string x.name, .int .i64 x.n, .slice ax x.args.length cx] from rfl, show (tmv y ay cy) = .agg #[.int .i64 y.kind, .string y.name, .int .i64 y.n, .slice ay y.args.length cy] from rfl]
  go_enter Try.func23, Try.ntmps23
  go_wp2_with fail
  generalize hw0 : (w.alloc _).alloc _ = w0 at *
  obtain ⟨q0, q1, t0, m0, s0⟩ := HBX.out
  refine (HBO.out w0 t0 m0).mono ?_; rintro e w1 ⟨a1, d1, a2, d2, rfl, hx1, hy1, m1, t1⟩
  have HU := Lib.hid (fun X hX => UnB.start (x' := x') (y' := y') hml hw0.symm hx1 hy1 m1 t1 X hX)
  obtain ⟨z0, z1, z2, z3, e0, e1, e2, e3⟩ := cellsT ((t1.block w.heap.size (by omega) (by omega)).trans q0)
  obtain ⟨u0, u1, u2, u3, f0, f1, f2, f3⟩ := cellsT ((t1.block (w.heap.size + 1) (by omega) (by omega)).trans q1)
  clear q0 q1 t0 m0 s0 hw0 hx1 hy1 m1 t1 HBX HBO
  go_upto_region 2 with fail
  generalize hX : World.setCell _ _ _ = w3
  have HUB := Lib.hid (HU.out w3 hX.symm)
  clear z0 z1 z2 z3 e0 e1 e2 e3 u0 u1 u2 u3 f0 f1 f2 f3 hX HU
  obtain ⟨c0, c1, c2, c3, e0, e1, e2, e3⟩ := cellsT HUB.out.bx
  obtain ⟨d0, g1, g2, g3, f0, f1, f2, f3⟩ := cellsT HUB.out.bz
  go_upto_region 8 with fail
  generalize hX : World.setCell _ _ _ = w4
  have HUC := Lib.hid (HUB.out.swap hml w4 hX.symm)
  clear c0 c1 c2 c3 d0 g1 g2 g3 e0 e1 e2 e3 f0 f1 f2 f3 hX HUB
  obtain ⟨c0, c1, c2, c3, _⟩ := cellsT HUC.out.bx
  obtain ⟨d0, g1, g2, g3, _⟩ := cellsT HUC.out.bz
  have hbw := HBD.out.kept (w' := w4) (Q := Old mb w) (fun b hb hl => HUC.out.turn.block b hl hb.2) fun _ h _ => h
  obtain ⟨news, hnr, hnc, hno⟩ := brow_of hbw bs.length (Nat.le_refl _)
  rw [List.take_length] at hnr
  have hnl := hnr.1
  have HNR : Hid (∀ W, Below w4.heap.size w4 W → BRow W (Old mb w) news bs) := Lib.hid (fun W h => hnr.kept (fun b _ hl => h.block b hl) fun b hb _ => hb)
  have HNC : Hid (∀ W, Below w4.heap.size w4 W → ∀ j u, news[j]? = some u → ∃ g o, ab = some ⟨g, o, none⟩ ∧ W.cell? ⟨g, o + j, none⟩ = some u) := Lib.hid (fun W h j u hj => by
    obtain ⟨g, o, e, hc⟩ := hnc j u hj
    exact ⟨g, o, e, (h.cell (p := ⟨g, o + j, none⟩) (World.block_lt_of_cell? w4 ⟨g, o + j, none⟩ hc)).trans hc⟩)
  have HTP : Hid (∀ W, Below w4.heap.size w4 W → TmP W (Old mb w) x' a1 d1) := Lib.hid (fun W h => HUC.out.py.kept (fun b _ hl => h.block b hl) fun b hb _ => hb)
  have HNO' := Lib.hid hno
  have HK : Hid (∀ W, Below w4.heap.size w4 W → W.cell? ⟨w.heap.size, 2, none⟩ = some (.int .i64 y'.n) ∧ W.cell? ⟨w.heap.size + 1, 0, none⟩ = some (.int .i64 x'.kind) ∧ W.cell? ⟨w.heap.size + 1, 1, none⟩ = some (.string x'.name) ∧ W.cell? ⟨w.heap.size + 1, 2, none⟩ = some (.int .i64 x'.n) ∧ W.cell? ⟨w.heap.size + 1, 3, none⟩ = some (.slice a1 x'.args.length d1)) := Lib.hid (fun W h => by
    obtain ⟨_, _, c2, _⟩ := cellsT (keptR9 h HUC.out.bx)
    obtain ⟨d0, d1, d2, d3, _⟩ := cellsT (keptR9 h HUC.out.bz)
    exact ⟨c2, d0, d1, d2, d3⟩)
  have hv : In64 y'.n := HUC.out.px.n
  have hsz := HUC.out.turn.size
  have hlo : ∀ b, Old mb w b → b < w4.heap.size := fun b hb => Nat.lt_of_lt_of_le hb.1 hsz
  have HLO := Lib.hid hlo
  have bD : Below w4.heap.size w4 w4.drew := (Below.refl _ w4).drew
  have bA : ∀ o, Below w4.heap.size w4 (w4.alloc o).drew := fun o => ((Below.refl _ w4).alloc (Nat.le_refl _) o).drew
  clear hnr hnc hno hbw hlo
  go_upto_region 9 with fail
  go_region_held3 (fun W => W.cell? ⟨w.heap.size, 2, none⟩ = some (.int .i64 y'.n) ∧ W.cell? ⟨w.heap.size + 1, 0, none⟩ = some (.int .i64 x'.kind) ∧ W.cell? ⟨w.heap.size + 1, 1, none⟩ = some (.string x'.name) ∧ W.cell? ⟨w.heap.size + 1, 2, none⟩ = some (.int .i64 x'.n) ∧ W.cell? ⟨w.heap.size + 1, 3, none⟩ = some (.slice a1 x'.args.length d1))
    (first | with_reducible exact HK.out _ HB9.out | with_reducible exact HK.out _ b3 | with_reducible exact HK.out _ (b3.alloc b3.size _) | with_reducible exact HK.out _ bD | with_reducible exact HK.out _ (bA _))
    (first
      | (refine step_app_nilb (by rfl) (.tmp 64) (by rfl) w4.heap.size (by rfl) hnl (HNC.out _ bD) HNO'.out (by omega) bD.size ?_; intro v3 w5 hown3 hb3; have b3 := bD.trans (hb3.mono bD.size); have HO3 := Lib.hid hown3; clear hown3 hb3)
      | (refine step_app_nilb (by rfl) (.tmp 64) (by rfl) w4.heap.size (by rfl) hnl (HNC.out _ (bA _)) HNO'.out (by omega) (bA _).size ?_; intro v3 w5 hown3 hb3; have b3 := (bA _).trans (hb3.mono (bA _).size); have HO3 := Lib.hid hown3; have HC3 := Lib.hid hb3; clear hown3 hb3)
      | (refine step_app_binds (by rfl) (.tmp 65) (.tmp 70) (by rfl) (by rfl) (HO3.out.alloc _) (by rfl) rfl (cells5P (b := (y'.n, x'))) one5P (by decide) (by omega) (b3.alloc b3.size _).size ?_; intro g9 cap9 w9 hown9 hgrow hat hlt9; obtain ⟨ho9, hb9⟩ := order_postM HLO.out (Nat.le_refl _) (b3.alloc b3.size _) (fun k hk => (HO3.out.lt k hk).1) (HNR.out _ (b3.alloc b3.size _)) (y := (y'.n, x')) hv (HTP.out _ (b3.alloc b3.size _)) hown9 hgrow (hat.elim (fun e => .inl e.symm) fun e => .inr (by rw [e]; rfl)); have HO9 := Lib.hid ho9; have HB9 := Lib.hid hb9; clear ho9 hb9 hown9 hgrow hat hlt9)
      | (refine step_app_binds (by rfl) (.tmp 65) (.tmp 70) (by rfl) (by rfl) HO3.out (by rfl) rfl (fun j u hj => (HC3.out.cell (World.block_lt_of_cell? _ _ (cells5P (b := (y'.n, x')) j u hj))).trans (cells5P (b := (y'.n, x')) j u hj)) one5P (by decide) (by omega) b3.size ?_; intro g9 cap9 w9 hown9 hgrow hat hlt9; obtain ⟨ho9, hb9⟩ := order_postM HLO.out (Nat.le_refl _) b3 (fun k hk => (HO3.out.lt k hk).1) (HNR.out _ b3) (y := (y'.n, x')) hv (HTP.out _ b3) hown9 hgrow (hat.elim (fun e => .inl e.symm) fun e => .inr (by rw [e]; rfl)); have HO9 := Lib.hid ho9; have HB9 := Lib.hid hb9; clear ho9 hb9 hown9 hgrow hat hlt9))
  all_goals
    go_wp2_with fail
    refine bodyPost_ret (v := .tuple #[.slice (some ⟨g9, 0, none⟩) (bs.length + 1) cap9, .bool true, .int .i64 0]) (by simp [results, Try.results23, go_sem]) rfl ?_
    exact HUC.out.more hml HO9.out HB9.out

set_option maxRecDepth 100000 in
set_option maxHeartbeats 8000000 in
/-- Two variables, the second one with the greater number. -/
theorem u_right2 (bs : List (Int × Tm)) (ab : Option Addr) (cb mb n n2 : Nat) (x y x' y' : Tm) (ax : Option Addr) (cx : Nat) (ay : Option Addr) (cy : Nat) (w : World) (hlen : bs.length ≤ 1000000) (_hl : bs.length ≤ cb) (hc : cb ≤ maxLen) (hb : BdsAt w (Old mb w) ab bs) (hm : MtAt w mb n) (hn : n ≤ 2000) (hx : TmP w (Old mb w) x ax cx) (hy : TmP w (Old mb w) y ay cy) (hbo : bothL bs n x y = (x', y', 0, n2)) (kx : x'.kind = 1) (ky : y'.kind = 1) (kn : x'.n < y'.n) :
    Calls Try.prog 23 #[.pointer (some ⟨mb, 0, none⟩), .slice ab bs.length cb, tmv x ax cx, tmv y ay cy] w (UniOut mb w (some (bs ++ [(y'.n, x')]), 0, n2)) := by
  have hxk : (x'.kind == 1) = true := by simp [kx]
  have hyk : (y'.kind == 1) = true := by simp [ky]
  have hne : (x'.n == y'.n) = false := by simp; omega
  have hxn : (x'.kind != 1) = false := by simp [kx]
  have hlt : decide (x'.n < y'.n) = true := decide_eq_true kn
  clear kx ky kn
  have hml := hm.lt
  have HBD := Lib.hid hb
  have HC := Lib.hid hc
  have HBO := Lib.hid (fun W (h : Turn (fun j => j = mb) w W) (hm : MtAt W mb n) => r10_both bs ab cb mb n x y ax cx ay cy W (Old mb w) hlen (fun b hb => by have h1 := h.size; exact ⟨Nat.lt_of_lt_of_le hb.1 h1, hb.2⟩) (hb.turn h fun b hb => hb.2) hm hn (hx.turnS h fun b hb => hb.2) (hy.turnS h fun b hb => hb.2))
  have HBX := Lib.hid (meet_boxes hm (.cells #[.int .i64 x.kind, .string x.name, .int .i64 x.n, .slice ax x.args.length cx] 25) (.cells #[.int .i64 y.kind, .string y.name, .int .i64 y.n, .slice ay y.args.length cy] 25))
  clear hb hm hx hy hc
  rw [hbo] at HBO
  clear hbo
  unfold BothOut at HBO
  unfold tmv at HBO
  dsimp only at HBO
  rw [show (tmv x ax cx) = .agg #[.int .i64 x.kind, .string x.name, .int .i64 x.n, .slice ax x.args.length cx] from rfl, show (tmv y ay cy) = .agg #[.int .i64 y.kind, .string y.name, .int .i64 y.n, .slice ay y.args.length cy] from rfl]
  go_enter Try.func23, Try.ntmps23
  go_wp2_with fail
  generalize hw0 : (w.alloc _).alloc _ = w0 at *
  obtain ⟨q0, q1, t0, m0, s0⟩ := HBX.out
  refine (HBO.out w0 t0 m0).mono ?_; rintro e w1 ⟨a1, d1, a2, d2, rfl, hx1, hy1, m1, t1⟩
  have HU := Lib.hid (fun X hX => UnB.start (x' := x') (y' := y') hml hw0.symm hx1 hy1 m1 t1 X hX)
  obtain ⟨z0, z1, z2, z3, e0, e1, e2, e3⟩ := cellsT ((t1.block w.heap.size (by omega) (by omega)).trans q0)
  obtain ⟨u0, u1, u2, u3, f0, f1, f2, f3⟩ := cellsT ((t1.block (w.heap.size + 1) (by omega) (by omega)).trans q1)
  clear q0 q1 t0 m0 s0 hw0 hx1 hy1 m1 t1 HBX HBO
  go_upto_region 2 with fail
  generalize hX : World.setCell _ _ _ = w3
  have HUB := Lib.hid (HU.out w3 hX.symm)
  clear z0 z1 z2 z3 e0 e1 e2 e3 u0 u1 u2 u3 f0 f1 f2 f3 hX HU
  obtain ⟨c0, c1, c2, c3, e0, e1, e2, e3⟩ := cellsT HUB.out.bx
  obtain ⟨d0, g1, g2, g3, f0, f1, f2, f3⟩ := cellsT HUB.out.bz
  go_upto_region 8 with fail
  generalize hX : World.setCell _ _ _ = w4
  have HUC := Lib.hid (HUB.out.swap hml w4 hX.symm)
  clear c0 c1 c2 c3 d0 g1 g2 g3 e0 e1 e2 e3 f0 f1 f2 f3 hX HUB
  obtain ⟨c0, c1, c2, c3, _⟩ := cellsT HUC.out.bx
  obtain ⟨d0, g1, g2, g3, _⟩ := cellsT HUC.out.bz
  have hbw := HBD.out.kept (w' := w4) (Q := Old mb w) (fun b hb hl => HUC.out.turn.block b hl hb.2) fun _ h _ => h
  obtain ⟨news, hnr, hnc, hno⟩ := brow_of hbw bs.length (Nat.le_refl _)
  rw [List.take_length] at hnr
  have hnl := hnr.1
  have HNR : Hid (∀ W, Below w4.heap.size w4 W → BRow W (Old mb w) news bs) := Lib.hid (fun W h => hnr.kept (fun b _ hl => h.block b hl) fun b hb _ => hb)
  have HNC : Hid (∀ W, Below w4.heap.size w4 W → ∀ j u, news[j]? = some u → ∃ g o, ab = some ⟨g, o, none⟩ ∧ W.cell? ⟨g, o + j, none⟩ = some u) := Lib.hid (fun W h j u hj => by
    obtain ⟨g, o, e, hc⟩ := hnc j u hj
    exact ⟨g, o, e, (h.cell (p := ⟨g, o + j, none⟩) (World.block_lt_of_cell? w4 ⟨g, o + j, none⟩ hc)).trans hc⟩)
  have HTP : Hid (∀ W, Below w4.heap.size w4 W → TmP W (Old mb w) x' a1 d1) := Lib.hid (fun W h => HUC.out.py.kept (fun b _ hl => h.block b hl) fun b hb _ => hb)
  have HNO' := Lib.hid hno
  have HK : Hid (∀ W, Below w4.heap.size w4 W → W.cell? ⟨w.heap.size, 2, none⟩ = some (.int .i64 y'.n) ∧ W.cell? ⟨w.heap.size + 1, 0, none⟩ = some (.int .i64 x'.kind) ∧ W.cell? ⟨w.heap.size + 1, 1, none⟩ = some (.string x'.name) ∧ W.cell? ⟨w.heap.size + 1, 2, none⟩ = some (.int .i64 x'.n) ∧ W.cell? ⟨w.heap.size + 1, 3, none⟩ = some (.slice a1 x'.args.length d1)) := Lib.hid (fun W h => by
    obtain ⟨_, _, c2, _⟩ := cellsT (keptR9 h HUC.out.bx)
    obtain ⟨d0, d1, d2, d3, _⟩ := cellsT (keptR9 h HUC.out.bz)
    exact ⟨c2, d0, d1, d2, d3⟩)
  have hv : In64 y'.n := HUC.out.px.n
  have hsz := HUC.out.turn.size
  have hlo : ∀ b, Old mb w b → b < w4.heap.size := fun b hb => Nat.lt_of_lt_of_le hb.1 hsz
  have HLO := Lib.hid hlo
  have bD : Below w4.heap.size w4 w4.drew := (Below.refl _ w4).drew
  have bA : ∀ o, Below w4.heap.size w4 (w4.alloc o).drew := fun o => ((Below.refl _ w4).alloc (Nat.le_refl _) o).drew
  clear hnr hnc hno hbw hlo
  go_upto_region 9 with fail
  go_region_held3 (fun W => W.cell? ⟨w.heap.size, 2, none⟩ = some (.int .i64 y'.n) ∧ W.cell? ⟨w.heap.size + 1, 0, none⟩ = some (.int .i64 x'.kind) ∧ W.cell? ⟨w.heap.size + 1, 1, none⟩ = some (.string x'.name) ∧ W.cell? ⟨w.heap.size + 1, 2, none⟩ = some (.int .i64 x'.n) ∧ W.cell? ⟨w.heap.size + 1, 3, none⟩ = some (.slice a1 x'.args.length d1))
    (first | with_reducible exact HK.out _ HB9.out | with_reducible exact HK.out _ b3 | with_reducible exact HK.out _ (b3.alloc b3.size _) | with_reducible exact HK.out _ bD | with_reducible exact HK.out _ (bA _))
    (first
      | (refine step_app_nilb (by rfl) (.tmp 64) (by rfl) w4.heap.size (by rfl) hnl (HNC.out _ bD) HNO'.out (by omega) bD.size ?_; intro v3 w5 hown3 hb3; have b3 := bD.trans (hb3.mono bD.size); have HO3 := Lib.hid hown3; clear hown3 hb3)
      | (refine step_app_nilb (by rfl) (.tmp 64) (by rfl) w4.heap.size (by rfl) hnl (HNC.out _ (bA _)) HNO'.out (by omega) (bA _).size ?_; intro v3 w5 hown3 hb3; have b3 := (bA _).trans (hb3.mono (bA _).size); have HO3 := Lib.hid hown3; have HC3 := Lib.hid hb3; clear hown3 hb3)
      | (refine step_app_binds (by rfl) (.tmp 65) (.tmp 70) (by rfl) (by rfl) (HO3.out.alloc _) (by rfl) rfl (cells5P (b := (y'.n, x'))) one5P (by decide) (by omega) (b3.alloc b3.size _).size ?_; intro g9 cap9 w9 hown9 hgrow hat hlt9; obtain ⟨ho9, hb9⟩ := order_postM HLO.out (Nat.le_refl _) (b3.alloc b3.size _) (fun k hk => (HO3.out.lt k hk).1) (HNR.out _ (b3.alloc b3.size _)) (y := (y'.n, x')) hv (HTP.out _ (b3.alloc b3.size _)) hown9 hgrow (hat.elim (fun e => .inl e.symm) fun e => .inr (by rw [e]; rfl)); have HO9 := Lib.hid ho9; have HB9 := Lib.hid hb9; clear ho9 hb9 hown9 hgrow hat hlt9)
      | (refine step_app_binds (by rfl) (.tmp 65) (.tmp 70) (by rfl) (by rfl) HO3.out (by rfl) rfl (fun j u hj => (HC3.out.cell (World.block_lt_of_cell? _ _ (cells5P (b := (y'.n, x')) j u hj))).trans (cells5P (b := (y'.n, x')) j u hj)) one5P (by decide) (by omega) b3.size ?_; intro g9 cap9 w9 hown9 hgrow hat hlt9; obtain ⟨ho9, hb9⟩ := order_postM HLO.out (Nat.le_refl _) b3 (fun k hk => (HO3.out.lt k hk).1) (HNR.out _ b3) (y := (y'.n, x')) hv (HTP.out _ b3) hown9 hgrow (hat.elim (fun e => .inl e.symm) fun e => .inr (by rw [e]; rfl)); have HO9 := Lib.hid ho9; have HB9 := Lib.hid hb9; clear ho9 hb9 hown9 hgrow hat hlt9))
  all_goals
    go_wp2_with fail
    refine bodyPost_ret (v := .tuple #[.slice (some ⟨g9, 0, none⟩) (bs.length + 1) cap9, .bool true, .int .i64 0]) (by simp [results, Try.results23, go_sem]) rfl ?_
    exact HUC.out.more hml HO9.out HB9.out

set_option maxRecDepth 100000 in
set_option maxHeartbeats 8000000 in
/-- The first one is a variable, the second one is none. -/
theorem u_left1 (bs : List (Int × Tm)) (ab : Option Addr) (cb mb n n2 : Nat) (x y x' y' : Tm) (ax : Option Addr) (cx : Nat) (ay : Option Addr) (cy : Nat) (w : World) (hlen : bs.length ≤ 1000000) (_hl : bs.length ≤ cb) (hc : cb ≤ maxLen) (hb : BdsAt w (Old mb w) ab bs) (hm : MtAt w mb n) (hn : n ≤ 2000) (hx : TmP w (Old mb w) x ax cx) (hy : TmP w (Old mb w) y ay cy) (hbo : bothL bs n x y = (x', y', 0, n2)) (kx : x'.kind = 1) (ky : y'.kind ≠ 1) :
    Calls Try.prog 23 #[.pointer (some ⟨mb, 0, none⟩), .slice ab bs.length cb, tmv x ax cx, tmv y ay cy] w (UniOut mb w (some (bs ++ [(x'.n, y')]), 0, n2)) := by
  have hxk : (x'.kind == 1) = true := by simp [kx]
  have hyk : (y'.kind == 1) = false := by simp [ky]
  clear kx ky
  have hml := hm.lt
  have HBD := Lib.hid hb
  have HC := Lib.hid hc
  have HBO := Lib.hid (fun W (h : Turn (fun j => j = mb) w W) (hm : MtAt W mb n) => r10_both bs ab cb mb n x y ax cx ay cy W (Old mb w) hlen (fun b hb => by have h1 := h.size; exact ⟨Nat.lt_of_lt_of_le hb.1 h1, hb.2⟩) (hb.turn h fun b hb => hb.2) hm hn (hx.turnS h fun b hb => hb.2) (hy.turnS h fun b hb => hb.2))
  have HBX := Lib.hid (meet_boxes hm (.cells #[.int .i64 x.kind, .string x.name, .int .i64 x.n, .slice ax x.args.length cx] 25) (.cells #[.int .i64 y.kind, .string y.name, .int .i64 y.n, .slice ay y.args.length cy] 25))
  clear hb hm hx hy hc
  rw [hbo] at HBO
  clear hbo
  unfold BothOut at HBO
  unfold tmv at HBO
  dsimp only at HBO
  rw [show (tmv x ax cx) = .agg #[.int .i64 x.kind, .string x.name, .int .i64 x.n, .slice ax x.args.length cx] from rfl, show (tmv y ay cy) = .agg #[.int .i64 y.kind, .string y.name, .int .i64 y.n, .slice ay y.args.length cy] from rfl]
  go_enter Try.func23, Try.ntmps23
  go_wp2_with fail
  generalize hw0 : (w.alloc _).alloc _ = w0 at *
  obtain ⟨q0, q1, t0, m0, s0⟩ := HBX.out
  refine (HBO.out w0 t0 m0).mono ?_; rintro e w1 ⟨a1, d1, a2, d2, rfl, hx1, hy1, m1, t1⟩
  have HU := Lib.hid (fun X hX => UnB.start (x' := x') (y' := y') hml hw0.symm hx1 hy1 m1 t1 X hX)
  obtain ⟨z0, z1, z2, z3, e0, e1, e2, e3⟩ := cellsT ((t1.block w.heap.size (by omega) (by omega)).trans q0)
  obtain ⟨u0, u1, u2, u3, f0, f1, f2, f3⟩ := cellsT ((t1.block (w.heap.size + 1) (by omega) (by omega)).trans q1)
  clear q0 q1 t0 m0 s0 hw0 hx1 hy1 m1 t1 HBX HBO
  go_upto_region 2 with fail
  generalize hX : World.setCell _ _ _ = w3
  have HUB := Lib.hid (HU.out w3 hX.symm)
  clear z0 z1 z2 z3 e0 e1 e2 e3 u0 u1 u2 u3 f0 f1 f2 f3 hX HU
  obtain ⟨c0, c1, c2, c3, e0, e1, e2, e3⟩ := cellsT HUB.out.bx
  obtain ⟨d0, g1, g2, g3, f0, f1, f2, f3⟩ := cellsT HUB.out.bz
  have hbw := HBD.out.kept (w' := w3) (Q := Old mb w) (fun b hb hl => HUB.out.turn.block b hl hb.2) fun _ h _ => h
  obtain ⟨news, hnr, hnc, hno⟩ := brow_of hbw bs.length (Nat.le_refl _)
  rw [List.take_length] at hnr
  have hnl := hnr.1
  have HNR : Hid (∀ W, Below w3.heap.size w3 W → BRow W (Old mb w) news bs) := Lib.hid (fun W h => hnr.kept (fun b _ hl => h.block b hl) fun b hb _ => hb)
  have HNC : Hid (∀ W, Below w3.heap.size w3 W → ∀ j u, news[j]? = some u → ∃ g o, ab = some ⟨g, o, none⟩ ∧ W.cell? ⟨g, o + j, none⟩ = some u) := Lib.hid (fun W h j u hj => by
    obtain ⟨g, o, e, hc⟩ := hnc j u hj
    exact ⟨g, o, e, (h.cell (p := ⟨g, o + j, none⟩) (World.block_lt_of_cell? w3 ⟨g, o + j, none⟩ hc)).trans hc⟩)
  have HTP : Hid (∀ W, Below w3.heap.size w3 W → TmP W (Old mb w) y' a2 d2) := Lib.hid (fun W h => HUB.out.py.kept (fun b _ hl => h.block b hl) fun b hb _ => hb)
  have HNO' := Lib.hid hno
  have HK : Hid (∀ W, Below w3.heap.size w3 W → W.cell? ⟨w.heap.size, 2, none⟩ = some (.int .i64 x'.n) ∧ W.cell? ⟨w.heap.size + 1, 0, none⟩ = some (.int .i64 y'.kind) ∧ W.cell? ⟨w.heap.size + 1, 1, none⟩ = some (.string y'.name) ∧ W.cell? ⟨w.heap.size + 1, 2, none⟩ = some (.int .i64 y'.n) ∧ W.cell? ⟨w.heap.size + 1, 3, none⟩ = some (.slice a2 y'.args.length d2)) := Lib.hid (fun W h => by
    obtain ⟨_, _, c2, _⟩ := cellsT (keptR9 h HUB.out.bx)
    obtain ⟨d0, d1, d2, d3, _⟩ := cellsT (keptR9 h HUB.out.bz)
    exact ⟨c2, d0, d1, d2, d3⟩)
  have hv : In64 x'.n := HUB.out.px.n
  have hsz := HUB.out.turn.size
  have hlo : ∀ b, Old mb w b → b < w3.heap.size := fun b hb => Nat.lt_of_lt_of_le hb.1 hsz
  have HLO := Lib.hid hlo
  have bD : Below w3.heap.size w3 w3.drew := (Below.refl _ w3).drew
  have bA : ∀ o, Below w3.heap.size w3 (w3.alloc o).drew := fun o => ((Below.refl _ w3).alloc (Nat.le_refl _) o).drew
  clear hnr hnc hno hbw hlo
  go_upto_region 9 with fail
  go_region_held3 (fun W => W.cell? ⟨w.heap.size, 2, none⟩ = some (.int .i64 x'.n) ∧ W.cell? ⟨w.heap.size + 1, 0, none⟩ = some (.int .i64 y'.kind) ∧ W.cell? ⟨w.heap.size + 1, 1, none⟩ = some (.string y'.name) ∧ W.cell? ⟨w.heap.size + 1, 2, none⟩ = some (.int .i64 y'.n) ∧ W.cell? ⟨w.heap.size + 1, 3, none⟩ = some (.slice a2 y'.args.length d2))
    (first | with_reducible exact HK.out _ HB9.out | with_reducible exact HK.out _ b3 | with_reducible exact HK.out _ (b3.alloc b3.size _) | with_reducible exact HK.out _ bD | with_reducible exact HK.out _ (bA _))
    (first
      | (refine step_app_nilb (by rfl) (.tmp 64) (by rfl) w3.heap.size (by rfl) hnl (HNC.out _ bD) HNO'.out (by omega) bD.size ?_; intro v3 w5 hown3 hb3; have b3 := bD.trans (hb3.mono bD.size); have HO3 := Lib.hid hown3; clear hown3 hb3)
      | (refine step_app_nilb (by rfl) (.tmp 64) (by rfl) w3.heap.size (by rfl) hnl (HNC.out _ (bA _)) HNO'.out (by omega) (bA _).size ?_; intro v3 w5 hown3 hb3; have b3 := (bA _).trans (hb3.mono (bA _).size); have HO3 := Lib.hid hown3; have HC3 := Lib.hid hb3; clear hown3 hb3)
      | (refine step_app_binds (by rfl) (.tmp 65) (.tmp 70) (by rfl) (by rfl) (HO3.out.alloc _) (by rfl) rfl (cells5P (b := (x'.n, y'))) one5P (by decide) (by omega) (b3.alloc b3.size _).size ?_; intro g9 cap9 w9 hown9 hgrow hat hlt9; obtain ⟨ho9, hb9⟩ := order_postM HLO.out (Nat.le_refl _) (b3.alloc b3.size _) (fun k hk => (HO3.out.lt k hk).1) (HNR.out _ (b3.alloc b3.size _)) (y := (x'.n, y')) hv (HTP.out _ (b3.alloc b3.size _)) hown9 hgrow (hat.elim (fun e => .inl e.symm) fun e => .inr (by rw [e]; rfl)); have HO9 := Lib.hid ho9; have HB9 := Lib.hid hb9; clear ho9 hb9 hown9 hgrow hat hlt9)
      | (refine step_app_binds (by rfl) (.tmp 65) (.tmp 70) (by rfl) (by rfl) HO3.out (by rfl) rfl (fun j u hj => (HC3.out.cell (World.block_lt_of_cell? _ _ (cells5P (b := (x'.n, y')) j u hj))).trans (cells5P (b := (x'.n, y')) j u hj)) one5P (by decide) (by omega) b3.size ?_; intro g9 cap9 w9 hown9 hgrow hat hlt9; obtain ⟨ho9, hb9⟩ := order_postM HLO.out (Nat.le_refl _) b3 (fun k hk => (HO3.out.lt k hk).1) (HNR.out _ b3) (y := (x'.n, y')) hv (HTP.out _ b3) hown9 hgrow (hat.elim (fun e => .inl e.symm) fun e => .inr (by rw [e]; rfl)); have HO9 := Lib.hid ho9; have HB9 := Lib.hid hb9; clear ho9 hb9 hown9 hgrow hat hlt9))
  all_goals
    go_wp2_with fail
    refine bodyPost_ret (v := .tuple #[.slice (some ⟨g9, 0, none⟩) (bs.length + 1) cap9, .bool true, .int .i64 0]) (by simp [results, Try.results23, go_sem]) rfl ?_
    exact HUB.out.more hml HO9.out HB9.out

set_option maxRecDepth 100000 in
set_option maxHeartbeats 8000000 in
/-- Two variables, the first one with the greater number. -/
theorem u_left2 (bs : List (Int × Tm)) (ab : Option Addr) (cb mb n n2 : Nat) (x y x' y' : Tm) (ax : Option Addr) (cx : Nat) (ay : Option Addr) (cy : Nat) (w : World) (hlen : bs.length ≤ 1000000) (_hl : bs.length ≤ cb) (hc : cb ≤ maxLen) (hb : BdsAt w (Old mb w) ab bs) (hm : MtAt w mb n) (hn : n ≤ 2000) (hx : TmP w (Old mb w) x ax cx) (hy : TmP w (Old mb w) y ay cy) (hbo : bothL bs n x y = (x', y', 0, n2)) (kx : x'.kind = 1) (ky : y'.kind = 1) (kn : y'.n < x'.n) :
    Calls Try.prog 23 #[.pointer (some ⟨mb, 0, none⟩), .slice ab bs.length cb, tmv x ax cx, tmv y ay cy] w (UniOut mb w (some (bs ++ [(x'.n, y')]), 0, n2)) := by
  have hxk : (x'.kind == 1) = true := by simp [kx]
  have hyk : (y'.kind == 1) = true := by simp [ky]
  have hne : (x'.n == y'.n) = false := by simp; omega
  have hxn : (x'.kind != 1) = false := by simp [kx]
  have hlt : decide (x'.n < y'.n) = false := decide_eq_false (by omega)
  clear kx ky kn
  have hml := hm.lt
  have HBD := Lib.hid hb
  have HC := Lib.hid hc
  have HBO := Lib.hid (fun W (h : Turn (fun j => j = mb) w W) (hm : MtAt W mb n) => r10_both bs ab cb mb n x y ax cx ay cy W (Old mb w) hlen (fun b hb => by have h1 := h.size; exact ⟨Nat.lt_of_lt_of_le hb.1 h1, hb.2⟩) (hb.turn h fun b hb => hb.2) hm hn (hx.turnS h fun b hb => hb.2) (hy.turnS h fun b hb => hb.2))
  have HBX := Lib.hid (meet_boxes hm (.cells #[.int .i64 x.kind, .string x.name, .int .i64 x.n, .slice ax x.args.length cx] 25) (.cells #[.int .i64 y.kind, .string y.name, .int .i64 y.n, .slice ay y.args.length cy] 25))
  clear hb hm hx hy hc
  rw [hbo] at HBO
  clear hbo
  unfold BothOut at HBO
  unfold tmv at HBO
  dsimp only at HBO
  rw [show (tmv x ax cx) = .agg #[.int .i64 x.kind, .string x.name, .int .i64 x.n, .slice ax x.args.length cx] from rfl, show (tmv y ay cy) = .agg #[.int .i64 y.kind, .string y.name, .int .i64 y.n, .slice ay y.args.length cy] from rfl]
  go_enter Try.func23, Try.ntmps23
  go_wp2_with fail
  generalize hw0 : (w.alloc _).alloc _ = w0 at *
  obtain ⟨q0, q1, t0, m0, s0⟩ := HBX.out
  refine (HBO.out w0 t0 m0).mono ?_; rintro e w1 ⟨a1, d1, a2, d2, rfl, hx1, hy1, m1, t1⟩
  have HU := Lib.hid (fun X hX => UnB.start (x' := x') (y' := y') hml hw0.symm hx1 hy1 m1 t1 X hX)
  obtain ⟨z0, z1, z2, z3, e0, e1, e2, e3⟩ := cellsT ((t1.block w.heap.size (by omega) (by omega)).trans q0)
  obtain ⟨u0, u1, u2, u3, f0, f1, f2, f3⟩ := cellsT ((t1.block (w.heap.size + 1) (by omega) (by omega)).trans q1)
  clear q0 q1 t0 m0 s0 hw0 hx1 hy1 m1 t1 HBX HBO
  go_upto_region 2 with fail
  generalize hX : World.setCell _ _ _ = w3
  have HUB := Lib.hid (HU.out w3 hX.symm)
  clear z0 z1 z2 z3 e0 e1 e2 e3 u0 u1 u2 u3 f0 f1 f2 f3 hX HU
  obtain ⟨c0, c1, c2, c3, e0, e1, e2, e3⟩ := cellsT HUB.out.bx
  obtain ⟨d0, g1, g2, g3, f0, f1, f2, f3⟩ := cellsT HUB.out.bz
  have hbw := HBD.out.kept (w' := w3) (Q := Old mb w) (fun b hb hl => HUB.out.turn.block b hl hb.2) fun _ h _ => h
  obtain ⟨news, hnr, hnc, hno⟩ := brow_of hbw bs.length (Nat.le_refl _)
  rw [List.take_length] at hnr
  have hnl := hnr.1
  have HNR : Hid (∀ W, Below w3.heap.size w3 W → BRow W (Old mb w) news bs) := Lib.hid (fun W h => hnr.kept (fun b _ hl => h.block b hl) fun b hb _ => hb)
  have HNC : Hid (∀ W, Below w3.heap.size w3 W → ∀ j u, news[j]? = some u → ∃ g o, ab = some ⟨g, o, none⟩ ∧ W.cell? ⟨g, o + j, none⟩ = some u) := Lib.hid (fun W h j u hj => by
    obtain ⟨g, o, e, hc⟩ := hnc j u hj
    exact ⟨g, o, e, (h.cell (p := ⟨g, o + j, none⟩) (World.block_lt_of_cell? w3 ⟨g, o + j, none⟩ hc)).trans hc⟩)
  have HTP : Hid (∀ W, Below w3.heap.size w3 W → TmP W (Old mb w) y' a2 d2) := Lib.hid (fun W h => HUB.out.py.kept (fun b _ hl => h.block b hl) fun b hb _ => hb)
  have HNO' := Lib.hid hno
  have HK : Hid (∀ W, Below w3.heap.size w3 W → W.cell? ⟨w.heap.size, 2, none⟩ = some (.int .i64 x'.n) ∧ W.cell? ⟨w.heap.size + 1, 0, none⟩ = some (.int .i64 y'.kind) ∧ W.cell? ⟨w.heap.size + 1, 1, none⟩ = some (.string y'.name) ∧ W.cell? ⟨w.heap.size + 1, 2, none⟩ = some (.int .i64 y'.n) ∧ W.cell? ⟨w.heap.size + 1, 3, none⟩ = some (.slice a2 y'.args.length d2)) := Lib.hid (fun W h => by
    obtain ⟨_, _, c2, _⟩ := cellsT (keptR9 h HUB.out.bx)
    obtain ⟨d0, d1, d2, d3, _⟩ := cellsT (keptR9 h HUB.out.bz)
    exact ⟨c2, d0, d1, d2, d3⟩)
  have hv : In64 x'.n := HUB.out.px.n
  have hsz := HUB.out.turn.size
  have hlo : ∀ b, Old mb w b → b < w3.heap.size := fun b hb => Nat.lt_of_lt_of_le hb.1 hsz
  have HLO := Lib.hid hlo
  have bD : Below w3.heap.size w3 w3.drew := (Below.refl _ w3).drew
  have bA : ∀ o, Below w3.heap.size w3 (w3.alloc o).drew := fun o => ((Below.refl _ w3).alloc (Nat.le_refl _) o).drew
  clear hnr hnc hno hbw hlo
  go_upto_region 9 with fail
  go_region_held3 (fun W => W.cell? ⟨w.heap.size, 2, none⟩ = some (.int .i64 x'.n) ∧ W.cell? ⟨w.heap.size + 1, 0, none⟩ = some (.int .i64 y'.kind) ∧ W.cell? ⟨w.heap.size + 1, 1, none⟩ = some (.string y'.name) ∧ W.cell? ⟨w.heap.size + 1, 2, none⟩ = some (.int .i64 y'.n) ∧ W.cell? ⟨w.heap.size + 1, 3, none⟩ = some (.slice a2 y'.args.length d2))
    (first | with_reducible exact HK.out _ HB9.out | with_reducible exact HK.out _ b3 | with_reducible exact HK.out _ (b3.alloc b3.size _) | with_reducible exact HK.out _ bD | with_reducible exact HK.out _ (bA _))
    (first
      | (refine step_app_nilb (by rfl) (.tmp 64) (by rfl) w3.heap.size (by rfl) hnl (HNC.out _ bD) HNO'.out (by omega) bD.size ?_; intro v3 w5 hown3 hb3; have b3 := bD.trans (hb3.mono bD.size); have HO3 := Lib.hid hown3; clear hown3 hb3)
      | (refine step_app_nilb (by rfl) (.tmp 64) (by rfl) w3.heap.size (by rfl) hnl (HNC.out _ (bA _)) HNO'.out (by omega) (bA _).size ?_; intro v3 w5 hown3 hb3; have b3 := (bA _).trans (hb3.mono (bA _).size); have HO3 := Lib.hid hown3; have HC3 := Lib.hid hb3; clear hown3 hb3)
      | (refine step_app_binds (by rfl) (.tmp 65) (.tmp 70) (by rfl) (by rfl) (HO3.out.alloc _) (by rfl) rfl (cells5P (b := (x'.n, y'))) one5P (by decide) (by omega) (b3.alloc b3.size _).size ?_; intro g9 cap9 w9 hown9 hgrow hat hlt9; obtain ⟨ho9, hb9⟩ := order_postM HLO.out (Nat.le_refl _) (b3.alloc b3.size _) (fun k hk => (HO3.out.lt k hk).1) (HNR.out _ (b3.alloc b3.size _)) (y := (x'.n, y')) hv (HTP.out _ (b3.alloc b3.size _)) hown9 hgrow (hat.elim (fun e => .inl e.symm) fun e => .inr (by rw [e]; rfl)); have HO9 := Lib.hid ho9; have HB9 := Lib.hid hb9; clear ho9 hb9 hown9 hgrow hat hlt9)
      | (refine step_app_binds (by rfl) (.tmp 65) (.tmp 70) (by rfl) (by rfl) HO3.out (by rfl) rfl (fun j u hj => (HC3.out.cell (World.block_lt_of_cell? _ _ (cells5P (b := (x'.n, y')) j u hj))).trans (cells5P (b := (x'.n, y')) j u hj)) one5P (by decide) (by omega) b3.size ?_; intro g9 cap9 w9 hown9 hgrow hat hlt9; obtain ⟨ho9, hb9⟩ := order_postM HLO.out (Nat.le_refl _) b3 (fun k hk => (HO3.out.lt k hk).1) (HNR.out _ b3) (y := (x'.n, y')) hv (HTP.out _ b3) hown9 hgrow (hat.elim (fun e => .inl e.symm) fun e => .inr (by rw [e]; rfl)); have HO9 := Lib.hid ho9; have HB9 := Lib.hid hb9; clear ho9 hb9 hown9 hgrow hat hlt9))
  all_goals
    go_wp2_with fail
    refine bodyPost_ret (v := .tuple #[.slice (some ⟨g9, 0, none⟩) (bs.length + 1) cap9, .bool true, .int .i64 0]) (by simp [results, Try.results23, go_sem]) rfl ?_
    exact HUB.out.more hml HO9.out HB9.out

set_option maxRecDepth 100000 in
set_option maxHeartbeats 8000000 in
/-- Of different kinds. -/
theorem u_clash1 (bs : List (Int × Tm)) (ab : Option Addr) (cb mb n n2 : Nat) (x y x' y' : Tm) (ax : Option Addr) (cx : Nat) (ay : Option Addr) (cy : Nat) (w : World) (hlen : bs.length ≤ 1000000) (_hl : bs.length ≤ cb) (hc : cb ≤ maxLen) (hb : BdsAt w (Old mb w) ab bs) (hm : MtAt w mb n) (hn : n ≤ 2000) (hx : TmP w (Old mb w) x ax cx) (hy : TmP w (Old mb w) y ay cy) (hbo : bothL bs n x y = (x', y', 0, n2)) (kx : x'.kind ≠ 1) (ky : y'.kind ≠ 1) (k : x'.kind ≠ y'.kind) :
    Calls Try.prog 23 #[.pointer (some ⟨mb, 0, none⟩), .slice ab bs.length cb, tmv x ax cx, tmv y ay cy] w (UniOut mb w (none, 0, n2)) := by
  have hxk : (x'.kind == 1) = false := by simp [kx]
  have hyk : (y'.kind == 1) = false := by simp [ky]
  clear kx ky
  have hk : (x'.kind != y'.kind) = true := bne_iff_ne.2 k
  clear k
  have hml := hm.lt
  have HBD := Lib.hid hb
  have HC := Lib.hid hc
  have HBO := Lib.hid (fun W (h : Turn (fun j => j = mb) w W) (hm : MtAt W mb n) => r10_both bs ab cb mb n x y ax cx ay cy W (Old mb w) hlen (fun b hb => by have h1 := h.size; exact ⟨Nat.lt_of_lt_of_le hb.1 h1, hb.2⟩) (hb.turn h fun b hb => hb.2) hm hn (hx.turnS h fun b hb => hb.2) (hy.turnS h fun b hb => hb.2))
  have HBX := Lib.hid (meet_boxes hm (.cells #[.int .i64 x.kind, .string x.name, .int .i64 x.n, .slice ax x.args.length cx] 25) (.cells #[.int .i64 y.kind, .string y.name, .int .i64 y.n, .slice ay y.args.length cy] 25))
  clear hb hm hx hy hc
  rw [hbo] at HBO
  clear hbo
  unfold BothOut at HBO
  unfold tmv at HBO
  dsimp only at HBO
  rw [show (tmv x ax cx) = .agg #[.int .i64 x.kind, .string x.name, .int .i64 x.n, .slice ax x.args.length cx] from rfl, show (tmv y ay cy) = .agg #[.int .i64 y.kind, .string y.name, .int .i64 y.n, .slice ay y.args.length cy] from rfl]
  go_enter Try.func23, Try.ntmps23
  go_wp2_with fail
  generalize hw0 : (w.alloc _).alloc _ = w0 at *
  obtain ⟨q0, q1, t0, m0, s0⟩ := HBX.out
  refine (HBO.out w0 t0 m0).mono ?_; rintro e w1 ⟨a1, d1, a2, d2, rfl, hx1, hy1, m1, t1⟩
  have HU := Lib.hid (fun X hX => UnB.start (x' := x') (y' := y') hml hw0.symm hx1 hy1 m1 t1 X hX)
  obtain ⟨z0, z1, z2, z3, e0, e1, e2, e3⟩ := cellsT ((t1.block w.heap.size (by omega) (by omega)).trans q0)
  obtain ⟨u0, u1, u2, u3, f0, f1, f2, f3⟩ := cellsT ((t1.block (w.heap.size + 1) (by omega) (by omega)).trans q1)
  clear q0 q1 t0 m0 s0 hw0 hx1 hy1 m1 t1 HBX HBO
  go_upto_region 2 with fail
  generalize hX : World.setCell _ _ _ = w3
  have HUB := Lib.hid (HU.out w3 hX.symm)
  clear z0 z1 z2 z3 e0 e1 e2 e3 u0 u1 u2 u3 f0 f1 f2 f3 hX HU
  obtain ⟨c0, c1, c2, c3, e0, e1, e2, e3⟩ := cellsT HUB.out.bx
  obtain ⟨d0, g1, g2, g3, f0, f1, f2, f3⟩ := cellsT HUB.out.bz
  go_wp2_with fail
  refine bodyPost_ret (v := .tuple #[.slice none 0 0, .bool false, .int .i64 0]) (by simp [results, Try.results23, go_sem]) rfl ?_
  exact HUB.out.noneU

set_option maxRecDepth 100000 in
set_option maxHeartbeats 8000000 in
/-- Of different names. -/
theorem u_clash2 (bs : List (Int × Tm)) (ab : Option Addr) (cb mb n n2 : Nat) (x y x' y' : Tm) (ax : Option Addr) (cx : Nat) (ay : Option Addr) (cy : Nat) (w : World) (hlen : bs.length ≤ 1000000) (_hl : bs.length ≤ cb) (hc : cb ≤ maxLen) (hb : BdsAt w (Old mb w) ab bs) (hm : MtAt w mb n) (hn : n ≤ 2000) (hx : TmP w (Old mb w) x ax cx) (hy : TmP w (Old mb w) y ay cy) (hbo : bothL bs n x y = (x', y', 0, n2)) (kx : x'.kind ≠ 1) (ky : y'.kind ≠ 1) (k : x'.kind = y'.kind) (ka : x'.name ≠ y'.name) :
    Calls Try.prog 23 #[.pointer (some ⟨mb, 0, none⟩), .slice ab bs.length cb, tmv x ax cx, tmv y ay cy] w (UniOut mb w (none, 0, n2)) := by
  have hxk : (x'.kind == 1) = false := by simp [kx]
  have hyk : (y'.kind == 1) = false := by simp [ky]
  clear kx ky
  have hk : (x'.kind != y'.kind) = false := by simp [k]
  have ha : (x'.name.toList == y'.name.toList) = false := beq_eq_false_iff_ne.2 fun e => ka (bytes_ext e)
  clear k ka
  have hml := hm.lt
  have HBD := Lib.hid hb
  have HC := Lib.hid hc
  have HBO := Lib.hid (fun W (h : Turn (fun j => j = mb) w W) (hm : MtAt W mb n) => r10_both bs ab cb mb n x y ax cx ay cy W (Old mb w) hlen (fun b hb => by have h1 := h.size; exact ⟨Nat.lt_of_lt_of_le hb.1 h1, hb.2⟩) (hb.turn h fun b hb => hb.2) hm hn (hx.turnS h fun b hb => hb.2) (hy.turnS h fun b hb => hb.2))
  have HBX := Lib.hid (meet_boxes hm (.cells #[.int .i64 x.kind, .string x.name, .int .i64 x.n, .slice ax x.args.length cx] 25) (.cells #[.int .i64 y.kind, .string y.name, .int .i64 y.n, .slice ay y.args.length cy] 25))
  clear hb hm hx hy hc
  rw [hbo] at HBO
  clear hbo
  unfold BothOut at HBO
  unfold tmv at HBO
  dsimp only at HBO
  rw [show (tmv x ax cx) = .agg #[.int .i64 x.kind, .string x.name, .int .i64 x.n, .slice ax x.args.length cx] from rfl, show (tmv y ay cy) = .agg #[.int .i64 y.kind, .string y.name, .int .i64 y.n, .slice ay y.args.length cy] from rfl]
  go_enter Try.func23, Try.ntmps23
  go_wp2_with fail
  generalize hw0 : (w.alloc _).alloc _ = w0 at *
  obtain ⟨q0, q1, t0, m0, s0⟩ := HBX.out
  refine (HBO.out w0 t0 m0).mono ?_; rintro e w1 ⟨a1, d1, a2, d2, rfl, hx1, hy1, m1, t1⟩
  have HU := Lib.hid (fun X hX => UnB.start (x' := x') (y' := y') hml hw0.symm hx1 hy1 m1 t1 X hX)
  obtain ⟨z0, z1, z2, z3, e0, e1, e2, e3⟩ := cellsT ((t1.block w.heap.size (by omega) (by omega)).trans q0)
  obtain ⟨u0, u1, u2, u3, f0, f1, f2, f3⟩ := cellsT ((t1.block (w.heap.size + 1) (by omega) (by omega)).trans q1)
  clear q0 q1 t0 m0 s0 hw0 hx1 hy1 m1 t1 HBX HBO
  go_upto_region 2 with fail
  generalize hX : World.setCell _ _ _ = w3
  have HUB := Lib.hid (HU.out w3 hX.symm)
  clear z0 z1 z2 z3 e0 e1 e2 e3 u0 u1 u2 u3 f0 f1 f2 f3 hX HU
  obtain ⟨c0, c1, c2, c3, e0, e1, e2, e3⟩ := cellsT HUB.out.bx
  obtain ⟨d0, g1, g2, g3, f0, f1, f2, f3⟩ := cellsT HUB.out.bz
  go_wp2_with fail
  refine bodyPost_ret (v := .tuple #[.slice none 0 0, .bool false, .int .i64 0]) (by simp [results, Try.results23, go_sem]) rfl ?_
  exact HUB.out.noneU

set_option maxRecDepth 100000 in
set_option maxHeartbeats 8000000 in
/-- Of different numbers. -/
theorem u_clash3 (bs : List (Int × Tm)) (ab : Option Addr) (cb mb n n2 : Nat) (x y x' y' : Tm) (ax : Option Addr) (cx : Nat) (ay : Option Addr) (cy : Nat) (w : World) (hlen : bs.length ≤ 1000000) (_hl : bs.length ≤ cb) (hc : cb ≤ maxLen) (hb : BdsAt w (Old mb w) ab bs) (hm : MtAt w mb n) (hn : n ≤ 2000) (hx : TmP w (Old mb w) x ax cx) (hy : TmP w (Old mb w) y ay cy) (hbo : bothL bs n x y = (x', y', 0, n2)) (kx : x'.kind ≠ 1) (ky : y'.kind ≠ 1) (k : x'.kind = y'.kind) (ka : x'.name = y'.name) (kn : x'.n ≠ y'.n) :
    Calls Try.prog 23 #[.pointer (some ⟨mb, 0, none⟩), .slice ab bs.length cb, tmv x ax cx, tmv y ay cy] w (UniOut mb w (none, 0, n2)) := by
  have hxk : (x'.kind == 1) = false := by simp [kx]
  have hyk : (y'.kind == 1) = false := by simp [ky]
  clear kx ky
  have hk : (x'.kind != y'.kind) = false := by simp [k]
  have ha : (x'.name.toList == y'.name.toList) = true := by rw [ka]; exact beq_self_eq_true _
  have hnn : (x'.n != y'.n) = true := bne_iff_ne.2 kn
  clear k ka kn
  have hml := hm.lt
  have HBD := Lib.hid hb
  have HC := Lib.hid hc
  have HBO := Lib.hid (fun W (h : Turn (fun j => j = mb) w W) (hm : MtAt W mb n) => r10_both bs ab cb mb n x y ax cx ay cy W (Old mb w) hlen (fun b hb => by have h1 := h.size; exact ⟨Nat.lt_of_lt_of_le hb.1 h1, hb.2⟩) (hb.turn h fun b hb => hb.2) hm hn (hx.turnS h fun b hb => hb.2) (hy.turnS h fun b hb => hb.2))
  have HBX := Lib.hid (meet_boxes hm (.cells #[.int .i64 x.kind, .string x.name, .int .i64 x.n, .slice ax x.args.length cx] 25) (.cells #[.int .i64 y.kind, .string y.name, .int .i64 y.n, .slice ay y.args.length cy] 25))
  clear hb hm hx hy hc
  rw [hbo] at HBO
  clear hbo
  unfold BothOut at HBO
  unfold tmv at HBO
  dsimp only at HBO
  rw [show (tmv x ax cx) = .agg #[.int .i64 x.kind, .string x.name, .int .i64 x.n, .slice ax x.args.length cx] from rfl, show (tmv y ay cy) = .agg #[.int .i64 y.kind, .string y.name, .int .i64 y.n, .slice ay y.args.length cy] from rfl]
  go_enter Try.func23, Try.ntmps23
  go_wp2_with fail
  generalize hw0 : (w.alloc _).alloc _ = w0 at *
  obtain ⟨q0, q1, t0, m0, s0⟩ := HBX.out
  refine (HBO.out w0 t0 m0).mono ?_; rintro e w1 ⟨a1, d1, a2, d2, rfl, hx1, hy1, m1, t1⟩
  have HU := Lib.hid (fun X hX => UnB.start (x' := x') (y' := y') hml hw0.symm hx1 hy1 m1 t1 X hX)
  obtain ⟨z0, z1, z2, z3, e0, e1, e2, e3⟩ := cellsT ((t1.block w.heap.size (by omega) (by omega)).trans q0)
  obtain ⟨u0, u1, u2, u3, f0, f1, f2, f3⟩ := cellsT ((t1.block (w.heap.size + 1) (by omega) (by omega)).trans q1)
  clear q0 q1 t0 m0 s0 hw0 hx1 hy1 m1 t1 HBX HBO
  go_upto_region 2 with fail
  generalize hX : World.setCell _ _ _ = w3
  have HUB := Lib.hid (HU.out w3 hX.symm)
  clear z0 z1 z2 z3 e0 e1 e2 e3 u0 u1 u2 u3 f0 f1 f2 f3 hX HU
  obtain ⟨c0, c1, c2, c3, e0, e1, e2, e3⟩ := cellsT HUB.out.bx
  obtain ⟨d0, g1, g2, g3, f0, f1, f2, f3⟩ := cellsT HUB.out.bz
  go_wp2_with fail
  refine bodyPost_ret (v := .tuple #[.slice none 0 0, .bool false, .int .i64 0]) (by simp [results, Try.results23, go_sem]) rfl ?_
  exact HUB.out.noneU

set_option maxRecDepth 100000 in
set_option maxHeartbeats 8000000 in
/-- With different numbers of arguments. -/
theorem u_clash4 (bs : List (Int × Tm)) (ab : Option Addr) (cb mb n n2 : Nat) (x y x' y' : Tm) (ax : Option Addr) (cx : Nat) (ay : Option Addr) (cy : Nat) (w : World) (hlen : bs.length ≤ 1000000) (_hl : bs.length ≤ cb) (hc : cb ≤ maxLen) (hb : BdsAt w (Old mb w) ab bs) (hm : MtAt w mb n) (hn : n ≤ 2000) (hx : TmP w (Old mb w) x ax cx) (hy : TmP w (Old mb w) y ay cy) (hbo : bothL bs n x y = (x', y', 0, n2)) (kx : x'.kind ≠ 1) (ky : y'.kind ≠ 1) (k : x'.kind = y'.kind) (ka : x'.name = y'.name) (kn : x'.n = y'.n) (kl : x'.args.length ≠ y'.args.length) :
    Calls Try.prog 23 #[.pointer (some ⟨mb, 0, none⟩), .slice ab bs.length cb, tmv x ax cx, tmv y ay cy] w (UniOut mb w (none, 0, n2)) := by
  have hxk : (x'.kind == 1) = false := by simp [kx]
  have hyk : (y'.kind == 1) = false := by simp [ky]
  clear kx ky
  have hk : (x'.kind != y'.kind) = false := by simp [k]
  have ha : (x'.name.toList == y'.name.toList) = true := by rw [ka]; exact beq_self_eq_true _
  have hnn : (x'.n != y'.n) = false := by simp [kn]
  have hll : ((x'.args.length : Int) != (y'.args.length : Int)) = true := bne_iff_ne.2 (by omega)
  clear k ka kn kl
  have hml := hm.lt
  have HBD := Lib.hid hb
  have HC := Lib.hid hc
  have HBO := Lib.hid (fun W (h : Turn (fun j => j = mb) w W) (hm : MtAt W mb n) => r10_both bs ab cb mb n x y ax cx ay cy W (Old mb w) hlen (fun b hb => by have h1 := h.size; exact ⟨Nat.lt_of_lt_of_le hb.1 h1, hb.2⟩) (hb.turn h fun b hb => hb.2) hm hn (hx.turnS h fun b hb => hb.2) (hy.turnS h fun b hb => hb.2))
  have HBX := Lib.hid (meet_boxes hm (.cells #[.int .i64 x.kind, .string x.name, .int .i64 x.n, .slice ax x.args.length cx] 25) (.cells #[.int .i64 y.kind, .string y.name, .int .i64 y.n, .slice ay y.args.length cy] 25))
  clear hb hm hx hy hc
  rw [hbo] at HBO
  clear hbo
  unfold BothOut at HBO
  unfold tmv at HBO
  dsimp only at HBO
  rw [show (tmv x ax cx) = .agg #[.int .i64 x.kind, .string x.name, .int .i64 x.n, .slice ax x.args.length cx] from rfl, show (tmv y ay cy) = .agg #[.int .i64 y.kind, .string y.name, .int .i64 y.n, .slice ay y.args.length cy] from rfl]
  go_enter Try.func23, Try.ntmps23
  go_wp2_with fail
  generalize hw0 : (w.alloc _).alloc _ = w0 at *
  obtain ⟨q0, q1, t0, m0, s0⟩ := HBX.out
  refine (HBO.out w0 t0 m0).mono ?_; rintro e w1 ⟨a1, d1, a2, d2, rfl, hx1, hy1, m1, t1⟩
  have HU := Lib.hid (fun X hX => UnB.start (x' := x') (y' := y') hml hw0.symm hx1 hy1 m1 t1 X hX)
  obtain ⟨z0, z1, z2, z3, e0, e1, e2, e3⟩ := cellsT ((t1.block w.heap.size (by omega) (by omega)).trans q0)
  obtain ⟨u0, u1, u2, u3, f0, f1, f2, f3⟩ := cellsT ((t1.block (w.heap.size + 1) (by omega) (by omega)).trans q1)
  clear q0 q1 t0 m0 s0 hw0 hx1 hy1 m1 t1 HBX HBO
  go_upto_region 2 with fail
  generalize hX : World.setCell _ _ _ = w3
  have HUB := Lib.hid (HU.out w3 hX.symm)
  clear z0 z1 z2 z3 e0 e1 e2 e3 u0 u1 u2 u3 f0 f1 f2 f3 hX HU
  obtain ⟨c0, c1, c2, c3, e0, e1, e2, e3⟩ := cellsT HUB.out.bx
  obtain ⟨d0, g1, g2, g3, f0, f1, f2, f3⟩ := cellsT HUB.out.bz
  go_wp2_with fail
  refine bodyPost_ret (v := .tuple #[.slice none 0 0, .bool false, .int .i64 0]) (by simp [results, Try.results23, go_sem]) rfl ?_
  exact HUB.out.noneU
end Go.Proofs.Ytlpmofmhcnclhaa
