/-
  The contract of the document's own both for unify.
-/
import Derived.Test.YtlpmofmhcnclhaaUniA
import Derived.RegionTactic
import Derived.BigRegion
namespace Go.Proofs.Ytlpmofmhcnclhaa
open Go.RowKit

/-- Two terms met: both (the second one as it was, where the first one is too far), the error, how many steps. -/
def bothL (bs : List (Int × Tm)) (n : Nat) (x y : Tm) : Tm × Tm × Int × Nat :=
  if (meetL bs n x).2.1 ≠ 0 then ((meetL bs n x).1, y, (meetL bs n x).2.1, (meetL bs n x).2.2)
  else ((meetL bs n x).1, (meetL bs (meetL bs n x).2.2 y).1, (meetL bs (meetL bs n x).2.2 y).2.1, (meetL bs (meetL bs n x).2.2 y).2.2)
def BothOut (P : Nat → Prop) (mb : Nat) (w : World) (r : Tm × Tm × Int × Nat) (e : Ending) (w' : World) : Prop :=
  ∃ a1 c1 a2 c2, e = .returned (.tuple #[tmv r.1 a1 c1, tmv r.2.1 a2 c2, .int .i64 r.2.2.1]) ∧ TmP w' P r.1 a1 c1 ∧ TmP w' P r.2.1 a2 c2 ∧ MtAt w' mb r.2.2.2 ∧ Turn (fun j => j = mb) w w'
/-- Within both: its four boxes. -/
structure BothI (P : Nat → Prop) (mb n : Nat) (w : World) (x y : Tm) (a1 : Option Addr) (c1 : Nat) (a2 : Option Addr) (c2 : Nat) (W : World) : Prop where
  bx : W.heap[w.heap.size]? = some (.cells #[.int .i64 x.kind, .string x.name, .int .i64 x.n, .slice a1 x.args.length c1] 25 (0, 0))
  bz : W.heap[w.heap.size + 1]? = some (.cells #[.int .i64 y.kind, .string y.name, .int .i64 y.n, .slice a2 y.args.length c2] 25 (0, 0))
  bu : W.heap[w.heap.size + 2]? = some (.cells #[.int .i64 0, .string ⟨#[]⟩, .int .i64 0, .slice none 0 0] 25 (0, 0))
  bv : W.heap[w.heap.size + 3]? = some (.cells #[.int .i64 0, .string ⟨#[]⟩, .int .i64 0, .slice none 0 0] 25 (0, 0))
  px : TmP W P x a1 c1
  py : TmP W P y a2 c2
  mt : MtAt W mb n
  turn : Turn (fun j => j = mb ∨ w.heap.size ≤ j) w W
theorem BothI.start {P : Nat → Prop} {mb n : Nat} {w : World} {x y : Tm} {a1 : Option Addr} {c1 : Nat} {a2 : Option Addr} {c2 : Nat} (hm : MtAt w mb n) (hx : TmP w P x a1 c1) (hy : TmP w P y a2 c2) :
    BothI P mb n w x y a1 c1 a2 c2 ((((w.alloc (.cells #[.int .i64 x.kind, .string x.name, .int .i64 x.n, .slice a1 x.args.length c1] 25)).alloc (.cells #[.int .i64 y.kind, .string y.name, .int .i64 y.n, .slice a2 y.args.length c2] 25)).alloc (.cells #[.int .i64 0, .string ⟨#[]⟩, .int .i64 0, .slice none 0 0] 25)).alloc (.cells #[.int .i64 0, .string ⟨#[]⟩, .int .i64 0, .slice none 0 0] 25)) := by
  have hb : ∀ o1 o2 o3 o4 : Obj, Below w.heap.size w ((((w.alloc o1).alloc o2).alloc o3).alloc o4) := fun o1 o2 o3 o4 => ((((Below.refl _ w).alloc (Nat.le_refl _) o1).alloc (by simp) o2).alloc (by simp <;> omega) o3).alloc (by simp <;> omega) o4
  refine ⟨?_, ?_, ?_, ?_, hx.onS (hb _ _ _ _), hy.onS (hb _ _ _ _), hm.on (hb _ _ _ _), ⟨(hb _ _ _ _).os, (hb _ _ _ _).tape, (hb _ _ _ _).output, (hb _ _ _ _).size, fun k hk _ => (hb _ _ _ _).block k hk⟩⟩
  · exact (Below.heap_alloc _ _ _ (by simp <;> omega)).trans ((Below.heap_alloc _ _ _ (by simp <;> omega)).trans ((Below.heap_alloc _ _ _ (by simp)).trans (alloc_new w _)))
  · exact (Below.heap_alloc _ _ _ (by simp <;> omega)).trans ((Below.heap_alloc _ _ _ (by simp)).trans (alloc_new2 w _ _))
  · have h := alloc_new2 (w.alloc (.cells #[.int .i64 x.kind, .string x.name, .int .i64 x.n, .slice a1 x.args.length c1] 25)) (.cells #[.int .i64 y.kind, .string y.name, .int .i64 y.n, .slice a2 y.args.length c2] 25) (.cells #[.int .i64 0, .string ⟨#[]⟩, .int .i64 0, .slice none 0 0] 25)
    rw [World.size_alloc] at h
    exact (Below.heap_alloc _ _ _ (by simp <;> omega)).trans h
  · have h := alloc_new2 ((w.alloc (.cells #[.int .i64 x.kind, .string x.name, .int .i64 x.n, .slice a1 x.args.length c1] 25)).alloc (.cells #[.int .i64 y.kind, .string y.name, .int .i64 y.n, .slice a2 y.args.length c2] 25)) (.cells #[.int .i64 0, .string ⟨#[]⟩, .int .i64 0, .slice none 0 0] 25) (.cells #[.int .i64 0, .string ⟨#[]⟩, .int .i64 0, .slice none 0 0] 25)
    rw [World.size_alloc, World.size_alloc] at h
    exact h
theorem BothOut.drew {P : Nat → Prop} {mb : Nat} {w : World} {r : Tm × Tm × Int × Nat} {e : Ending} {w' : World} (h : BothOut P mb w r e w') : BothOut P mb w r e w'.drew := by
  obtain ⟨a1, c1, a2, c2, h1, h2, h3, h4, h5⟩ := h
  exact ⟨a1, c1, a2, c2, h1, h2.turnS (Turn.drew (fun _ => False) w') fun _ _ h => h, h3.turnS (Turn.drew (fun _ => False) w') fun _ _ h => h, h4, h5.trans (Turn.drew _ w')⟩
/-- The first one met. -/
theorem BothI.first {P : Nat → Prop} {mb n n1 : Nat} {w W W1 : World} {x x' y : Tm} {a1 a1' : Option Addr} {c1 c1' : Nat} {a2 : Option Addr} {c2 : Nat} (h : BothI P mb n w x y a1 c1 a2 c2 W) (hm : mb < w.heap.size) (hP : ∀ b, P b → b < w.heap.size ∧ b ≠ mb) (hx : TmP W1 P x' a1' c1') (h1 : MtAt W1 mb n1) (t1 : Turn (fun j => j = mb) W W1) :
    BothI P mb n1 w x' y a1' c1' a2 c2 ((((W1.setCell ⟨w.heap.size, 0, none⟩ (.int .i64 x'.kind)).setCell ⟨w.heap.size, 1, none⟩ (.string x'.name)).setCell ⟨w.heap.size, 2, none⟩ (.int .i64 x'.n)).setCell ⟨w.heap.size, 3, none⟩ (.slice a1' x'.args.length c1')) := by
  have l1 := (Array.getElem?_eq_some_iff.1 h.bx).1
  have l2 := (Array.getElem?_eq_some_iff.1 h.bz).1
  have l3 := (Array.getElem?_eq_some_iff.1 h.bu).1
  have l4 := (Array.getElem?_eq_some_iff.1 h.bv).1
  have k := Turn.set4 (M := fun j => j = w.heap.size) (W := W1) (q := w.heap.size) rfl (.int .i64 x'.kind) (.string x'.name) (.int .i64 x'.n) (.slice a1' x'.args.length c1')
  have hs := t1.size
  have o : ∀ j, j ≠ w.heap.size → j ≠ mb → j < W.heap.size → _ := fun j h1 h2 h3 => (set4_oth (W := W1) (q := w.heap.size) (j := j) (.int .i64 x'.kind) (.string x'.name) (.int .i64 x'.n) (.slice a1' x'.args.length c1') h1).trans (t1.block j h3 h2)
  refine ⟨set4_blk ((t1.block _ l1 (by omega)).trans h.bx) _ _ _ _, (o _ (by omega) (by omega) l2).trans h.bz, (o _ (by omega) (by omega) l3).trans h.bu, (o _ (by omega) (by omega) l4).trans h.bv, hx.turnS k fun b hb => by have := hP b hb; omega, (h.py.turnS t1 fun b hb => (hP b hb).2).turnS k fun b hb => by have := hP b hb; omega, h1.turn k (by omega), ?_⟩
  exact (h.turn.trans (t1.more fun j e => .inl e)).trans (k.more fun j e => .inr (by omega))
/-- The second one met. -/
theorem BothI.second {P : Nat → Prop} {mb n n1 : Nat} {w W W1 : World} {x y y' : Tm} {a1 : Option Addr} {c1 : Nat} {a2 a2' : Option Addr} {c2 c2' : Nat} (h : BothI P mb n w x y a1 c1 a2 c2 W) (hm : mb < w.heap.size) (hP : ∀ b, P b → b < w.heap.size ∧ b ≠ mb) (hy : TmP W1 P y' a2' c2') (h1 : MtAt W1 mb n1) (t1 : Turn (fun j => j = mb) W W1) :
    BothI P mb n1 w x y' a1 c1 a2' c2' ((((W1.setCell ⟨w.heap.size + 1, 0, none⟩ (.int .i64 y'.kind)).setCell ⟨w.heap.size + 1, 1, none⟩ (.string y'.name)).setCell ⟨w.heap.size + 1, 2, none⟩ (.int .i64 y'.n)).setCell ⟨w.heap.size + 1, 3, none⟩ (.slice a2' y'.args.length c2')) := by
  have l1 := (Array.getElem?_eq_some_iff.1 h.bx).1
  have l2 := (Array.getElem?_eq_some_iff.1 h.bz).1
  have l3 := (Array.getElem?_eq_some_iff.1 h.bu).1
  have l4 := (Array.getElem?_eq_some_iff.1 h.bv).1
  have k := Turn.set4 (M := fun j => j = w.heap.size + 1) (W := W1) (q := w.heap.size + 1) rfl (.int .i64 y'.kind) (.string y'.name) (.int .i64 y'.n) (.slice a2' y'.args.length c2')
  have hs := t1.size
  have o : ∀ j, j ≠ w.heap.size + 1 → j ≠ mb → j < W.heap.size → _ := fun j h1 h2 h3 => (set4_oth (W := W1) (q := w.heap.size + 1) (j := j) (.int .i64 y'.kind) (.string y'.name) (.int .i64 y'.n) (.slice a2' y'.args.length c2') h1).trans (t1.block j h3 h2)
  refine ⟨(o _ (by omega) (by omega) l1).trans h.bx, set4_blk ((t1.block _ l2 (by omega)).trans h.bz) _ _ _ _, (o _ (by omega) (by omega) l3).trans h.bu, (o _ (by omega) (by omega) l4).trans h.bv, (h.px.turnS t1 fun b hb => (hP b hb).2).turnS k fun b hb => by have := hP b hb; omega, hy.turnS k fun b hb => by have := hP b hb; omega, h1.turn k (by omega), ?_⟩
  exact (h.turn.trans (t1.more fun j e => .inl e)).trans (k.more fun j e => .inr (by omega))
/-- Both laid into the results. -/
theorem BothI.end {P : Nat → Prop} {mb n : Nat} {er : Int} {w W : World} {x y : Tm} {a1 : Option Addr} {c1 : Nat} {a2 : Option Addr} {c2 : Nat} (h : BothI P mb n w x y a1 c1 a2 c2 W) (hm : mb < w.heap.size) (hP : ∀ b, P b → b < w.heap.size ∧ b ≠ mb) (X : World)
    (hX : X = ((((((((W.setCell ⟨w.heap.size + 2, 0, none⟩ (.int .i64 x.kind)).setCell ⟨w.heap.size + 2, 1, none⟩ (.string x.name)).setCell ⟨w.heap.size + 2, 2, none⟩ (.int .i64 x.n)).setCell ⟨w.heap.size + 2, 3, none⟩ (.slice a1 x.args.length c1)).setCell ⟨w.heap.size + 3, 0, none⟩ (.int .i64 y.kind)).setCell ⟨w.heap.size + 3, 1, none⟩ (.string y.name)).setCell ⟨w.heap.size + 3, 2, none⟩ (.int .i64 y.n)).setCell ⟨w.heap.size + 3, 3, none⟩ (.slice a2 y.args.length c2))) :
    BothOut P mb w (x, y, er, n) (.returned (.tuple #[tmv x a1 c1, tmv y a2 c2, .int .i64 er])) X ∧ X.heap[w.heap.size + 2]? = some (.cells #[.int .i64 x.kind, .string x.name, .int .i64 x.n, .slice a1 x.args.length c1] 25 (0, 0)) ∧ X.heap[w.heap.size + 3]? = some (.cells #[.int .i64 y.kind, .string y.name, .int .i64 y.n, .slice a2 y.args.length c2] 25 (0, 0)) := by
  subst hX
  have k1 := Turn.set4 (M := fun j => w.heap.size ≤ j) (W := W) (q := w.heap.size + 2) (by omega) (.int .i64 x.kind) (.string x.name) (.int .i64 x.n) (.slice a1 x.args.length c1)
  have b1 := set4_blk h.bu (.int .i64 x.kind) (.string x.name) (.int .i64 x.n) (.slice a1 x.args.length c1)
  have b2 := (set4_oth (W := W) (q := w.heap.size + 2) (j := w.heap.size + 3) (.int .i64 x.kind) (.string x.name) (.int .i64 x.n) (.slice a1 x.args.length c1) (by omega)).trans h.bv
  generalize (((W.setCell ⟨w.heap.size + 2, 0, none⟩ _).setCell _ _).setCell _ _).setCell _ _ = W1 at *
  have k2 := Turn.set4 (M := fun j => w.heap.size ≤ j) (W := W1) (q := w.heap.size + 3) (by omega) (.int .i64 y.kind) (.string y.name) (.int .i64 y.n) (.slice a2 y.args.length c2)
  have b3 := set4_blk b2 (.int .i64 y.kind) (.string y.name) (.int .i64 y.n) (.slice a2 y.args.length c2)
  have b4 := (set4_oth (W := W1) (q := w.heap.size + 3) (j := w.heap.size + 2) (.int .i64 y.kind) (.string y.name) (.int .i64 y.n) (.slice a2 y.args.length c2) (by omega)).trans b1
  have k := k1.trans k2
  exact ⟨⟨a1, c1, a2, c2, rfl, h.px.turnS k fun b hb => by have := hP b hb; omega, h.py.turnS k fun b hb => by have := hP b hb; omega, h.mt.turn k (by omega), turn_own h.turn k⟩, b4, b3⟩

set_option maxRecDepth 100000 in
set_option maxHeartbeats 8000000 in
theorem r10_both (bs : List (Int × Tm)) (ab : Option Addr) (cb mb n : Nat) (x y : Tm) (ax : Option Addr) (cx : Nat) (ay : Option Addr) (cy : Nat) (w : World) (P : Nat → Prop) (hlen : bs.length ≤ 1000000) (hP : ∀ b, P b → b < w.heap.size ∧ b ≠ mb) (hb : BdsAt w P ab bs) (hm : MtAt w mb n) (hn : n ≤ 2000) (hx : TmP w P x ax cx) (hy : TmP w P y ay cy) :
    Calls Try.prog 34 #[.pointer (some ⟨mb, 0, none⟩), .slice ab bs.length cb, tmv x ax cx, tmv y ay cy] w (BothOut P mb w (bothL bs n x y)) := by
  have hml := hm.lt
  have HP := Lib.hid hP
  have HI := Lib.hid (BothI.start hm hx hy)
  have HM := Lib.hid (fun (t : Tm) (ad : Option Addr) (cap n : Nat) (W : World) (hW : Turn (fun j => j = mb ∨ w.heap.size ≤ j) w W) (hn : n ≤ 2000) (hm : MtAt W mb n) (ht : TmP W P t ad cap) => r9_Meet bs ab cb mb n t ad cap W P hlen (fun b hb => by have h1 := hP b hb; have h2 := hW.size; exact ⟨by omega, h1.2⟩) (hb.turn hW fun b hb' => by have h1 := hP b hb'; omega) hm hn ht)
  have hout := meet_out bs n x hn
  clear hP hb hm hx hy
  unfold bothL
  have HX0 := Lib.hid (HM.out x ax cx n _ HI.out.turn hn HI.out.mt HI.out.px)
  rw [show (tmv x ax cx) = .agg #[.int .i64 x.kind, .string x.name, .int .i64 x.n, .slice ax x.args.length cx] from rfl, show (tmv y ay cy) = .agg #[.int .i64 y.kind, .string y.name, .int .i64 y.n, .slice ay y.args.length cy] from rfl]
  generalize hr : meetL bs n x = r at *
  obtain ⟨x', er, n1⟩ := r
  dsimp only at hout ⊢
  rcases hout with ⟨rfl, _, _, hn1⟩ | ⟨rfl, rfl, rfl⟩
  · rw [if_neg (by nofun)]
    have HM2 := Lib.hid (fun W (hW : Turn (fun j => j = mb ∨ w.heap.size ≤ j) w W) (hm : MtAt W mb n1) (ht : TmP W P y ay cy) => HM.out y ay cy n1 W hW hn1 hm ht)
    clear HM hr
    generalize meetL bs n1 y = r2 at *
    obtain ⟨y', er2, n2⟩ := r2
    dsimp only at HM2 ⊢
    unfold WalkOut at HX0 HM2
    unfold tmv at HX0 HM2
    dsimp only at HX0 HM2
    obtain ⟨c0, c1, c2, c3, _⟩ := cellsT HI.out.bx
    go_enter Try.func34, Try.ntmps34
    go_wp2_with fail
    generalize (((w.alloc _).alloc _).alloc _).alloc _ = w0 at *
    refine HX0.out.mono ?_; rintro e w1 ⟨a1, d1, rfl, hx1, m1, t1⟩
    have HJ := Lib.hid (HI.out.first hml HP.out hx1 m1 t1)
    obtain ⟨z0, z1, z2, z3, e0, e1, e2, e3⟩ := cellsT ((t1.block w.heap.size (Array.getElem?_eq_some_iff.1 HI.out.bx).1 (by omega)).trans HI.out.bx)
    clear hx1 m1 t1 c0 c1 c2 c3 HX0
    go_upto_region 2 with fail
    generalize (((w1.setCell _ _).setCell _ _).setCell _ _).setCell _ _ = w2 at *
    have HY0 := Lib.hid (HM2.out w2 HJ.out.turn HJ.out.mt HJ.out.py)
    clear z0 z1 z2 z3 e0 e1 e2 e3 HM2 HI
    obtain ⟨c0, c1, c2, c3, _⟩ := cellsT HJ.out.bz
    go_wp2_with fail
    refine HY0.out.mono ?_; rintro e w3 ⟨a2, d2, rfl, hy3, m3, t3⟩
    have HK := Lib.hid (HJ.out.second hml HP.out hy3 m3 t3)
    obtain ⟨z0, z1, z2, z3, e0, e1, e2, e3⟩ := cellsT ((t3.block (w.heap.size + 1) (Array.getElem?_eq_some_iff.1 HJ.out.bz).1 (by omega)).trans HJ.out.bz)
    clear hy3 m3 t3 c0 c1 c2 c3 HY0 HJ
    go_upto_region 5 with fail
    generalize (((w3.setCell _ _).setCell _ _).setCell _ _).setCell _ _ = w4 at *
    clear z0 z1 z2 z3 e0 e1 e2 e3
    obtain ⟨c0, c1, c2, c3, _⟩ := cellsT HK.out.bx
    obtain ⟨d0, d1', d2', d3, _⟩ := cellsT HK.out.bz
    obtain ⟨u0, u1, u2, u3, f0, f1, f2, f3⟩ := cellsT HK.out.bu
    obtain ⟨v0, v1, v2, v3, g0, g1, g2, g3⟩ := cellsT HK.out.bv
    have HE := Lib.hid (fun X hX => HK.out.end (er := er2) hml HP.out X hX)
    go_region
    go_wp2_with fail
    generalize hX : World.setCell _ _ _ = X
    obtain ⟨q1, q2, q3⟩ := HE.out X hX.symm
    clear hX HE
    obtain ⟨p0, p1, p2, p3, _⟩ := cellsT q2
    obtain ⟨r0, r1, r2, r3, _⟩ := cellsT q3
    refine bodyPost_ret (v := .tuple #[tmv x' a1 d1, tmv y' a2 d2, .int .i64 er2]) (by simp [results, Try.results34, go_sem, tmv, p0, p1, p2, p3, r0, r1, r2, r3]) rfl ?_
    exact q1.drew
  · rw [if_pos (by nofun)]
    clear HM hr
    unfold WalkOut at HX0
    unfold tmv at HX0
    dsimp only at HX0
    obtain ⟨c0, c1, c2, c3, _⟩ := cellsT HI.out.bx
    go_enter Try.func34, Try.ntmps34
    go_wp2_with fail
    generalize (((w.alloc _).alloc _).alloc _).alloc _ = w0 at *
    refine HX0.out.mono ?_; rintro e w1 ⟨a1, d1, rfl, hx1, m1, t1⟩
    have HJ := Lib.hid (HI.out.first hml HP.out hx1 m1 t1)
    obtain ⟨z0, z1, z2, z3, e0, e1, e2, e3⟩ := cellsT ((t1.block w.heap.size (Array.getElem?_eq_some_iff.1 HI.out.bx).1 (by omega)).trans HI.out.bx)
    clear hx1 m1 t1 c0 c1 c2 c3 HX0
    go_upto_region 2 with fail
    generalize (((w1.setCell _ _).setCell _ _).setCell _ _).setCell _ _ = w2 at *
    clear z0 z1 z2 z3 e0 e1 e2 e3 HI
    go_upto_region 3 with fail
    obtain ⟨c0, c1, c2, c3, _⟩ := cellsT HJ.out.bx
    obtain ⟨d0, d1', d2', d3, _⟩ := cellsT HJ.out.bz
    obtain ⟨u0, u1, u2, u3, f0, f1, f2, f3⟩ := cellsT HJ.out.bu
    obtain ⟨v0, v1, v2, v3, g0, g1, g2, g3⟩ := cellsT HJ.out.bv
    have HE := Lib.hid (fun X hX => HJ.out.end (er := 140) hml HP.out X hX)
    go_region
    go_wp2_with fail
    generalize hX : World.setCell _ _ _ = X
    obtain ⟨q1, q2, q3⟩ := HE.out X hX.symm
    clear hX HE
    obtain ⟨p0, p1, p2, p3, _⟩ := cellsT q2
    obtain ⟨r0, r1, r2, r3, _⟩ := cellsT q3
    refine bodyPost_ret (v := .tuple #[tmv zeroT a1 d1, tmv y ay cy, .int .i64 140]) (by simp [results, Try.results34, go_sem, tmv, p0, p1, p2, p3, r0, r1, r2, r3]) rfl ?_
    exact q1.drew
end Go.Proofs.Ytlpmofmhcnclhaa
