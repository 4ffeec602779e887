/-
  The ways of the document's own unify: what comes of two terms that were met.
-/
import Derived.Test.YtlpmofmhcnclhaaDoorUniB
import Derived.Test.YtlpmofmhcnclhaaDoorUniPl
import Derived.Test.YtlpmofmhcnclhaaDoorSubW
import Derived.Test.YtlpmofmhcnclhaaDoorSubU
import Derived.Deep.DeepCutAuto
namespace Go.Proofs.YtlpmofmhcnclhaaDoor
open Go.RowKit

theorem bytes_ext {a b : ByteArray} (h : a.toList = b.toList) : a = b := by
  rw [Lib.toList_data, Lib.toList_data] at h
  exact ByteArray.ext (Array.toList_inj.mp h)
/-- The blocks that are there, but the meter. -/
def Old (mb : Nat) (w : World) (b : Nat) : Prop := b < w.heap.size ∧ b ≠ mb
theorem Old.on {mb : Nat} {w w' : World} {b : Nat} (h : Old mb w b) (hs : w.heap.size ≤ w'.heap.size) : Old mb w' b := ⟨Nat.lt_of_lt_of_le h.1 hs, h.2⟩
theorem TArgsP.getU {w : World} {P : Nat → Prop} {b o : Nat} {ts : List Tm} (h : TArgsP w P (some ⟨b, o, none⟩) ts) (i : Nat) (hi : i < ts.length) :
    ∃ ad cap, P b ∧ w.cell? ⟨b, o + i * 4, none⟩ = some (.int .i64 (ts[i]'hi).kind) ∧ w.cell? ⟨b, o + i * 4 + 1, none⟩ = some (.string (ts[i]'hi).name) ∧ w.cell? ⟨b, o + i * 4 + 2, none⟩ = some (.int .i64 (ts[i]'hi).n) ∧
      w.cell? ⟨b, o + i * 4 + 3, none⟩ = some (.slice ad (ts[i]'hi).args.length cap) ∧ TmP w P (ts[i]'hi) ad cap := by
  induction i generalizing o ts with
  | zero =>
    rw [Nat.zero_mul, Nat.add_zero]
    cases h with
    | nil => cases hi
    | cons _ _ k n nm l ts ad cap hp c0 c1 c2 c3 hk hn hm hl hc ha _ => exact ⟨ad, cap, hp, c0, c1, c2, c3, ⟨hk, hn, hm, hl, hc, ha⟩⟩
  | succ i ih =>
    cases h with
    | nil => cases hi
    | cons _ _ k n nm l ts ad cap hp c0 c1 c2 c3 hk hn hm hl hc ha hr =>
      have h9 := ih hr (by simpa using hi)
      rw [show o + (i + 1) * 4 = o + 4 + i * 4 by omega]
      exact h9
theorem TArgsP.addrU {w : World} {P : Nat → Prop} {ad : Option Addr} {ts : List Tm} (h : TArgsP w P ad ts) (hp : 0 < ts.length) : ∃ b o, ad = some ⟨b, o, none⟩ := by
  cases h with
  | nil => cases hp
  | cons b o => exact ⟨b, o, rfl⟩
/-- What unify leaves. -/
def UniOut (mb : Nat) (w : World) (r : Option Bds × Int × Nat) (e : Ending) (w' : World) : Prop :=
  ∃ la lc, e = .returned (.tuple #[.slice la (r.1.getD []).length lc, .bool r.1.isSome, .int .i64 r.2.1]) ∧ (r.1.getD []).length ≤ lc ∧ lc ≤ maxLen ∧ BdsAt w' (Old mb w') la (r.1.getD []) ∧ MtAt w' mb r.2.2 ∧ Turn (fun j => j = mb) w w'
/-- Both terms in their boxes. -/
structure UnB (mb n : Nat) (w : World) (x y : Tm) (a1 : Option Addr) (c1 : Nat) (a2 : Option Addr) (c2 : Nat) (W : World) : Prop where
  bx : W.heap[w.heap.size]? = some (.cells #[.int .i64 x.kind, .string x.name, .int .i64 x.n, .slice a1 x.args.length c1] 25 (0, 0))
  bz : W.heap[w.heap.size + 1]? = some (.cells #[.int .i64 y.kind, .string y.name, .int .i64 y.n, .slice a2 y.args.length c2] 25 (0, 0))
  px : TmP W (Old mb w) x a1 c1
  py : TmP W (Old mb w) y a2 c2
  mt : MtAt W mb n
  turn : Turn (fun j => j = mb) w W
theorem UnB.start {mb n : Nat} {w w0 w1 : World} {x y x' y' : Tm} {ax : Option Addr} {cx : Nat} {ay : Option Addr} {cy : Nat} {a1 : Option Addr} {c1 : Nat} {a2 : Option Addr} {c2 : Nat} (hm : mb < w.heap.size)
    (h0 : w0 = (w.alloc (.cells #[.int .i64 x.kind, .string x.name, .int .i64 x.n, .slice ax x.args.length cx] 25)).alloc (.cells #[.int .i64 y.kind, .string y.name, .int .i64 y.n, .slice ay y.args.length cy] 25))
    (hx : TmP w1 (Old mb w) x' a1 c1) (hy : TmP w1 (Old mb w) y' a2 c2) (hmt : MtAt w1 mb n) (ht : Turn (fun j => j = mb) w0 w1) (X : World)
    (hX : X = ((((((((w1.setCell ⟨w.heap.size, 0, none⟩ (.int .i64 x'.kind)).setCell ⟨w.heap.size, 1, none⟩ (.string x'.name)).setCell ⟨w.heap.size, 2, none⟩ (.int .i64 x'.n)).setCell ⟨w.heap.size, 3, none⟩ (.slice a1 x'.args.length c1)).setCell ⟨w.heap.size + 1, 0, none⟩ (.int .i64 y'.kind)).setCell ⟨w.heap.size + 1, 1, none⟩ (.string y'.name)).setCell ⟨w.heap.size + 1, 2, none⟩ (.int .i64 y'.n)).setCell ⟨w.heap.size + 1, 3, none⟩ (.slice a2 y'.args.length c2))) :
    UnB mb n w x' y' a1 c1 a2 c2 X := by
  subst hX
  have s0 : w0.heap.size = w.heap.size + 2 := by rw [h0]; simp
  have q0 : w0.heap[w.heap.size]? = some (.cells #[.int .i64 x.kind, .string x.name, .int .i64 x.n, .slice ax x.args.length cx] 25 (0, 0)) := by rw [h0]; exact (Below.heap_alloc _ _ _ (by simp)).trans (alloc_new _ _)
  have q1 : w0.heap[w.heap.size + 1]? = some (.cells #[.int .i64 y.kind, .string y.name, .int .i64 y.n, .slice ay y.args.length cy] 25 (0, 0)) := by rw [h0]; exact alloc_new2 _ _ _
  have t0 : Turn (fun j => j = mb) w w0 := by rw [h0]; exact (Turn.alloc _ _ _).trans (Turn.alloc _ _ _)
  have b0 := (ht.block w.heap.size (by omega) (by omega)).trans q0
  have b1 := (ht.block (w.heap.size + 1) (by omega) (by omega)).trans q1
  have k1 := Turn.set4 (M := fun j => w.heap.size ≤ j) (W := w1) (q := w.heap.size) (Nat.le_refl _) (.int .i64 x'.kind) (.string x'.name) (.int .i64 x'.n) (.slice a1 x'.args.length c1)
  have e0 := set4_blk b0 (.int .i64 x'.kind) (.string x'.name) (.int .i64 x'.n) (.slice a1 x'.args.length c1)
  have e1 := (set4_oth (W := w1) (q := w.heap.size) (j := w.heap.size + 1) (.int .i64 x'.kind) (.string x'.name) (.int .i64 x'.n) (.slice a1 x'.args.length c1) (by omega)).trans b1
  generalize (((w1.setCell _ _).setCell _ _).setCell _ _).setCell _ _ = w2 at *
  have k2 := Turn.set4 (M := fun j => w.heap.size ≤ j) (W := w2) (q := w.heap.size + 1) (Nat.le_succ _) (.int .i64 y'.kind) (.string y'.name) (.int .i64 y'.n) (.slice a2 y'.args.length c2)
  have k := k1.trans k2
  have o : ∀ b, Old mb w b → ¬ w.heap.size ≤ b := fun b h => Nat.not_le.2 h.1
  refine ⟨(set4_oth (W := w2) (q := w.heap.size + 1) (j := w.heap.size) _ _ _ _ (by omega)).trans e0, set4_blk e1 _ _ _ _, hx.turnS k o, hy.turnS k o, hmt.turn k (by omega), ?_⟩
  exact turn_own ((t0.trans ht).more fun j e => .inl e) k
/-- Both turned round. -/
theorem UnB.swap {mb n : Nat} {w W : World} {x y : Tm} {a1 : Option Addr} {c1 : Nat} {a2 : Option Addr} {c2 : Nat} (h : UnB mb n w x y a1 c1 a2 c2 W) (hm : mb < w.heap.size) (X : World)
    (hX : X = ((((((((W.setCell ⟨w.heap.size, 0, none⟩ (.int .i64 y.kind)).setCell ⟨w.heap.size, 1, none⟩ (.string y.name)).setCell ⟨w.heap.size, 2, none⟩ (.int .i64 y.n)).setCell ⟨w.heap.size, 3, none⟩ (.slice a2 y.args.length c2)).setCell ⟨w.heap.size + 1, 0, none⟩ (.int .i64 x.kind)).setCell ⟨w.heap.size + 1, 1, none⟩ (.string x.name)).setCell ⟨w.heap.size + 1, 2, none⟩ (.int .i64 x.n)).setCell ⟨w.heap.size + 1, 3, none⟩ (.slice a1 x.args.length c1))) :
    UnB mb n w y x a2 c2 a1 c1 X := by
  subst hX
  have k1 := Turn.set4 (M := fun j => w.heap.size ≤ j) (W := W) (q := w.heap.size) (Nat.le_refl _) (.int .i64 y.kind) (.string y.name) (.int .i64 y.n) (.slice a2 y.args.length c2)
  have e0 := set4_blk h.bx (.int .i64 y.kind) (.string y.name) (.int .i64 y.n) (.slice a2 y.args.length c2)
  have e1 := (set4_oth (W := W) (q := w.heap.size) (j := w.heap.size + 1) (.int .i64 y.kind) (.string y.name) (.int .i64 y.n) (.slice a2 y.args.length c2) (by omega)).trans h.bz
  generalize hw : (((W.setCell _ _).setCell _ _).setCell _ _).setCell _ _ = w2 at *
  have k2 := Turn.set4 (M := fun j => w.heap.size ≤ j) (W := w2) (q := w.heap.size + 1) (Nat.le_succ _) (.int .i64 x.kind) (.string x.name) (.int .i64 x.n) (.slice a1 x.args.length c1)
  have k := k1.trans k2
  have o : ∀ b, Old mb w b → ¬ w.heap.size ≤ b := fun b h => Nat.not_le.2 h.1
  refine ⟨(set4_oth (W := w2) (q := w.heap.size + 1) (j := w.heap.size) _ _ _ _ (by omega)).trans e0, set4_blk e1 _ _ _ _, h.py.turnS k o, h.px.turnS k o, h.mt.turn k (by omega), ?_⟩
  exact turn_own (h.turn.more fun j e => .inl e) k
theorem UnB.noneU {mb n : Nat} {er : Int} {w W : World} {x y : Tm} {a1 : Option Addr} {c1 : Nat} {a2 : Option Addr} {c2 : Nat} (h : UnB mb n w x y a1 c1 a2 c2 W) : UniOut mb w (Option.none, er, n) (.returned (.tuple #[.slice Option.none 0 0, .bool false, .int .i64 er])) W :=
  ⟨Option.none, 0, rfl, Nat.le_refl _, Nat.zero_le _, BdsAt.nil, h.mt, h.turn⟩
theorem UnB.as {mb n : Nat} {w W : World} {x y : Tm} {a1 : Option Addr} {c1 : Nat} {a2 : Option Addr} {c2 : Nat} (h : UnB mb n w x y a1 c1 a2 c2 W) {bs : Bds} {ab : Option Addr} {cb : Nat} (hl : bs.length ≤ cb) (hc : cb ≤ maxLen) (hb : BdsAt w (Old mb w) ab bs) : UniOut mb w (some bs, 0, n) (.returned (.tuple #[.slice ab bs.length cb, .bool true, .int .i64 0])) W :=
  ⟨ab, cb, rfl, hl, hc, hb.kept (fun b hb hl => h.turn.block b hl hb.2) fun _ hb _ => hb.on h.turn.size, h.mt, h.turn⟩
/-- A row of one's own with a binding more, as bindings. -/
theorem OwnBds.atM {M : Nat → Prop} {B : Nat} {w : World} {v : Value} {bs : List (Int × Tm)} (h : OwnBds M B w v bs) : ∃ ad cap, v = .slice ad bs.length cap ∧ bs.length ≤ cap ∧ cap ≤ maxLen ∧ BdsAt w (fun b => M b ∨ B ≤ b) ad bs := by
  obtain ⟨xs, h1, h2⟩ := h
  have h0 := h1
  obtain ⟨hl, ⟨rfl, hz⟩ | ⟨g, cap, cur, rfl, hb, hh, hn, hm, _⟩⟩ := h1
  · exact ⟨_, _, by rw [hz], by omega, Nat.zero_le _, fun k hk => by omega⟩
  · refine ⟨_, _, rfl, hn, hm, fun k hk => ?_⟩
    obtain ⟨a1, c1, ⟨hi, g1⟩, g2⟩ := h2.2 k hk
    have at5 : ∀ j, j < 5 → w.cell? ⟨g, 0 + k * 5 + j, none⟩ = (bcellsP bs[k] a1 c1)[j]? := fun j hj => by
      rw [Nat.zero_add, h0.cellAt (k * 5 + j) (by omega), g2 j hj]
    exact ⟨g, 0, a1, c1, rfl, .inr hb, hi, g1.kept (fun _ _ _ => rfl) fun b h _ => .inl h.1, at5 0 (by omega), at5 1 (by omega), at5 2 (by omega), at5 3 (by omega), at5 4 (by omega)⟩
theorem order_postM {M : Nat → Prop} {B : Nat} {w2 w8 w9 : World} {v3 v9 : Value} {news : List Value} {bs : List (Int × Tm)} {y : Int × Tm} {ad : Option Addr} {cap : Nat} (hM : ∀ b, M b → b < B) (hB : B ≤ w2.heap.size) (hb8 : Below B w2 w8) (hlt : ∀ k, v3.ownBlock = some k → B ≤ k) (hrow : BRow w8 M news bs) (hi : In64 y.1) (hp : TmP w8 M y.2 ad cap)
    (ho : w9.ownsRow B 39 5 v9 (bs.length + 1) (news ++ bcellsP y ad cap)) (hg : w8.grownBy w9 v3.ownBlock) (hat : v9.ownBlock = v3.ownBlock ∨ v9.ownBlock = some w8.heap.size) : OwnBds M B w9 v9 (bs ++ [y]) ∧ Below B w2 w9 := by
  have hne : ∀ b, M b → M b ∧ some b ≠ v3.ownBlock := fun b hb => ⟨hb, fun e => by have := hlt b e.symm; have := hM b hb; omega⟩
  refine ⟨OwnBds.grown (hrow.kept (fun _ _ _ => rfl) fun b h _ => hne b h) ho hg (hat.imp id fun h => ⟨_, h, Nat.le_refl _⟩) hi (hp.kept (fun _ _ _ => rfl) fun b h _ => hne b h), ?_⟩
  exact hb8.grown hg (by have := hb8.size; omega) hlt
/-- The bindings with one more. -/
theorem UnB.more {mb n : Nat} {w W w9 : World} {x y : Tm} {a1 : Option Addr} {c1 : Nat} {a2 : Option Addr} {c2 : Nat} (h : UnB mb n w x y a1 c1 a2 c2 W) (hm : mb < w.heap.size) {bs : Bds} {v9 : Value} (ho : OwnBds (Old mb w) W.heap.size w9 v9 bs) (hb : Below W.heap.size W w9) : UniOut mb w (some bs, 0, n) (.returned (.tuple #[v9, .bool true, .int .i64 0])) w9 := by
  obtain ⟨ad, cap, rfl, h1, h2, h3⟩ := ho.atM
  have hs := h.turn.size
  exact ⟨ad, cap, rfl, h1, h2, h3.kept (fun _ _ _ => rfl) fun b hb hl => ⟨hl, hb.elim (fun h => h.2) fun h => by omega⟩, h.mt.on hb, h.turn.trans ⟨hb.os, hb.tape, hb.output, hb.size, fun k hk _ => hb.block k hk⟩⟩

end Go.Proofs.YtlpmofmhcnclhaaDoor
