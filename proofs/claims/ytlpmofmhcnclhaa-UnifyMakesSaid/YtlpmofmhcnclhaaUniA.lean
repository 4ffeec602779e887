/-
  The contracts of the document's own Meet for subst, of both and SameBinds for unify.
-/
import Derived.Test.YtlpmofmhcnclhaaSubBE
namespace Go.Proofs.Ytlpmofmhcnclhaa
open Go.RowKit

theorem walk_end {P : Nat → Prop} {mb : Nat} {w W : World} {r : Tm × Int × Nat} {ad : Option Addr} {cap : Nat} (hm : mb < w.heap.size) (hP : ∀ b, P b → b < w.heap.size ∧ b ≠ mb) (ht : Turn (fun j => j = mb ∨ w.heap.size ≤ j) w W) (hmt : MtAt W mb r.2.2) (hp : TmP W P r.1 ad cap) :
    WalkOut P mb w r (.returned (.tuple #[tmv r.1 ad cap, .int .i64 r.2.1])) ((((W.setCell ⟨w.heap.size + 1, 0, none⟩ (.int .i64 r.1.kind)).setCell ⟨w.heap.size + 1, 1, none⟩ (.string r.1.name)).setCell ⟨w.heap.size + 1, 2, none⟩ (.int .i64 r.1.n)).setCell ⟨w.heap.size + 1, 3, none⟩ (.slice ad r.1.args.length cap)) :=
  have k := Turn.set4 (M := fun j => w.heap.size ≤ j) (W := W) (q := w.heap.size + 1) (Nat.le_succ _) (.int .i64 r.1.kind) (.string r.1.name) (.int .i64 r.1.n) (.slice ad r.1.args.length cap)
  ⟨ad, cap, rfl, hp.turnS k fun b hb => Nat.not_le.2 (hP b hb).1, hmt.turn k (Nat.not_le.2 hm), turn_own ht k⟩
/-- A function's two boxes laid, beside a meter. -/
theorem meet_boxes {w : World} {mb n : Nat} (hm : MtAt w mb n) (o1 o2 : Obj) : ((w.alloc o1).alloc o2).heap[w.heap.size]? = some o1 ∧ ((w.alloc o1).alloc o2).heap[w.heap.size + 1]? = some o2 ∧ Turn (fun j => j = mb) w ((w.alloc o1).alloc o2) ∧ MtAt ((w.alloc o1).alloc o2) mb n ∧ ((w.alloc o1).alloc o2).heap.size = w.heap.size + 2 :=
  ⟨(Below.heap_alloc _ _ _ (by simp)).trans (alloc_new _ _), alloc_new2 _ _ _, (Turn.alloc _ w o1).trans (Turn.alloc _ _ o2), hm.on (((Below.refl _ w).alloc (Nat.le_refl _) _).alloc (by simp) _), by simp⟩

set_option maxRecDepth 100000 in
set_option maxHeartbeats 4000000 in
theorem r9_Meet (bs : List (Int × Tm)) (ab : Option Addr) (cb mb n : Nat) (t : Tm) (ad : Option Addr) (cap : Nat) (w : World) (P : Nat → Prop) (hlen : bs.length ≤ 1000000) (hP : ∀ b, P b → b < w.heap.size ∧ b ≠ mb) (hb : BdsAt w P ab bs) (hm : MtAt w mb n) (hn : n ≤ 2000) (ht : TmP w P t ad cap) :
    Calls Try.prog 42 #[.pointer (some ⟨mb, 0, none⟩), .slice ab bs.length cb, tmv t ad cap] w (WalkOut P mb w (meetL bs n t)) := by
  have hml := hm.lt
  have HP := Lib.hid hP
  have HBX := Lib.hid (meet_boxes hm (.cells #[.int .i64 t.kind, .string t.name, .int .i64 t.n, .slice ad t.args.length cap] 25) (.cells #[.int .i64 0, .string ⟨#[]⟩, .int .i64 0, .slice none 0 0] 25))
  have HW := Lib.hid (fun W (h : Turn (fun j => j = mb) w W) (hn : n < 2000) (hl : MtAt W mb (n + 1)) => r9_walk bs ab cb mb (n + 1) t ad cap W P hlen (fun b hb' => by have h1 := hP b hb'; have h2 := h.size; exact ⟨by omega, h1.2⟩) (hb.turn h fun b hb' => (hP b hb').2) hl (by omega) (ht.turnS h fun b hb' => (hP b hb').2))
  clear hm hb ht hP
  by_cases hlt : n < 2000
  · have hmt : meetL bs n t = walkL bs (n + 1) t := if_pos hlt
    rw [hmt]
    clear hmt
    generalize walkL bs (n + 1) t = r at *
    unfold WalkOut at HW
    unfold tmv at HW
    rw [show (tmv t ad cap) = .agg #[.int .i64 t.kind, .string t.name, .int .i64 t.n, .slice ad t.args.length cap] from rfl]
    go_enter Try.func42, Try.ntmps42
    go_wp2_with fail
    generalize (w.alloc _).alloc _ = w0 at *
    obtain ⟨q0, q1, t0, m0, s0⟩ := HBX.out
    have hsp := r9_spend mb n w0 (by omega) m0
    rw [show decide (n < 2000) = true from decide_eq_true hlt] at hsp
    refine hsp.mono ?_; rintro e w1 ⟨rfl, m1, t1, s1⟩
    have g0 := (t1.block w.heap.size (by omega) (by omega)).trans q0
    have HG1 := Lib.hid ((t1.block (w.heap.size + 1) (by omega) (by omega)).trans q1)
    have HT1 := Lib.hid (t0.trans t1)
    have HWK := Lib.hid (HW.out w1 HT1.out hlt m1)
    obtain ⟨z0, z1, z2, z3, _⟩ := cellsT g0
    clear q0 q1 t0 m0 m1 t1 g0 HBX hsp HW
    go_wp2_with fail
    refine HWK.out.mono ?_; rintro e w2 ⟨a2, c2, rfl, hx2, m2, t2⟩
    clear z0 z1 z2 z3
    have hg2 := (t2.block (w.heap.size + 1) (by omega) (by omega)).trans HG1.out
    have HF := Lib.hid (walk_end (P := P) hml HP.out ((HT1.out.trans t2).more fun j e => .inl e) m2 hx2)
    have G4 := Lib.hid (set4_blk hg2 (.int .i64 r.1.kind) (.string r.1.name) (.int .i64 r.1.n) (.slice a2 r.1.args.length c2))
    obtain ⟨z0, z1, z2, z3, e0, e1, e2, e3⟩ := cellsT hg2
    clear m2 t2 hx2 hg2 HG1 HWK
    go_wp2_with fail
    obtain ⟨y0, y1, y2, y3, _⟩ := cellsT G4.out
    refine bodyPost_ret (v := .tuple #[tmv r.1 a2 c2, .int .i64 r.2.1]) (by simp [results, Try.results42, go_sem, tmv, y0, y1, y2, y3]) rfl ?_
    exact HF.out
  · have hmt : meetL bs n t = (zeroT, 140, n + 1) := if_neg hlt
    rw [hmt]
    clear hmt HW
    rw [show (tmv t ad cap) = .agg #[.int .i64 t.kind, .string t.name, .int .i64 t.n, .slice ad t.args.length cap] from rfl]
    go_enter Try.func42, Try.ntmps42
    go_wp2_with fail
    generalize (w.alloc _).alloc _ = w0 at *
    obtain ⟨q0, q1, t0, m0, s0⟩ := HBX.out
    have hsp := r9_spend mb n w0 (by omega) m0
    rw [show decide (n < 2000) = false from decide_eq_false hlt] at hsp
    refine hsp.mono ?_; rintro e w1 ⟨rfl, m1, t1, s1⟩
    have g1 := (t1.block (w.heap.size + 1) (by omega) (by omega)).trans q1
    have HF := Lib.hid (walk_err (P := P) (er := 140) hml ((t0.trans t1).more fun j e => .inl e) m1)
    have G4 := Lib.hid (set4_blk g1 (.int .i64 0) (.string ⟨#[]⟩) (.int .i64 0) (.slice none 0 0))
    obtain ⟨z0, z1, z2, z3, e0, e1, e2, e3⟩ := cellsT g1
    clear q0 q1 t0 m0 m1 t1 g1 HBX hsp
    go_wp2_with fail
    obtain ⟨y0, y1, y2, y3, _⟩ := cellsT G4.out
    refine bodyPost_ret (v := .tuple #[.agg #[.int .i64 0, .string ⟨#[]⟩, .int .i64 0, .slice none 0 0], .int .i64 140]) (by simp [results, Try.results42, go_sem, y0, y1, y2, y3]) rfl ?_
    exact HF.out
end Go.Proofs.Ytlpmofmhcnclhaa
