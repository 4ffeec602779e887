/-
  The walk of the law OpsSides, and what a parameter that is an operator holds.
-/
import Derived.Test.YtfkkembjlahjfaaOpsD
import Derived.Deep.RegionHeld3
import Derived.Lib.SmallJoins
import Derived.ChangeArms
import Derived.DataReads
namespace Go.Proofs.Ytfkkembjlahjfaa
open Go.RowKit Go.ChangeShapes Go.WideShapes Go.Joins

theorem in64_of_wf {a : Int} (h : (Lit.int .i64 a).wf = true) : In64 a := by
  have e1 : IntKind.i64.min = -9223372036854775808 := rfl
  have e2 : IntKind.i64.max = 9223372036854775807 := rfl
  simp [Lit.wf, e1, e2] at h
  exact h
section
variable {H : Type} {enc : TypeId × Value → H} {w : World}

set_option maxRecDepth 100000 in
/-- A parameter that is an operator. -/
theorem open_op {r : Reach} {b0 : Nat} {v : Value} {d : DataW H} {p : List MemPlace} (hv : Value.okWide Try.prog w r b0 23 v) (h : DataW.Trod enc Try.prog w 0 (fun _ => true) true 23 v d p) :
    ∃ (a : Int) (s : ByteArray), v = .agg #[.int .i64 a, .string s] ∧ In64 a ∧ s.size ≤ maxLen := by
  obtain ⟨cs, rfl, hsz⟩ := okWide_struct Try.underlying23 hv
  obtain ⟨fuel, hf⟩ := h
  obtain ⟨xs, m, hm, hx, hlen, hxl, hg⟩ := DataW.trod_struct Try.underlying23 hf
  rw [show Try.prog.cellsOf 23 = 2 by kernel_rfl] at hlen
  have hlen2 : cs.toList.length = 2 := hlen
  obtain ⟨l, hl⟩ : ∃ l, cs.toList = l := ⟨_, rfl⟩
  have hcs : cs = l.toArray := by rw [← hl]
  subst hcs
  match l, hlen2 with
  | [v0, v1], _ =>
    match xs, hxl with
    | [y0, y1], _ =>
      have h0 : DataW.trod enc Try.prog w 0 (fun _ => true) true m 3 [v0] = some y0 := hg 0 _ rfl
      have h1 : DataW.trod enc Try.prog w 0 (fun _ => true) true m 9 [v1] = some y1 := hg 1 _ rfl
      obtain ⟨k, hk, _, wk⟩ := DataW.trod_int Try.underlying3 h0
      obtain ⟨s, hs, _, ws⟩ := DataW.trod_string Try.underlying9 h1
      obtain rfl : v0 = .int .i64 k := by simpa using hk
      obtain rfl : v1 = .string s := by simpa using hs
      exact ⟨k, s, rfl, in64_of_wf wk, ws⟩
end

set_option maxRecDepth 100000 in
set_option maxHeartbeats 4000000 in
theorem walk_OpsSides (p : Int) (t : ByteArray) (w : World) :
    Calls Try.prog 4 #[.agg #[.int .i64 p, .string t]] w fun e w' => e = .returned (.bool true) ∧ Below w.heap.size w w' := by
  have HL := Lib.hid (fun W => ops_Left t p W)
  have HR := Lib.hid (fun W => ops_Right t p W)
  have HL2 := Lib.hid (fun W => ref_Left t p W)
  have HR2 := Lib.hid (fun W => ref_Right t p W)
  generalize leftOf t p = x at *
  generalize rightOf t p = y at *
  have hb0 := (Below.refl w.heap.size w).alloc (Nat.le_refl _) (.cells #[.int .i64 p, .string t] 23)
  have A0 := OpAt.new w p t 23
  go_enter Try.func4, Try.ntmps4
  go_wp2_with fail
  generalize w.alloc _ = w0 at *
  have HK : Hid (∀ W, Below w0.heap.size w0 W → Below w0.heap.size w0 W ∧ W.cell? ⟨w.heap.size, 0, none⟩ = some (.int .i64 p) ∧ W.cell? ⟨w.heap.size, 1, none⟩ = some (.string t)) := Lib.hid (fun W hb => ⟨hb, (A0.on hb).1, (A0.on hb).2⟩)
  have HST : Hid (∀ W W', Below w0.heap.size w0 W → Below W.heap.size W W' → Below w0.heap.size w0 W') := Lib.hid (fun W W' h h' => h.trans (h'.mono h.size))
  have hD0 : Below w0.heap.size w0 w0.drew := (Below.refl _ w0).drew
  have hK0 := HK.out _ (Below.refl _ w0)
  clear A0
  go_region_held3 (fun W => Below w0.heap.size w0 W ∧ W.cell? ⟨w.heap.size, 0, none⟩ = some (.int .i64 p) ∧ W.cell? ⟨w.heap.size, 1, none⟩ = some (.string t))
    (first | exact HK.out _ b5 | exact HK.out _ b4 | exact HK.out _ b3 | exact HK.out _ b2 | exact HK.out _ b1 | exact HK.out _ hD0)
    (first
      | (go_at_call 18; (with_reducible refine (HR2.out _).mono ?_); rintro e v5 ⟨rfl, c5⟩; have b5 := HST.out _ _ b4 c5)
      | (go_at_call 17; (with_reducible refine (HR.out _).mono ?_); rintro e v4 ⟨rfl, c4⟩; have b4 := HST.out _ _ b3 c4)
      | (go_at_call 16; (with_reducible refine (HL2.out _).mono ?_); rintro e v3 ⟨rfl, c3⟩; have b3 := HST.out _ _ b2 c3)
      | (go_at_call 15; (with_reducible refine (HL.out _).mono ?_); rintro e v2 ⟨rfl, c2⟩; have b2 := HST.out _ _ b1 c2)
      | (go_at_call 11; (with_reducible refine (ops_live _).mono ?_); rintro e v1 ⟨rfl, c1⟩; have b1 := HST.out _ _ hD0 c1))
  all_goals
    go_wp2_with fail
    go_ret
    exact ⟨rfl, hb0.trans (b5.mono hb0.size)⟩
end Go.Proofs.Ytfkkembjlahjfaa
