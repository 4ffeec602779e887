/-
  The walk of the law OpsBoth, and its plain facts: what the table's names are.
-/
import Derived.Test.YtfkkembjlahjfaaOpsD
import Derived.Deep.RegionHeld3
namespace Go.Proofs.Ytfkkembjlahjfaa
open Go.RowKit

theorem findR_mem {l : List R} {name : ByteArray} {n : Int} {r : R} (h : findR l name n = some r) : r ∈ l ∧ r.fits name n = true := ⟨List.mem_of_find?_eq_some h, List.find?_some h⟩
theorem fits_name {name : ByteArray} {n : Int} {r : R} (h : r.fits name n = true) : r.n = name ∧ (r.k.size : Int) = n := by
  unfold R.fits at h
  rw [Bool.and_eq_true] at h
  have h1 : r.n.toList = name.toList := by simpa using h.1
  exact ⟨(toList_inj h1).trans (toList_inj rfl).symm, by simpa using h.2⟩
/-- What is said of every row that stands ahead. -/
def aheadB (r : R) : Bool := r.k.size != 2 || (decide (rightOf r.k r.p ≤ r.p) && decide (r.p - 1 ≤ rightOf r.k r.p) && decide (100 ≤ r.p) && decide (r.p ≤ 1200) && ((findR tabR r.n 3).isNone || r.n.toList == [45] || r.n.toList == [58, 45]))
theorem ahead_all : tabR.all aheadB = true := by decide +kernel
theorem ahead {name : ByteArray} {r : R} (h : findR tabR name 2 = some r) : rightOf r.k r.p ≤ r.p ∧ r.p - 1 ≤ rightOf r.k r.p ∧ 100 ≤ r.p ∧ r.p ≤ 1200 ∧ (findR tabR name 3 = none ∨ (name.toList == [45]) = true ∨ (name.toList == [58, 45]) = true) := by
  obtain ⟨hm, hf⟩ := findR_mem h
  obtain ⟨rfl, hn⟩ := fits_name hf
  have ha := List.all_eq_true.1 ahead_all r hm
  unfold aheadB at ha
  rw [show (r.k.size != 2) = false by simp; omega] at ha
  simp only [Bool.false_or, Bool.and_eq_true, Bool.or_eq_true, decide_eq_true_eq, Option.isNone_iff_eq_none] at ha
  obtain ⟨⟨⟨⟨h1, h2⟩, h3⟩, h4⟩, h5⟩ := ha
  exact ⟨h1, h2, h3, h4, by rcases h5 with (h5 | h5) | h5; exact .inl h5; exact .inr (.inl h5); exact .inr (.inr h5)⟩

set_option maxRecDepth 100000 in
set_option maxHeartbeats 4000000 in
theorem walk_both_none (name : ByteArray) (w : World) (h2 : findR tabR name 2 = none) (h3 : findR tabR name 3 = none) :
    Calls Try.prog 6 #[.string name] w fun e w' => e = .returned (.bool true) ∧ Below w.heap.size w w' := by
  have H2 := Lib.hid (fun W => by have h := ops_Prefix name W; rw [h2] at h; exact h)
  have H3 := Lib.hid (fun W => by have h := ops_Infix name W; rw [h3] at h; exact h)
  unfold opAns at H2 H3
  clear h2 h3
  go_enter Try.func6, Try.ntmps6
  go_wp2_with fail
  refine (ops_live _).mono ?_; rintro e w1 ⟨rfl, hb1⟩
  go_wp2_with fail
  refine (H2.out _).mono ?_; rintro e w2 ⟨rfl, hb2⟩
  have hbw2 := hb1.trans (hb2.mono hb1.size)
  clear hb1 hb2
  go_wp2_with fail
  refine (H3.out _).mono ?_; rintro e w3 ⟨rfl, hb3⟩
  have hbw3 := (hbw2.alloc hbw2.size _).trans (hb3.mono (by rw [World.size_alloc]; have := hbw2.size; omega))
  have A3 := (OpAt.new w2 _ _ _).on hb3
  clear hb3 hbw2
  have hl1 := World.block_lt_of_cell? w3 _ A3.1
  have hb0 := hbw3.alloc hbw3.size (.cells #[.int .i64 0, .string ⟨#[]⟩] 23)
  have A0 := A3.past (.cells #[.int .i64 0, .string ⟨#[]⟩] 23)
  clear A3 hbw3
  go_wp2_with fail
  generalize w3.alloc _ = w0 at *
  go_quiet (fail)
  go_wp2_with fail
  go_ret
  exact ⟨rfl, by first | exact hb0 | exact below_drewN hb0 _⟩

set_option maxRecDepth 100000 in
set_option maxHeartbeats 4000000 in
theorem walk_both_infix (name : ByteArray) (w : World) (r3 : R) (h2 : findR tabR name 2 = none) (h3 : findR tabR name 3 = some r3) :
    Calls Try.prog 6 #[.string name] w fun e w' => e = .returned (.bool true) ∧ Below w.heap.size w w' := by
  have H2 := Lib.hid (fun W => by have h := ops_Prefix name W; rw [h2] at h; exact h)
  have H3 := Lib.hid (fun W => by have h := ops_Infix name W; rw [h3] at h; exact h)
  unfold opAns at H2 H3
  clear h2 h3
  go_enter Try.func6, Try.ntmps6
  go_wp2_with fail
  refine (ops_live _).mono ?_; rintro e w1 ⟨rfl, hb1⟩
  go_wp2_with fail
  refine (H2.out _).mono ?_; rintro e w2 ⟨rfl, hb2⟩
  have hbw2 := hb1.trans (hb2.mono hb1.size)
  clear hb1 hb2
  go_wp2_with fail
  refine (H3.out _).mono ?_; rintro e w3 ⟨rfl, hb3⟩
  have hbw3 := (hbw2.alloc hbw2.size _).trans (hb3.mono (by rw [World.size_alloc]; have := hbw2.size; omega))
  have A3 := (OpAt.new w2 _ _ _).on hb3
  clear hb3 hbw2
  have hl1 := World.block_lt_of_cell? w3 _ A3.1
  have hb0 := hbw3.alloc hbw3.size (.cells #[.int .i64 r3.p, .string r3.k] 23)
  have A0 := A3.past (.cells #[.int .i64 r3.p, .string r3.k] 23)
  clear A3 hbw3
  go_wp2_with fail
  generalize w3.alloc _ = w0 at *
  go_quiet (fail)
  go_wp2_with fail
  go_ret
  exact ⟨rfl, by first | exact hb0 | exact below_drewN hb0 _⟩

set_option maxRecDepth 100000 in
set_option maxHeartbeats 4000000 in
theorem walk_both_prefix (name : ByteArray) (w : World) (r : R) (h2 : findR tabR name 2 = some r) (h3 : findR tabR name 3 = none) :
    Calls Try.prog 6 #[.string name] w fun e w' => e = .returned (.bool true) ∧ Below w.heap.size w w' := by
  obtain ⟨hx1, hx2, hp1, hp2, _⟩ := ahead h2
  have H2 := Lib.hid (fun W => by have h := ops_Prefix name W; rw [h2] at h; exact h)
  have H3 := Lib.hid (fun W => by have h := ops_Infix name W; rw [h3] at h; exact h)
  unfold opAns at H2 H3
  clear h2 h3
  go_enter Try.func6, Try.ntmps6
  go_wp2_with fail
  refine (ops_live _).mono ?_; rintro e w1 ⟨rfl, hb1⟩
  go_wp2_with fail
  refine (H2.out _).mono ?_; rintro e w2 ⟨rfl, hb2⟩
  have hbw2 := hb1.trans (hb2.mono hb1.size)
  clear hb1 hb2
  go_wp2_with fail
  refine (H3.out _).mono ?_; rintro e w3 ⟨rfl, hb3⟩
  have hbw3 := (hbw2.alloc hbw2.size _).trans (hb3.mono (by rw [World.size_alloc]; have := hbw2.size; omega))
  have A3 := (OpAt.new w2 _ _ _).on hb3
  clear hb3 hbw2
  have hl1 := World.block_lt_of_cell? w3 _ A3.1
  have hb0 := hbw3.alloc hbw3.size (.cells #[.int .i64 0, .string ⟨#[]⟩] 23)
  have A0 := A3.past (.cells #[.int .i64 0, .string ⟨#[]⟩] 23)
  clear A3 hbw3
  go_wp2_with fail
  generalize w3.alloc _ = w0 at *
  have HK : Hid (∀ W, Below w0.heap.size w0 W → Below w0.heap.size w0 W ∧ W.cell? ⟨w2.heap.size, 0, none⟩ = some (.int .i64 r.p) ∧ W.cell? ⟨w2.heap.size, 1, none⟩ = some (.string r.k)) := Lib.hid (fun W hb => ⟨hb, (A0.on hb).1, (A0.on hb).2⟩)
  have HST : Hid (∀ W W', Below w0.heap.size w0 W → Below W.heap.size W W' → Below w0.heap.size w0 W') := Lib.hid (fun W W' h h' => h.trans (h'.mono h.size))
  have hD0 : Below w0.heap.size w0 w0.drew := (Below.refl _ w0).drew
  have hK0 := HK.out _ (Below.refl _ w0)
  have HR := Lib.hid (fun W => ops_Right r.k r.p W)
  generalize rightOf r.k r.p = x at *
  clear A0
  have HW : Hid (IntKind.i64.wrap (r.p - 1) = r.p - 1) := Lib.hid (IntWalk.i64_in _ (by omega))
  have HX := Lib.hid hx2
  go_region_held3 (fun W => Below w0.heap.size w0 W ∧ W.cell? ⟨w2.heap.size, 0, none⟩ = some (.int .i64 r.p) ∧ W.cell? ⟨w2.heap.size, 1, none⟩ = some (.string r.k))
    (first | exact HK.out _ b2 | exact HK.out _ b1 | exact HK.out _ hD0)
    (first
      | (go_at_call 17; have _h := c1; (with_reducible refine (HR.out _).mono ?_); rintro e v2 ⟨rfl, c2⟩; have b2 := HST.out _ _ b1 c2)
      | (go_at_call 17; (with_reducible refine (HR.out _).mono ?_); rintro e v1 ⟨rfl, c1⟩; have b1 := HST.out _ _ hD0 c1))
  all_goals
    go_wp2_with fail
    go_ret
    exact ⟨ret_bool (by rw [HW.out]; exact decide_eq_true HX.out), hb0.trans (b2.mono hb0.size)⟩

set_option maxRecDepth 100000 in
set_option maxHeartbeats 4000000 in
theorem walk_both_minus (name : ByteArray) (w : World) (r r3 : R) (h2 : findR tabR name 2 = some r) (h3 : findR tabR name 3 = some r3) (hn : (name.toList == [45]) = true) :
    Calls Try.prog 6 #[.string name] w fun e w' => e = .returned (.bool true) ∧ Below w.heap.size w w' := by
  obtain ⟨hx1, hx2, hp1, hp2, _⟩ := ahead h2
  have H2 := Lib.hid (fun W => by have h := ops_Prefix name W; rw [h2] at h; exact h)
  have H3 := Lib.hid (fun W => by have h := ops_Infix name W; rw [h3] at h; exact h)
  unfold opAns at H2 H3
  clear h2 h3
  go_enter Try.func6, Try.ntmps6
  go_wp2_with fail
  refine (ops_live _).mono ?_; rintro e w1 ⟨rfl, hb1⟩
  go_wp2_with fail
  refine (H2.out _).mono ?_; rintro e w2 ⟨rfl, hb2⟩
  have hbw2 := hb1.trans (hb2.mono hb1.size)
  clear hb1 hb2
  go_wp2_with fail
  refine (H3.out _).mono ?_; rintro e w3 ⟨rfl, hb3⟩
  have hbw3 := (hbw2.alloc hbw2.size _).trans (hb3.mono (by rw [World.size_alloc]; have := hbw2.size; omega))
  have A3 := (OpAt.new w2 _ _ _).on hb3
  clear hb3 hbw2
  have hl1 := World.block_lt_of_cell? w3 _ A3.1
  have hb0 := hbw3.alloc hbw3.size (.cells #[.int .i64 r3.p, .string r3.k] 23)
  have A0 := A3.past (.cells #[.int .i64 r3.p, .string r3.k] 23)
  clear A3 hbw3
  go_wp2_with fail
  generalize w3.alloc _ = w0 at *
  have HK : Hid (∀ W, Below w0.heap.size w0 W → Below w0.heap.size w0 W ∧ W.cell? ⟨w2.heap.size, 0, none⟩ = some (.int .i64 r.p) ∧ W.cell? ⟨w2.heap.size, 1, none⟩ = some (.string r.k)) := Lib.hid (fun W hb => ⟨hb, (A0.on hb).1, (A0.on hb).2⟩)
  have HST : Hid (∀ W W', Below w0.heap.size w0 W → Below W.heap.size W W' → Below w0.heap.size w0 W') := Lib.hid (fun W W' h h' => h.trans (h'.mono h.size))
  have hD0 : Below w0.heap.size w0 w0.drew := (Below.refl _ w0).drew
  have hK0 := HK.out _ (Below.refl _ w0)
  have HR := Lib.hid (fun W => ops_Right r.k r.p W)
  generalize rightOf r.k r.p = x at *
  clear A0
  have HW : Hid (IntKind.i64.wrap (r.p - 1) = r.p - 1) := Lib.hid (IntWalk.i64_in _ (by omega))
  have HX := Lib.hid hx2
  go_region_held3 (fun W => Below w0.heap.size w0 W ∧ W.cell? ⟨w2.heap.size, 0, none⟩ = some (.int .i64 r.p) ∧ W.cell? ⟨w2.heap.size, 1, none⟩ = some (.string r.k))
    (first | exact HK.out _ b2 | exact HK.out _ b1 | exact HK.out _ hD0)
    (first
      | (go_at_call 17; have _h := c1; (with_reducible refine (HR.out _).mono ?_); rintro e v2 ⟨rfl, c2⟩; have b2 := HST.out _ _ b1 c2)
      | (go_at_call 17; (with_reducible refine (HR.out _).mono ?_); rintro e v1 ⟨rfl, c1⟩; have b1 := HST.out _ _ hD0 c1))
  all_goals
    go_wp2_with fail
    go_ret
    exact ⟨ret_bool (by rw [HW.out]; exact decide_eq_true HX.out), hb0.trans (b2.mono hb0.size)⟩

set_option maxRecDepth 100000 in
set_option maxHeartbeats 4000000 in
theorem walk_both_turn (name : ByteArray) (w : World) (r r3 : R) (h2 : findR tabR name 2 = some r) (h3 : findR tabR name 3 = some r3) (hn0 : (name.toList == [45]) = false) (hn : (name.toList == [58, 45]) = true) :
    Calls Try.prog 6 #[.string name] w fun e w' => e = .returned (.bool true) ∧ Below w.heap.size w w' := by
  obtain ⟨hx1, hx2, hp1, hp2, _⟩ := ahead h2
  have H2 := Lib.hid (fun W => by have h := ops_Prefix name W; rw [h2] at h; exact h)
  have H3 := Lib.hid (fun W => by have h := ops_Infix name W; rw [h3] at h; exact h)
  unfold opAns at H2 H3
  clear h2 h3
  go_enter Try.func6, Try.ntmps6
  go_wp2_with fail
  refine (ops_live _).mono ?_; rintro e w1 ⟨rfl, hb1⟩
  go_wp2_with fail
  refine (H2.out _).mono ?_; rintro e w2 ⟨rfl, hb2⟩
  have hbw2 := hb1.trans (hb2.mono hb1.size)
  clear hb1 hb2
  go_wp2_with fail
  refine (H3.out _).mono ?_; rintro e w3 ⟨rfl, hb3⟩
  have hbw3 := (hbw2.alloc hbw2.size _).trans (hb3.mono (by rw [World.size_alloc]; have := hbw2.size; omega))
  have A3 := (OpAt.new w2 _ _ _).on hb3
  clear hb3 hbw2
  have hl1 := World.block_lt_of_cell? w3 _ A3.1
  have hb0 := hbw3.alloc hbw3.size (.cells #[.int .i64 r3.p, .string r3.k] 23)
  have A0 := A3.past (.cells #[.int .i64 r3.p, .string r3.k] 23)
  clear A3 hbw3
  go_wp2_with fail
  generalize w3.alloc _ = w0 at *
  have HK : Hid (∀ W, Below w0.heap.size w0 W → Below w0.heap.size w0 W ∧ W.cell? ⟨w2.heap.size, 0, none⟩ = some (.int .i64 r.p) ∧ W.cell? ⟨w2.heap.size, 1, none⟩ = some (.string r.k)) := Lib.hid (fun W hb => ⟨hb, (A0.on hb).1, (A0.on hb).2⟩)
  have HST : Hid (∀ W W', Below w0.heap.size w0 W → Below W.heap.size W W' → Below w0.heap.size w0 W') := Lib.hid (fun W W' h h' => h.trans (h'.mono h.size))
  have hD0 : Below w0.heap.size w0 w0.drew := (Below.refl _ w0).drew
  have hK0 := HK.out _ (Below.refl _ w0)
  have HR := Lib.hid (fun W => ops_Right r.k r.p W)
  generalize rightOf r.k r.p = x at *
  clear A0
  have HW : Hid (IntKind.i64.wrap (r.p - 1) = r.p - 1) := Lib.hid (IntWalk.i64_in _ (by omega))
  have HX := Lib.hid hx2
  go_region_held3 (fun W => Below w0.heap.size w0 W ∧ W.cell? ⟨w2.heap.size, 0, none⟩ = some (.int .i64 r.p) ∧ W.cell? ⟨w2.heap.size, 1, none⟩ = some (.string r.k))
    (first | exact HK.out _ b2 | exact HK.out _ b1 | exact HK.out _ hD0)
    (first
      | (go_at_call 17; have _h := c1; (with_reducible refine (HR.out _).mono ?_); rintro e v2 ⟨rfl, c2⟩; have b2 := HST.out _ _ b1 c2)
      | (go_at_call 17; (with_reducible refine (HR.out _).mono ?_); rintro e v1 ⟨rfl, c1⟩; have b1 := HST.out _ _ hD0 c1))
  all_goals
    go_wp2_with fail
    go_ret
    exact ⟨ret_bool (by rw [HW.out]; exact decide_eq_true HX.out), hb0.trans (b2.mono hb0.size)⟩

theorem walk_OpsBoth (name : ByteArray) (w : World) :
    Calls Try.prog 6 #[.string name] w fun e w' => e = .returned (.bool true) ∧ Below w.heap.size w w' := by
  cases h2 : findR tabR name 2 with
  | none =>
    cases h3 : findR tabR name 3 with
    | none => exact walk_both_none name w h2 h3
    | some r3 => exact walk_both_infix name w r3 h2 h3
  | some r =>
    cases h3 : findR tabR name 3 with
    | none => exact walk_both_prefix name w r h2 h3
    | some r3 =>
      obtain ⟨_, _, _, _, h5⟩ := ahead h2
      cases hm : (name.toList == [45]) with
      | true => exact walk_both_minus name w r r3 h2 h3 hm
      | false =>
        refine walk_both_turn name w r r3 h2 h3 hm ?_
        rcases h5 with h5 | h5 | h5
        · rw [h3] at h5; cases h5
        · rw [h5] at hm; cases hm
        · exact h5
end Go.Proofs.Ytfkkembjlahjfaa
