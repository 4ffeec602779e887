/-
  The walk of the law OpsBounds, and its plain facts.
-/
import Derived.Test.YtfkkembjlahjfaaOpsF
import Derived.Test.YtfkkembjlahjfaaOpsE
import Derived.Test.YtfkkembjlahjfaaOpsG
namespace Go.Proofs.Ytfkkembjlahjfaa
open Go.RowKit

theorem names_len : namesL.length = 28 := by decide +kernel
theorem names_nodup : (namesL.map ByteArray.toList).Nodup := by decide +kernel
theorem names_apart {k j : Nat} (hk : k < namesL.length) (hj : j < namesL.length) (h : k ≠ j) : ((namesL[k]'hk).toList == (namesL[j]'hj).toList) = false := by
  have h1 := List.pairwise_iff_getElem.1 names_nodup
  refine beq_eq_false_iff_ne.2 ?_
  rcases Nat.lt_or_gt_of_ne h with hlt | hlt
  · have h2 := h1 k j (by rw [List.length_map]; exact hk) (by rw [List.length_map]; exact hj) hlt
    rw [List.getElem_map, List.getElem_map] at h2
    exact h2
  · have h2 := h1 j k (by rw [List.length_map]; exact hj) (by rw [List.length_map]; exact hk) hlt
    rw [List.getElem_map, List.getElem_map] at h2
    exact fun e => h2 e.symm
def aheadOk (r : R) : Bool := decide (leftOf r.k r.p = 0) && decide (199 ≤ rightOf r.k r.p) && decide (rightOf r.k r.p ≤ 1200)
def betweenOk (r : R) : Bool := decide (199 ≤ leftOf r.k r.p) && decide (leftOf r.k r.p ≤ 1200) && decide (199 ≤ rightOf r.k r.p) && decide (rightOf r.k r.p ≤ 1200) && (decide (leftOf r.k r.p < r.p) || decide (rightOf r.k r.p < r.p))
def nameOk (n : ByteArray) : Bool := ((findR tabR n 2).isSome || (findR tabR n 3).isSome) && (match findR tabR n 2 with | none => true | some r => aheadOk r) && (match findR tabR n 3 with | none => true | some r => betweenOk r)
theorem names_ok : namesL.all nameOk = true := by decide +kernel
theorem name_ok {n : ByteArray} (h : n ∈ namesL) : ¬ (findR tabR n 2 = none ∧ findR tabR n 3 = none) ∧ (∀ r, findR tabR n 2 = some r → leftOf r.k r.p = 0 ∧ 199 ≤ rightOf r.k r.p ∧ rightOf r.k r.p ≤ 1200) ∧
    (∀ r, findR tabR n 3 = some r → 199 ≤ leftOf r.k r.p ∧ leftOf r.k r.p ≤ 1200 ∧ 199 ≤ rightOf r.k r.p ∧ rightOf r.k r.p ≤ 1200 ∧ (leftOf r.k r.p < r.p ∨ rightOf r.k r.p < r.p)) := by
  have h1 := List.all_eq_true.1 names_ok n h
  unfold nameOk at h1
  rw [Bool.and_eq_true, Bool.and_eq_true] at h1
  obtain ⟨⟨h2, h3⟩, h4⟩ := h1
  refine ⟨fun e => ?_, fun r e => ?_, fun r e => ?_⟩
  · rw [e.1, e.2] at h2; cases h2
  · rw [e] at h3
    have h5 : aheadOk r = true := h3
    unfold aheadOk at h5
    simp only [Bool.and_eq_true, decide_eq_true_eq] at h5
    exact ⟨h5.1.1, h5.1.2, h5.2⟩
  · rw [e] at h4
    have h5 : betweenOk r = true := h4
    unfold betweenOk at h5
    simp only [Bool.and_eq_true, Bool.or_eq_true, decide_eq_true_eq] at h5
    exact ⟨h5.1.1.1.1, h5.1.1.1.2, h5.1.1.2, h5.1.2, h5.2⟩
theorem turned (i : Int) : ∃ J : Nat, J < 28 ∧ (wrap64 (i.tmod 28 + 28)).tmod 28 = (J : Int) := by
  have h1 := Int.tmod_lt_of_pos i (b := 28) (by decide)
  have h2 : -28 < i.tmod 28 := by
    have := Int.natAbs_tmod i 28
    have h3 : i.natAbs % (28 : Int).natAbs < 28 := Nat.mod_lt _ (by decide)
    omega
  rw [IntWalk.wrap64_in _ ⟨by omega, by omega⟩]
  have h4 := Int.tmod_lt_of_pos (i.tmod 28 + 28) (b := 28) (by decide)
  have h5 := Int.tmod_nonneg 28 (show 0 ≤ i.tmod 28 + 28 by omega)
  exact ⟨((i.tmod 28 + 28).tmod 28).toNat, by omega, by omega⟩

set_option maxRecDepth 100000 in
set_option maxHeartbeats 8000000 in
theorem walk_bounds_ahead (i : Int) (w : World) (hi : In64 i) (J : Nat) (hJ : J < 28) (eJ : (wrap64 (i.tmod 28 + 28)).tmod 28 = (J : Int)) (nm : ByteArray) (hnm : namesL[J]? = some nm) (r : R) (y : Int) (hL2 : leftOf r.k r.p = 0) (hR2 : rightOf r.k r.p = y) (hy1 : 199 ≤ y) (hy2 : y ≤ 1200) (h2 : findR tabR nm 2 = some r) (h3 : findR tabR nm 3 = none) :
    Calls Try.prog 5 #[.int .i64 i] w fun e w' => e = .returned (.bool true) ∧ Below w.heap.size w w' := by
  unfold In64 at hi
  obtain ⟨hi1, hi2⟩ := hi
  have HJ := Lib.hid eJ
  have HM := Lib.hid hnm
  have H2 := Lib.hid (fun W => by have h := ops_Prefix nm W; rw [h2] at h; exact h)
  have H3 := Lib.hid (fun W => by have h := ops_Infix nm W; rw [h3] at h; exact h)
  unfold opAns at H2 H3
  have HL2 := Lib.hid (fun W => by have h := ops_Left r.k r.p W; rw [hL2] at h; exact h)
  have HR2 := Lib.hid (fun W => by have h := ops_Right r.k r.p W; rw [hR2] at h; exact h)
  clear eJ hnm h2 h3 hL2 hR2
  go_enter Try.func5, Try.ntmps5
  go_wp2_with fail
  refine (ops_live _).mono ?_; rintro e w1 ⟨rfl, hb1⟩
  go_wp2_with fail
  refine (ops_Names _).mono ?_; rintro e w2 ⟨v, rfl, hown, hb2⟩
  have hbw2 := hb1.trans (hb2.mono hb1.size)
  obtain ⟨ad, cap, rfl, hlc, hcm, hcell⟩ := hown.view
  obtain ⟨g, rfl, cJ0⟩ := hcell J (by rw [names_len]; exact hJ)
  have cJ : w2.cell? ⟨g, J, none⟩ = some (.string nm) := by
    rw [cJ0]; have h9 := HM.out; rw [List.getElem?_eq_getElem (by rw [names_len]; exact hJ)] at h9; rw [Option.some.inj h9]
  have HC : Hid (∀ k, k < 28 → ∃ x, w2.cell? ⟨g, k, none⟩ = some (.string x) ∧ (k ≠ J → (x.toList == nm.toList) = false)) := Lib.hid (fun k hk => by
    obtain ⟨g', e', c⟩ := hcell k (by rw [names_len]; exact hk)
    obtain rfl : g = g' := by simpa using e'
    refine ⟨_, c, fun hne => ?_⟩
    have h9 := HM.out
    rw [List.getElem?_eq_getElem (by rw [names_len]; exact hJ)] at h9
    rw [← Option.some.inj h9]
    exact names_apart _ _ hne)
  rw [names_len] at hlc ⊢
  clear hb1 hb2 hown hcell cJ0
  unfold maxLen at hcm
  go_wp2_with fail
  rw [HJ.out]
  generalize wrap64 (i.tmod 28 + 28) = zz at *
  clear HJ
  have hj0 : (0 : Int) ≤ (J : Int) := by omega
  have hj1 : (J : Int) < 28 := by omega
  go_loop [28] (fun iv => ∃ k : Nat, k ≤ 28 ∧ iv = .int .i64 k) (fun iv => 28 - (intOf iv).toNat)
  case atStart => exact ⟨0, Nat.zero_le _, rfl⟩
  case round =>
    obtain ⟨k, hk, rfl⟩ := hrel
    by_cases hlt9 : k < 28
    · obtain ⟨x, c0, hx⟩ := HC.out k hlt9
      have hk0 : (0 : Int) ≤ (k : Int) := by omega
      have hk1 : (k : Int) < 28 := by omega
      by_cases hkj : k = J
      · have e1 : ((k : Int) == (J : Int)) = true := by simp; omega
        have e2 : ((k : Int) != (J : Int)) = false := by simp; omega
        have HX := Lib.hid hx
        have HKJ := Lib.hid hkj
        clear hkj hx
        go_wp2_with fail
        go_round
        case rel => exact ⟨k + 1, by omega, by go_num⟩
        case measure => simp [intOf]; omega
      · have e1 : ((k : Int) == (J : Int)) = false := by simp; omega
        have e2 : ((k : Int) != (J : Int)) = true := by simp; omega
        have e3 := hx hkj
        clear hx
        go_wp2_with fail
        go_round
        case rel => exact ⟨k + 1, by omega, by go_num⟩
        case measure => simp [intOf]; omega
    · have hk28 : k = 28 := by omega
      subst hk28
      clear HC hlt9 hk
      go_wp2_with fail
      refine (H2.out _).mono ?_; rintro e w3 ⟨rfl, hb3⟩
      have hbw3 := hbw2.trans (hb3.mono hbw2.size)
      have cJ3 := (hb3.cell (p := ⟨g, J, none⟩) (World.block_lt_of_cell? w2 _ cJ)).trans cJ
      have hgl := World.block_lt_of_cell? w3 _ cJ3
      clear hb3 cJ hbw2
      go_wp2_with fail
      refine (H3.out _).mono ?_; rintro e w4 ⟨rfl, hb4⟩
      have hbw4 := (hbw3.alloc hbw3.size _).trans (hb4.mono (by rw [World.size_alloc]; have := hbw3.size; omega))
      have A4 := (OpAt.new w3 r.p r.k _).on hb4
      have hl4 := World.block_lt_of_cell? w4 _ A4.1
      have hb0 := hbw4.alloc hbw4.size (.cells #[.int .i64 0, .string ⟨#[]⟩] 23)
      have B0 := OpAt.new w4 0 ⟨#[]⟩ 23
      have A0 := A4.past (.cells #[.int .i64 0, .string ⟨#[]⟩] 23)
      clear hb4 A4 hbw4 hbw3 cJ3
      obtain ⟨a0, a1⟩ := A0
      go_wp2_with fail
      refine (HL2.out _).mono ?_; rintro e w5 ⟨rfl, hb5⟩
      have hbw5 := hb0.trans (hb5.mono hb0.size)
      obtain ⟨a5, a6⟩ := (show OpAt _ w3.heap.size r.p r.k from ⟨a0, a1⟩).on hb5
      have B5 := B0.on hb5
      clear hb0 hb5 a0 a1 B0
      go_wp2_with fail
      refine (HR2.out _).mono ?_; rintro e w6 ⟨rfl, hb6⟩
      have hbw6 := hbw5.trans (hb6.mono hbw5.size)
      obtain ⟨a7, a8⟩ := (show OpAt _ w3.heap.size r.p r.k from ⟨a5, a6⟩).on hb6
      have B6 := B5.on hb6
      clear hbw5 hb6 a5 a6 B5
      go_wp2_with fail
      refine (HR2.out _).mono ?_; rintro e w0 ⟨rfl, hb7⟩
      have hbw0 := hbw6.trans (hb7.mono hbw6.size)
      have BZ := B6.on hb7
      clear hbw6 hb7 a7 a8 B6
      go_wp2_with fail
      clear BZ
      go_quiet (fail)
      go_wp2_with fail
      go_ret
      exact ⟨rfl, by first | exact hbw0 | exact below_drewN hbw0 _⟩

set_option maxRecDepth 100000 in
set_option maxHeartbeats 8000000 in
theorem walk_bounds_lefts (i : Int) (w : World) (hi : In64 i) (J : Nat) (hJ : J < 28) (eJ : (wrap64 (i.tmod 28 + 28)).tmod 28 = (J : Int)) (nm : ByteArray) (hnm : namesL[J]? = some nm) (q : R) (c d : Int) (hL3 : leftOf q.k q.p = c) (hR3 : rightOf q.k q.p = d) (hc1 : 199 ≤ c) (hc2 : c ≤ 1200) (hd1 : 199 ≤ d) (hd2 : d ≤ 1200) (hlt : c < q.p) (h2 : findR tabR nm 2 = none) (h3 : findR tabR nm 3 = some q) :
    Calls Try.prog 5 #[.int .i64 i] w fun e w' => e = .returned (.bool true) ∧ Below w.heap.size w w' := by
  unfold In64 at hi
  obtain ⟨hi1, hi2⟩ := hi
  have HJ := Lib.hid eJ
  have HM := Lib.hid hnm
  have H2 := Lib.hid (fun W => by have h := ops_Prefix nm W; rw [h2] at h; exact h)
  have H3 := Lib.hid (fun W => by have h := ops_Infix nm W; rw [h3] at h; exact h)
  unfold opAns at H2 H3
  have HL3 := Lib.hid (fun W => by have h := ops_Left q.k q.p W; rw [hL3] at h; exact h)
  have HR3 := Lib.hid (fun W => by have h := ops_Right q.k q.p W; rw [hR3] at h; exact h)
  have HLT := Lib.hid hlt
  have HE9 : Hid (decide (c < q.p) = true) := Lib.hid (decide_eq_true hlt)
  clear hlt
  clear eJ hnm h2 h3 hL3 hR3
  go_enter Try.func5, Try.ntmps5
  go_wp2_with fail
  refine (ops_live _).mono ?_; rintro e w1 ⟨rfl, hb1⟩
  go_wp2_with fail
  refine (ops_Names _).mono ?_; rintro e w2 ⟨v, rfl, hown, hb2⟩
  have hbw2 := hb1.trans (hb2.mono hb1.size)
  obtain ⟨ad, cap, rfl, hlc, hcm, hcell⟩ := hown.view
  obtain ⟨g, rfl, cJ0⟩ := hcell J (by rw [names_len]; exact hJ)
  have cJ : w2.cell? ⟨g, J, none⟩ = some (.string nm) := by
    rw [cJ0]; have h9 := HM.out; rw [List.getElem?_eq_getElem (by rw [names_len]; exact hJ)] at h9; rw [Option.some.inj h9]
  have HC : Hid (∀ k, k < 28 → ∃ x, w2.cell? ⟨g, k, none⟩ = some (.string x) ∧ (k ≠ J → (x.toList == nm.toList) = false)) := Lib.hid (fun k hk => by
    obtain ⟨g', e', c⟩ := hcell k (by rw [names_len]; exact hk)
    obtain rfl : g = g' := by simpa using e'
    refine ⟨_, c, fun hne => ?_⟩
    have h9 := HM.out
    rw [List.getElem?_eq_getElem (by rw [names_len]; exact hJ)] at h9
    rw [← Option.some.inj h9]
    exact names_apart _ _ hne)
  rw [names_len] at hlc ⊢
  clear hb1 hb2 hown hcell cJ0
  unfold maxLen at hcm
  go_wp2_with fail
  rw [HJ.out]
  generalize wrap64 (i.tmod 28 + 28) = zz at *
  clear HJ
  have hj0 : (0 : Int) ≤ (J : Int) := by omega
  have hj1 : (J : Int) < 28 := by omega
  go_loop [28] (fun iv => ∃ k : Nat, k ≤ 28 ∧ iv = .int .i64 k) (fun iv => 28 - (intOf iv).toNat)
  case atStart => exact ⟨0, Nat.zero_le _, rfl⟩
  case round =>
    obtain ⟨k, hk, rfl⟩ := hrel
    by_cases hlt9 : k < 28
    · obtain ⟨x, c0, hx⟩ := HC.out k hlt9
      have hk0 : (0 : Int) ≤ (k : Int) := by omega
      have hk1 : (k : Int) < 28 := by omega
      by_cases hkj : k = J
      · have e1 : ((k : Int) == (J : Int)) = true := by simp; omega
        have e2 : ((k : Int) != (J : Int)) = false := by simp; omega
        have HX := Lib.hid hx
        have HKJ := Lib.hid hkj
        clear hkj hx
        go_wp2_with fail
        go_round
        case rel => exact ⟨k + 1, by omega, by go_num⟩
        case measure => simp [intOf]; omega
      · have e1 : ((k : Int) == (J : Int)) = false := by simp; omega
        have e2 : ((k : Int) != (J : Int)) = true := by simp; omega
        have e3 := hx hkj
        clear hx
        go_wp2_with fail
        go_round
        case rel => exact ⟨k + 1, by omega, by go_num⟩
        case measure => simp [intOf]; omega
    · have hk28 : k = 28 := by omega
      subst hk28
      clear HC hlt9 hk
      go_wp2_with fail
      refine (H2.out _).mono ?_; rintro e w3 ⟨rfl, hb3⟩
      have hbw3 := hbw2.trans (hb3.mono hbw2.size)
      have cJ3 := (hb3.cell (p := ⟨g, J, none⟩) (World.block_lt_of_cell? w2 _ cJ)).trans cJ
      have hgl := World.block_lt_of_cell? w3 _ cJ3
      clear hb3 cJ hbw2
      go_wp2_with fail
      refine (H3.out _).mono ?_; rintro e w4 ⟨rfl, hb4⟩
      have hbw4 := (hbw3.alloc hbw3.size _).trans (hb4.mono (by rw [World.size_alloc]; have := hbw3.size; omega))
      have A4 := (OpAt.new w3 0 ⟨#[]⟩ _).on hb4
      have hl4 := World.block_lt_of_cell? w4 _ A4.1
      have hb0 := hbw4.alloc hbw4.size (.cells #[.int .i64 q.p, .string q.k] 23)
      have B0 := OpAt.new w4 q.p q.k 23
      have A0 := A4.past (.cells #[.int .i64 q.p, .string q.k] 23)
      clear hb4 A4 hbw4 hbw3 cJ3
      obtain ⟨a0, a1⟩ := A0
      go_wp2_with fail
      generalize w4.alloc _ = w0 at *
      have hbw0 := hb0
      have BZ := B0
      clear hb0 B0 a0 a1
      have HK : Hid (∀ W, Below w0.heap.size w0 W → Below w0.heap.size w0 W ∧ W.cell? ⟨w4.heap.size, 0, none⟩ = some (.int .i64 q.p) ∧ W.cell? ⟨w4.heap.size, 1, none⟩ = some (.string q.k)) := Lib.hid (fun W hb => ⟨hb, (BZ.on hb).1, (BZ.on hb).2⟩)
      have HST : Hid (∀ W W', Below w0.heap.size w0 W → Below W.heap.size W W' → Below w0.heap.size w0 W') := Lib.hid (fun W W' h h' => h.trans (h'.mono h.size))
      have hD0 : Below w0.heap.size w0 w0.drew := (Below.refl _ w0).drew
      have hK0 := HK.out _ (Below.refl _ w0)
      clear BZ
      have e9 := HE9.out
      refine wp_region_noPanic ?_
      refine wp_region_held_drew (S := (fun W => Below w0.heap.size w0 W ∧ W.cell? ⟨w4.heap.size, 0, none⟩ = some (.int .i64 q.p) ∧ W.cell? ⟨w4.heap.size, 1, none⟩ = some (.string q.k))) (by kernel_rfl) (HK.out _ hD0) (fun hHeld => ?_)
      refine wpAnyH_take (i := 0) (oi := { dst := some 83, op := Go.Op.move (Go.Operand.tmp 3), type := 4, pos := "law.go:53", after := #[], guard := none }) (v := ?v0) rfl (by kernel_rfl) (by kernel_rfl) (by kernel_rfl) (fun _ _ _ h => h) (Or.inl ⟨by rfl, ?y0⟩) (by assumption) ?r0
      case y0 => (intro w hSw; (try dsimp only at hSw); go_simp; try with_reducible rfl)
      try simp only [Act.put, List.setIfInBounds_toArray, List.set_cons_zero, List.set_cons_succ]
      refine wpAnyH_take (i := 1) (oi := { dst := some 84, op := Go.Op.move (Go.Operand.tmp 83), type := 4, pos := "law.go:53", after := #[{ on := 0, ground := Go.Ground.data }], guard := none }) (v := ?v1) rfl (by kernel_rfl) (by kernel_rfl) (by kernel_rfl) (fun _ _ _ h => h) (Or.inl ⟨by rfl, ?y1⟩) (by assumption) ?r1
      case y1 => (intro w hSw; (try dsimp only at hSw); go_simp; try with_reducible rfl)
      try simp only [Act.put, List.setIfInBounds_toArray, List.set_cons_zero, List.set_cons_succ]
      refine wpAnyH_take (i := 2) (oi := { dst := some 85, op := Go.Op.move (Go.Operand.tmp 10), type := 4, pos := "law.go:53", after := #[{ on := 1, ground := Go.Ground.guard }], guard := some (1, true) }) (v := ?v2) rfl (by kernel_rfl) (by kernel_rfl) (by kernel_rfl) (fun _ _ _ h => h) (Or.inl ⟨by rfl, ?y2⟩) (by assumption) ?r2
      case y2 => (intro w hSw; (try dsimp only at hSw); go_simp; try with_reducible rfl)
      try simp only [Act.put, List.setIfInBounds_toArray, List.set_cons_zero, List.set_cons_succ]
      refine wpAnyH_take (i := 3) (oi := { dst := some 86, op := Go.Op.unOp Go.UnOp.not 4 (Go.Operand.tmp 85), type := 4, pos := "law.go:53", after := #[{ on := 2, ground := Go.Ground.data }, { on := 1, ground := Go.Ground.guard }], guard := some (1, true) }) (v := ?v3) rfl (by kernel_rfl) (by kernel_rfl) (by kernel_rfl) (fun _ _ _ h => h) (Or.inl ⟨by rfl, ?y3⟩) (by assumption) ?r3
      case y3 => (intro w hSw; (try dsimp only at hSw); go_simp; try with_reducible rfl)
      try simp only [Act.put, List.setIfInBounds_toArray, List.set_cons_zero, List.set_cons_succ]
      refine wpAnyH_take (i := 4) (oi := { dst := some 87, op := Go.Op.move (Go.Operand.tmp 86), type := 4, pos := "law.go:53", after := #[{ on := 3, ground := Go.Ground.data }, { on := 1, ground := Go.Ground.chain }, { on := 1, ground := Go.Ground.guard }], guard := some (1, true) }) (v := ?v4) rfl (by kernel_rfl) (by kernel_rfl) (by kernel_rfl) (fun _ _ _ h => h) (Or.inl ⟨by rfl, ?y4⟩) (by assumption) ?r4
      case y4 => (intro w hSw; (try dsimp only at hSw); go_simp; try with_reducible rfl)
      try simp only [Act.put, List.setIfInBounds_toArray, List.set_cons_zero, List.set_cons_succ]
      refine wpAnyH_take (i := 5) (oi := { dst := some 88, op := Go.Op.load 23 (Go.Operand.tmp 9), type := 23, pos := "law.go:53", after := #[{ on := 4, ground := Go.Ground.guard }], guard := some (4, false) }) (v := ?v5) rfl (by kernel_rfl) (by kernel_rfl) (by kernel_rfl) (fun _ _ _ h => h) (Or.inl ⟨by rfl, ?y5⟩) (by assumption) ?r5
      case y5 => (intro w hSw; (try dsimp only at hSw); go_simp; try with_reducible rfl)
      try simp only [Act.put, List.setIfInBounds_toArray, List.set_cons_zero, List.set_cons_succ]
      refine wpAnyH_ready (rs := [6]) (by kernel_rfl) (by simp) ?_
      refine AllReadyH.cons (o := { dst := some 89, op := Go.Op.call { callee := Go.Callee.value (Go.Operand.func 15), args := #[Go.Operand.tmp 88], argTypes := #[23] }, type := 3, pos := "law.go:53", after := #[{ on := 5, ground := Go.Ground.data }, { on := 4, ground := Go.Ground.chain }, { on := 4, ground := Go.Ground.guard }], guard := some (4, false) }) rfl (fun K hK => ?_) AllReadyH.nil
      go_simp
      (with_reducible refine (HL3.out _).mono ?_); rintro e v1 ⟨rfl, c1⟩; have b1 := HST.out _ _ hD0 c1
      try go_wp2_with fail
      refine hK.out _ _ (HK.out _ b1) (fun hHeld1 => ?_)
      clear hK K hHeld
      try simp only [Act.put, List.setIfInBounds_toArray, List.set_cons_zero, List.set_cons_succ]
      refine wpAnyH_take (i := 7) (oi := { dst := some 90, op := Go.Op.binOp Go.BinOp.geq 3 (Go.Operand.tmp 89) (Go.Operand.const (Go.Value.int Go.IntKind.i64 199)) 3, type := 4, pos := "law.go:53", after := #[{ on := 6, ground := Go.Ground.data }, { on := 4, ground := Go.Ground.guard }], guard := some (4, false) }) (v := ?v7) rfl (by kernel_rfl) (by kernel_rfl) (by kernel_rfl) (fun _ _ _ h => h) (Or.inl ⟨by rfl, ?y7⟩) (by assumption) ?r7
      case y7 => (intro w hSw; (try dsimp only at hSw); go_simp; try with_reducible rfl)
      try simp only [Act.put, List.setIfInBounds_toArray, List.set_cons_zero, List.set_cons_succ]
      refine wpAnyH_take (i := 8) (oi := { dst := some 91, op := Go.Op.move (Go.Operand.tmp 90), type := 4, pos := "law.go:53", after := #[{ on := 7, ground := Go.Ground.data }, { on := 6, ground := Go.Ground.chain }, { on := 4, ground := Go.Ground.guard }], guard := some (4, false) }) (v := ?v8) rfl (by kernel_rfl) (by kernel_rfl) (by kernel_rfl) (fun _ _ _ h => h) (Or.inl ⟨by rfl, ?y8⟩) (by assumption) ?r8
      case y8 => (intro w hSw; (try dsimp only at hSw); go_simp; try with_reducible rfl)
      try simp only [Act.put, List.setIfInBounds_toArray, List.set_cons_zero, List.set_cons_succ]
      refine wpAnyH_take (i := 9) (oi := { dst := some 92, op := Go.Op.load 23 (Go.Operand.tmp 9), type := 23, pos := "law.go:53", after := #[{ on := 8, ground := Go.Ground.guard }], guard := some (8, true) }) (v := ?v9) rfl (by kernel_rfl) (by kernel_rfl) (by kernel_rfl) (fun _ _ _ h => h) (Or.inl ⟨by rfl, ?y9⟩) (by assumption) ?r9
      case y9 => (intro w hSw; (try dsimp only at hSw); go_simp; try with_reducible rfl)
      try simp only [Act.put, List.setIfInBounds_toArray, List.set_cons_zero, List.set_cons_succ]
      refine wpAnyH_ready (rs := [10]) (by kernel_rfl) (by simp) ?_
      refine AllReadyH.cons (o := { dst := some 93, op := Go.Op.call { callee := Go.Callee.value (Go.Operand.func 15), args := #[Go.Operand.tmp 92], argTypes := #[23] }, type := 3, pos := "law.go:53", after := #[{ on := 9, ground := Go.Ground.data }, { on := 8, ground := Go.Ground.chain }, { on := 8, ground := Go.Ground.guard }], guard := some (8, true) }) rfl (fun K hK => ?_) AllReadyH.nil
      go_simp
      (with_reducible refine (HL3.out _).mono ?_); rintro e v2 ⟨rfl, c2⟩; have b2 := HST.out _ _ b1 c2
      try go_wp2_with fail
      refine hK.out _ _ (HK.out _ b2) (fun hHeld2 => ?_)
      clear hK K hHeld1
      try simp only [Act.put, List.setIfInBounds_toArray, List.set_cons_zero, List.set_cons_succ]
      refine wpAnyH_take (i := 11) (oi := { dst := some 94, op := Go.Op.binOp Go.BinOp.leq 3 (Go.Operand.tmp 93) (Go.Operand.const (Go.Value.int Go.IntKind.i64 1200)) 3, type := 4, pos := "law.go:53", after := #[{ on := 10, ground := Go.Ground.data }, { on := 8, ground := Go.Ground.guard }], guard := some (8, true) }) (v := ?v11) rfl (by kernel_rfl) (by kernel_rfl) (by kernel_rfl) (fun _ _ _ h => h) (Or.inl ⟨by rfl, ?y11⟩) (by assumption) ?r11
      case y11 => (intro w hSw; (try dsimp only at hSw); go_simp; try with_reducible rfl)
      try simp only [Act.put, List.setIfInBounds_toArray, List.set_cons_zero, List.set_cons_succ]
      refine wpAnyH_take (i := 12) (oi := { dst := some 95, op := Go.Op.pick (Go.Operand.tmp 91) (Go.Operand.tmp 94) (Go.Operand.const (Go.Value.bool false)), type := 4, pos := "law.go:53", after := #[{ on := 8, ground := Go.Ground.data }, { on := 11, ground := Go.Ground.data }, { on := 4, ground := Go.Ground.guard }], guard := some (4, false) }) (v := ?v12) rfl (by kernel_rfl) (by kernel_rfl) (by kernel_rfl) (fun _ _ _ h => h) (Or.inl ⟨by rfl, ?y12⟩) (by assumption) ?r12
      case y12 => (intro w hSw; (try dsimp only at hSw); go_simp; try with_reducible rfl)
      try simp only [Act.put, List.setIfInBounds_toArray, List.set_cons_zero, List.set_cons_succ]
      refine wpAnyH_take (i := 13) (oi := { dst := some 96, op := Go.Op.move (Go.Operand.tmp 95), type := 4, pos := "law.go:53", after := #[{ on := 12, ground := Go.Ground.data }, { on := 10, ground := Go.Ground.chain }, { on := 4, ground := Go.Ground.guard }], guard := some (4, false) }) (v := ?v13) rfl (by kernel_rfl) (by kernel_rfl) (by kernel_rfl) (fun _ _ _ h => h) (Or.inl ⟨by rfl, ?y13⟩) (by assumption) ?r13
      case y13 => (intro w hSw; (try dsimp only at hSw); go_simp; try with_reducible rfl)
      try simp only [Act.put, List.setIfInBounds_toArray, List.set_cons_zero, List.set_cons_succ]
      refine wpAnyH_take (i := 14) (oi := { dst := some 97, op := Go.Op.load 23 (Go.Operand.tmp 9), type := 23, pos := "law.go:53", after := #[{ on := 13, ground := Go.Ground.guard }], guard := some (13, true) }) (v := ?v14) rfl (by kernel_rfl) (by kernel_rfl) (by kernel_rfl) (fun _ _ _ h => h) (Or.inl ⟨by rfl, ?y14⟩) (by assumption) ?r14
      case y14 => (intro w hSw; (try dsimp only at hSw); go_simp; try with_reducible rfl)
      try simp only [Act.put, List.setIfInBounds_toArray, List.set_cons_zero, List.set_cons_succ]
      refine wpAnyH_ready (rs := [15]) (by kernel_rfl) (by simp) ?_
      refine AllReadyH.cons (o := { dst := some 98, op := Go.Op.call { callee := Go.Callee.value (Go.Operand.func 17), args := #[Go.Operand.tmp 97], argTypes := #[23] }, type := 3, pos := "law.go:53", after := #[{ on := 14, ground := Go.Ground.data }, { on := 13, ground := Go.Ground.chain }, { on := 13, ground := Go.Ground.guard }], guard := some (13, true) }) rfl (fun K hK => ?_) AllReadyH.nil
      go_simp
      (with_reducible refine (HR3.out _).mono ?_); rintro e v3 ⟨rfl, c3⟩; have b3 := HST.out _ _ b2 c3
      try go_wp2_with fail
      refine hK.out _ _ (HK.out _ b3) (fun hHeld3 => ?_)
      clear hK K hHeld2
      try simp only [Act.put, List.setIfInBounds_toArray, List.set_cons_zero, List.set_cons_succ]
      refine wpAnyH_take (i := 16) (oi := { dst := some 99, op := Go.Op.binOp Go.BinOp.geq 3 (Go.Operand.tmp 98) (Go.Operand.const (Go.Value.int Go.IntKind.i64 199)) 3, type := 4, pos := "law.go:53", after := #[{ on := 15, ground := Go.Ground.data }, { on := 13, ground := Go.Ground.guard }], guard := some (13, true) }) (v := ?v16) rfl (by kernel_rfl) (by kernel_rfl) (by kernel_rfl) (fun _ _ _ h => h) (Or.inl ⟨by rfl, ?y16⟩) (by assumption) ?r16
      case y16 => (intro w hSw; (try dsimp only at hSw); go_simp; try with_reducible rfl)
      try simp only [Act.put, List.setIfInBounds_toArray, List.set_cons_zero, List.set_cons_succ]
      refine wpAnyH_take (i := 17) (oi := { dst := some 100, op := Go.Op.pick (Go.Operand.tmp 96) (Go.Operand.tmp 99) (Go.Operand.const (Go.Value.bool false)), type := 4, pos := "law.go:53", after := #[{ on := 13, ground := Go.Ground.data }, { on := 16, ground := Go.Ground.data }, { on := 4, ground := Go.Ground.guard }], guard := some (4, false) }) (v := ?v17) rfl (by kernel_rfl) (by kernel_rfl) (by kernel_rfl) (fun _ _ _ h => h) (Or.inl ⟨by rfl, ?y17⟩) (by assumption) ?r17
      case y17 => (intro w hSw; (try dsimp only at hSw); go_simp; try with_reducible rfl)
      try simp only [Act.put, List.setIfInBounds_toArray, List.set_cons_zero, List.set_cons_succ]
      refine wpAnyH_take (i := 18) (oi := { dst := some 101, op := Go.Op.move (Go.Operand.tmp 100), type := 4, pos := "law.go:53", after := #[{ on := 17, ground := Go.Ground.data }, { on := 15, ground := Go.Ground.chain }, { on := 4, ground := Go.Ground.guard }], guard := some (4, false) }) (v := ?v18) rfl (by kernel_rfl) (by kernel_rfl) (by kernel_rfl) (fun _ _ _ h => h) (Or.inl ⟨by rfl, ?y18⟩) (by assumption) ?r18
      case y18 => (intro w hSw; (try dsimp only at hSw); go_simp; try with_reducible rfl)
      try simp only [Act.put, List.setIfInBounds_toArray, List.set_cons_zero, List.set_cons_succ]
      refine wpAnyH_take (i := 19) (oi := { dst := some 102, op := Go.Op.load 23 (Go.Operand.tmp 9), type := 23, pos := "law.go:53", after := #[{ on := 18, ground := Go.Ground.guard }], guard := some (18, true) }) (v := ?v19) rfl (by kernel_rfl) (by kernel_rfl) (by kernel_rfl) (fun _ _ _ h => h) (Or.inl ⟨by rfl, ?y19⟩) (by assumption) ?r19
      case y19 => (intro w hSw; (try dsimp only at hSw); go_simp; try with_reducible rfl)
      try simp only [Act.put, List.setIfInBounds_toArray, List.set_cons_zero, List.set_cons_succ]
      refine wpAnyH_ready (rs := [20]) (by kernel_rfl) (by simp) ?_
      refine AllReadyH.cons (o := { dst := some 103, op := Go.Op.call { callee := Go.Callee.value (Go.Operand.func 17), args := #[Go.Operand.tmp 102], argTypes := #[23] }, type := 3, pos := "law.go:53", after := #[{ on := 19, ground := Go.Ground.data }, { on := 18, ground := Go.Ground.chain }, { on := 18, ground := Go.Ground.guard }], guard := some (18, true) }) rfl (fun K hK => ?_) AllReadyH.nil
      go_simp
      (with_reducible refine (HR3.out _).mono ?_); rintro e v4 ⟨rfl, c4⟩; have b4 := HST.out _ _ b3 c4
      try go_wp2_with fail
      refine hK.out _ _ (HK.out _ b4) (fun hHeld4 => ?_)
      clear hK K hHeld3
      try simp only [Act.put, List.setIfInBounds_toArray, List.set_cons_zero, List.set_cons_succ]
      refine wpAnyH_take (i := 21) (oi := { dst := some 104, op := Go.Op.binOp Go.BinOp.leq 3 (Go.Operand.tmp 103) (Go.Operand.const (Go.Value.int Go.IntKind.i64 1200)) 3, type := 4, pos := "law.go:53", after := #[{ on := 20, ground := Go.Ground.data }, { on := 18, ground := Go.Ground.guard }], guard := some (18, true) }) (v := ?v21) rfl (by kernel_rfl) (by kernel_rfl) (by kernel_rfl) (fun _ _ _ h => h) (Or.inl ⟨by rfl, ?y21⟩) (by assumption) ?r21
      case y21 => (intro w hSw; (try dsimp only at hSw); go_simp; try with_reducible rfl)
      try simp only [Act.put, List.setIfInBounds_toArray, List.set_cons_zero, List.set_cons_succ]
      refine wpAnyH_take (i := 22) (oi := { dst := some 105, op := Go.Op.pick (Go.Operand.tmp 101) (Go.Operand.tmp 104) (Go.Operand.const (Go.Value.bool false)), type := 4, pos := "law.go:53", after := #[{ on := 18, ground := Go.Ground.data }, { on := 21, ground := Go.Ground.data }, { on := 4, ground := Go.Ground.guard }], guard := some (4, false) }) (v := ?v22) rfl (by kernel_rfl) (by kernel_rfl) (by kernel_rfl) (fun _ _ _ h => h) (Or.inl ⟨by rfl, ?y22⟩) (by assumption) ?r22
      case y22 => (intro w hSw; (try dsimp only at hSw); go_simp; try with_reducible rfl)
      try simp only [Act.put, List.setIfInBounds_toArray, List.set_cons_zero, List.set_cons_succ]
      refine wpAnyH_take (i := 23) (oi := { dst := some 106, op := Go.Op.move (Go.Operand.tmp 105), type := 4, pos := "law.go:53", after := #[{ on := 22, ground := Go.Ground.data }, { on := 20, ground := Go.Ground.chain }, { on := 4, ground := Go.Ground.guard }], guard := some (4, false) }) (v := ?v23) rfl (by kernel_rfl) (by kernel_rfl) (by kernel_rfl) (fun _ _ _ h => h) (Or.inl ⟨by rfl, ?y23⟩) (by assumption) ?r23
      case y23 => (intro w hSw; (try dsimp only at hSw); go_simp; try with_reducible rfl)
      try simp only [Act.put, List.setIfInBounds_toArray, List.set_cons_zero, List.set_cons_succ]
      refine wpAnyH_take (i := 24) (oi := { dst := some 107, op := Go.Op.load 23 (Go.Operand.tmp 9), type := 23, pos := "law.go:53", after := #[{ on := 23, ground := Go.Ground.guard }], guard := some (23, true) }) (v := ?v24) rfl (by kernel_rfl) (by kernel_rfl) (by kernel_rfl) (fun _ _ _ h => h) (Or.inl ⟨by rfl, ?y24⟩) (by assumption) ?r24
      case y24 => (intro w hSw; (try dsimp only at hSw); go_simp; try with_reducible rfl)
      try simp only [Act.put, List.setIfInBounds_toArray, List.set_cons_zero, List.set_cons_succ]
      refine wpAnyH_take (i := 26) (oi := { dst := some 109, op := Go.Op.fieldAddr 23 (Go.Operand.tmp 9) 0, type := 0, pos := "law.go:53", after := #[{ on := 23, ground := Go.Ground.guard }], guard := some (23, true) }) (v := ?v26) rfl (by kernel_rfl) (by kernel_rfl) (by kernel_rfl) (fun _ _ _ h => h) (Or.inl ⟨by rfl, ?y26⟩) (by assumption) ?r26
      case y26 => (intro w hSw; (try dsimp only at hSw); go_simp; try with_reducible rfl)
      try simp only [Act.put, List.setIfInBounds_toArray, List.set_cons_zero, List.set_cons_succ]
      refine wpAnyH_take (i := 27) (oi := { dst := some 110, op := Go.Op.load 3 (Go.Operand.tmp 109), type := 3, pos := "law.go:53", after := #[{ on := 26, ground := Go.Ground.data }, { on := 23, ground := Go.Ground.guard }], guard := some (23, true) }) (v := ?v27) rfl (by kernel_rfl) (by kernel_rfl) (by kernel_rfl) (fun _ _ _ h => h) (Or.inl ⟨by rfl, ?y27⟩) (by assumption) ?r27
      case y27 => (intro w hSw; (try dsimp only at hSw); go_simp; try with_reducible rfl)
      try simp only [Act.put, List.setIfInBounds_toArray, List.set_cons_zero, List.set_cons_succ]
      refine wpAnyH_ready (rs := [25]) (by kernel_rfl) (by simp) ?_
      refine AllReadyH.cons (o := { dst := some 108, op := Go.Op.call { callee := Go.Callee.value (Go.Operand.func 15), args := #[Go.Operand.tmp 107], argTypes := #[23] }, type := 3, pos := "law.go:53", after := #[{ on := 24, ground := Go.Ground.data }, { on := 23, ground := Go.Ground.chain }, { on := 23, ground := Go.Ground.guard }], guard := some (23, true) }) rfl (fun K hK => ?_) AllReadyH.nil
      go_simp
      (with_reducible refine (HL3.out _).mono ?_); rintro e v5 ⟨rfl, c5⟩; have b5 := HST.out _ _ b4 c5
      try go_wp2_with fail
      refine hK.out _ _ (HK.out _ b5) (fun hHeld5 => ?_)
      clear hK K hHeld4
      try simp only [Act.put, List.setIfInBounds_toArray, List.set_cons_zero, List.set_cons_succ]
      refine wpAnyH_take (i := 28) (oi := { dst := some 111, op := Go.Op.binOp Go.BinOp.lss 3 (Go.Operand.tmp 108) (Go.Operand.tmp 110) 3, type := 4, pos := "law.go:53", after := #[{ on := 25, ground := Go.Ground.data }, { on := 27, ground := Go.Ground.data }, { on := 23, ground := Go.Ground.guard }], guard := some (23, true) }) (v := ?v28) rfl (by kernel_rfl) (by kernel_rfl) (by kernel_rfl) (fun _ _ _ h => h) (Or.inl ⟨by rfl, ?y28⟩) (by assumption) ?r28
      case y28 => (intro w hSw; (try dsimp only at hSw); go_simp; try with_reducible rfl)
      try simp only [Act.put, List.setIfInBounds_toArray, List.set_cons_zero, List.set_cons_succ]
      refine wpAnyH_take (i := 29) (oi := { dst := some 112, op := Go.Op.move (Go.Operand.tmp 111), type := 4, pos := "law.go:53", after := #[{ on := 28, ground := Go.Ground.data }, { on := 25, ground := Go.Ground.chain }, { on := 23, ground := Go.Ground.guard }], guard := some (23, true) }) (v := ?v29) rfl (by kernel_rfl) (by kernel_rfl) (by kernel_rfl) (fun _ _ _ h => h) (Or.inl ⟨by rfl, ?y29⟩) (by assumption) ?r29
      case y29 => (intro w hSw; (try dsimp only at hSw); go_simp; try with_reducible rfl)
      try simp only [Act.put, List.setIfInBounds_toArray, List.set_cons_zero, List.set_cons_succ]
      refine wpAnyH_take (i := 30) (oi := { dst := some 113, op := Go.Op.load 23 (Go.Operand.tmp 9), type := 23, pos := "law.go:53", after := #[{ on := 29, ground := Go.Ground.guard }], guard := some (29, false) }) (v := undef) rfl (by kernel_rfl) (by kernel_rfl) (by kernel_rfl) (fun _ _ _ h => h) (Or.inr ⟨by rfl, rfl⟩) (by assumption) ?_
      try simp only [Act.put, List.setIfInBounds_toArray, List.set_cons_zero, List.set_cons_succ]
      refine wpAnyH_take (i := 32) (oi := { dst := some 115, op := Go.Op.fieldAddr 23 (Go.Operand.tmp 9) 0, type := 0, pos := "law.go:53", after := #[{ on := 29, ground := Go.Ground.guard }], guard := some (29, false) }) (v := undef) rfl (by kernel_rfl) (by kernel_rfl) (by kernel_rfl) (fun _ _ _ h => h) (Or.inr ⟨by rfl, rfl⟩) (by assumption) ?_
      try simp only [Act.put, List.setIfInBounds_toArray, List.set_cons_zero, List.set_cons_succ]
      refine wpAnyH_take (i := 33) (oi := { dst := some 116, op := Go.Op.load 3 (Go.Operand.tmp 115), type := 3, pos := "law.go:53", after := #[{ on := 32, ground := Go.Ground.data }, { on := 29, ground := Go.Ground.guard }], guard := some (29, false) }) (v := undef) rfl (by kernel_rfl) (by kernel_rfl) (by kernel_rfl) (fun _ _ _ h => h) (Or.inr ⟨by rfl, rfl⟩) (by assumption) ?_
      try simp only [Act.put, List.setIfInBounds_toArray, List.set_cons_zero, List.set_cons_succ]
      refine wpAnyH_take (i := 31) (oi := { dst := some 114, op := Go.Op.call { callee := Go.Callee.value (Go.Operand.func 17), args := #[Go.Operand.tmp 113], argTypes := #[23] }, type := 3, pos := "law.go:53", after := #[{ on := 30, ground := Go.Ground.data }, { on := 29, ground := Go.Ground.chain }, { on := 29, ground := Go.Ground.guard }], guard := some (29, false) }) (v := undef) rfl (by kernel_rfl) (by kernel_rfl) (by kernel_rfl) (fun _ _ _ h => h) (Or.inr ⟨by rfl, rfl⟩) (by assumption) ?_
      try simp only [Act.put, List.setIfInBounds_toArray, List.set_cons_zero, List.set_cons_succ]
      refine wpAnyH_take (i := 34) (oi := { dst := some 117, op := Go.Op.binOp Go.BinOp.lss 3 (Go.Operand.tmp 114) (Go.Operand.tmp 116) 3, type := 4, pos := "law.go:53", after := #[{ on := 31, ground := Go.Ground.data }, { on := 33, ground := Go.Ground.data }, { on := 29, ground := Go.Ground.guard }], guard := some (29, false) }) (v := undef) rfl (by kernel_rfl) (by kernel_rfl) (by kernel_rfl) (fun _ _ _ h => h) (Or.inr ⟨by rfl, rfl⟩) (by assumption) ?_
      try simp only [Act.put, List.setIfInBounds_toArray, List.set_cons_zero, List.set_cons_succ]
      refine wpAnyH_take (i := 35) (oi := { dst := some 118, op := Go.Op.pick (Go.Operand.tmp 112) (Go.Operand.const (Go.Value.bool true)) (Go.Operand.tmp 117), type := 4, pos := "law.go:53", after := #[{ on := 29, ground := Go.Ground.data }, { on := 34, ground := Go.Ground.data }, { on := 23, ground := Go.Ground.guard }], guard := some (23, true) }) (v := ?v35) rfl (by kernel_rfl) (by kernel_rfl) (by kernel_rfl) (fun _ _ _ h => h) (Or.inl ⟨by rfl, ?y35⟩) (by assumption) ?r35
      case y35 => (intro w hSw; (try dsimp only at hSw); go_simp; try with_reducible rfl)
      try simp only [Act.put, List.setIfInBounds_toArray, List.set_cons_zero, List.set_cons_succ]
      refine wpAnyH_take (i := 36) (oi := { dst := some 119, op := Go.Op.pick (Go.Operand.tmp 106) (Go.Operand.tmp 118) (Go.Operand.const (Go.Value.bool false)), type := 4, pos := "law.go:53", after := #[{ on := 23, ground := Go.Ground.data }, { on := 35, ground := Go.Ground.data }, { on := 4, ground := Go.Ground.guard }], guard := some (4, false) }) (v := ?v36) rfl (by kernel_rfl) (by kernel_rfl) (by kernel_rfl) (fun _ _ _ h => h) (Or.inl ⟨by rfl, ?y36⟩) (by assumption) ?r36
      case y36 => (intro w hSw; (try dsimp only at hSw); go_simp; try with_reducible rfl)
      try simp only [Act.put, List.setIfInBounds_toArray, List.set_cons_zero, List.set_cons_succ]
      refine wpAnyH_take (i := 37) (oi := { dst := some 120, op := Go.Op.pick (Go.Operand.tmp 87) (Go.Operand.const (Go.Value.bool true)) (Go.Operand.tmp 119), type := 4, pos := "law.go:53", after := #[{ on := 4, ground := Go.Ground.data }, { on := 36, ground := Go.Ground.data }, { on := 1, ground := Go.Ground.guard }], guard := some (1, true) }) (v := ?v37) rfl (by kernel_rfl) (by kernel_rfl) (by kernel_rfl) (fun _ _ _ h => h) (Or.inl ⟨by rfl, ?y37⟩) (by assumption) ?r37
      case y37 => (intro w hSw; (try dsimp only at hSw); go_simp; try with_reducible rfl)
      try simp only [Act.put, List.setIfInBounds_toArray, List.set_cons_zero, List.set_cons_succ]
      refine wpAnyH_take (i := 38) (oi := { dst := some 121, op := Go.Op.pick (Go.Operand.tmp 84) (Go.Operand.tmp 120) (Go.Operand.const (Go.Value.bool false)), type := 4, pos := "law.go:53", after := #[{ on := 1, ground := Go.Ground.data }, { on := 37, ground := Go.Ground.data }], guard := none }) (v := ?v38) rfl (by kernel_rfl) (by kernel_rfl) (by kernel_rfl) (fun _ _ _ h => h) (Or.inl ⟨by rfl, ?y38⟩) (by assumption) ?r38
      case y38 => (intro w hSw; (try dsimp only at hSw); go_simp; try with_reducible rfl)
      try simp only [Act.put, List.setIfInBounds_toArray, List.set_cons_zero, List.set_cons_succ]
      refine wpAnyH_take (i := 39) (oi := { dst := some 2, op := Go.Op.assign (Go.Operand.tmp 121), type := 4, pos := "law.go:53", after := #[{ on := 38, ground := Go.Ground.data }, { on := 31, ground := Go.Ground.chain }, { on := 0, ground := Go.Ground.phase }, { on := 1, ground := Go.Ground.phase }, { on := 2, ground := Go.Ground.phase }, { on := 3, ground := Go.Ground.phase }, { on := 4, ground := Go.Ground.phase }, { on := 5, ground := Go.Ground.phase }, { on := 6, ground := Go.Ground.phase }, { on := 7, ground := Go.Ground.phase }, { on := 8, ground := Go.Ground.phase }, { on := 9, ground := Go.Ground.phase }, { on := 10, ground := Go.Ground.phase }, { on := 11, ground := Go.Ground.phase }, { on := 12, ground := Go.Ground.phase }, { on := 13, ground := Go.Ground.phase }, { on := 14, ground := Go.Ground.phase }, { on := 15, ground := Go.Ground.phase }, { on := 16, ground := Go.Ground.phase }, { on := 17, ground := Go.Ground.phase }, { on := 18, ground := Go.Ground.phase }, { on := 19, ground := Go.Ground.phase }, { on := 20, ground := Go.Ground.phase }, { on := 21, ground := Go.Ground.phase }, { on := 22, ground := Go.Ground.phase }, { on := 23, ground := Go.Ground.phase }, { on := 24, ground := Go.Ground.phase }, { on := 25, ground := Go.Ground.phase }, { on := 26, ground := Go.Ground.phase }, { on := 27, ground := Go.Ground.phase }, { on := 28, ground := Go.Ground.phase }, { on := 29, ground := Go.Ground.phase }, { on := 30, ground := Go.Ground.phase }, { on := 31, ground := Go.Ground.phase }, { on := 32, ground := Go.Ground.phase }, { on := 33, ground := Go.Ground.phase }, { on := 34, ground := Go.Ground.phase }, { on := 35, ground := Go.Ground.phase }, { on := 36, ground := Go.Ground.phase }, { on := 37, ground := Go.Ground.phase }, { on := 38, ground := Go.Ground.phase }], guard := none }) (v := ?v39) rfl (by kernel_rfl) (by kernel_rfl) (by kernel_rfl) (fun _ _ _ h => h) (Or.inl ⟨by rfl, ?y39⟩) (by assumption) ?r39
      case y39 => (intro w hSw; (try dsimp only at hSw); go_simp; try with_reducible rfl)
      try simp only [Act.put, List.setIfInBounds_toArray, List.set_cons_zero, List.set_cons_succ]
      refine wpAnyH_done (by kernel_rfl) ?_ _
      refine NoPanic.normal ?_
      all_goals
        go_wp2_with fail
        go_ret
        exact ⟨by first | rfl | exact ret_bool (decide_eq_true HLT.out), by first | exact hbw0.trans (b6.mono hbw0.size) | exact hbw0.trans (b5.mono hbw0.size)⟩

set_option maxRecDepth 100000 in
set_option maxHeartbeats 8000000 in
theorem walk_bounds_rights (i : Int) (w : World) (hi : In64 i) (J : Nat) (hJ : J < 28) (eJ : (wrap64 (i.tmod 28 + 28)).tmod 28 = (J : Int)) (nm : ByteArray) (hnm : namesL[J]? = some nm) (q : R) (c d : Int) (hL3 : leftOf q.k q.p = c) (hR3 : rightOf q.k q.p = d) (hc1 : 199 ≤ c) (hc2 : c ≤ 1200) (hd1 : 199 ≤ d) (hd2 : d ≤ 1200) (hge : q.p ≤ c) (hlt : d < q.p) (h2 : findR tabR nm 2 = none) (h3 : findR tabR nm 3 = some q) :
    Calls Try.prog 5 #[.int .i64 i] w fun e w' => e = .returned (.bool true) ∧ Below w.heap.size w w' := by
  unfold In64 at hi
  obtain ⟨hi1, hi2⟩ := hi
  have HJ := Lib.hid eJ
  have HM := Lib.hid hnm
  have H2 := Lib.hid (fun W => by have h := ops_Prefix nm W; rw [h2] at h; exact h)
  have H3 := Lib.hid (fun W => by have h := ops_Infix nm W; rw [h3] at h; exact h)
  unfold opAns at H2 H3
  have HL3 := Lib.hid (fun W => by have h := ops_Left q.k q.p W; rw [hL3] at h; exact h)
  have HR3 := Lib.hid (fun W => by have h := ops_Right q.k q.p W; rw [hR3] at h; exact h)
  have HLT := Lib.hid hlt
  have HE9 : Hid (decide (c < q.p) = false) := Lib.hid (decide_eq_false (by omega))
  have HE8 : Hid (decide (d < q.p) = true) := Lib.hid (decide_eq_true hlt)
  clear hlt hge
  clear eJ hnm h2 h3 hL3 hR3
  go_enter Try.func5, Try.ntmps5
  go_wp2_with fail
  refine (ops_live _).mono ?_; rintro e w1 ⟨rfl, hb1⟩
  go_wp2_with fail
  refine (ops_Names _).mono ?_; rintro e w2 ⟨v, rfl, hown, hb2⟩
  have hbw2 := hb1.trans (hb2.mono hb1.size)
  obtain ⟨ad, cap, rfl, hlc, hcm, hcell⟩ := hown.view
  obtain ⟨g, rfl, cJ0⟩ := hcell J (by rw [names_len]; exact hJ)
  have cJ : w2.cell? ⟨g, J, none⟩ = some (.string nm) := by
    rw [cJ0]; have h9 := HM.out; rw [List.getElem?_eq_getElem (by rw [names_len]; exact hJ)] at h9; rw [Option.some.inj h9]
  have HC : Hid (∀ k, k < 28 → ∃ x, w2.cell? ⟨g, k, none⟩ = some (.string x) ∧ (k ≠ J → (x.toList == nm.toList) = false)) := Lib.hid (fun k hk => by
    obtain ⟨g', e', c⟩ := hcell k (by rw [names_len]; exact hk)
    obtain rfl : g = g' := by simpa using e'
    refine ⟨_, c, fun hne => ?_⟩
    have h9 := HM.out
    rw [List.getElem?_eq_getElem (by rw [names_len]; exact hJ)] at h9
    rw [← Option.some.inj h9]
    exact names_apart _ _ hne)
  rw [names_len] at hlc ⊢
  clear hb1 hb2 hown hcell cJ0
  unfold maxLen at hcm
  go_wp2_with fail
  rw [HJ.out]
  generalize wrap64 (i.tmod 28 + 28) = zz at *
  clear HJ
  have hj0 : (0 : Int) ≤ (J : Int) := by omega
  have hj1 : (J : Int) < 28 := by omega
  go_loop [28] (fun iv => ∃ k : Nat, k ≤ 28 ∧ iv = .int .i64 k) (fun iv => 28 - (intOf iv).toNat)
  case atStart => exact ⟨0, Nat.zero_le _, rfl⟩
  case round =>
    obtain ⟨k, hk, rfl⟩ := hrel
    by_cases hlt9 : k < 28
    · obtain ⟨x, c0, hx⟩ := HC.out k hlt9
      have hk0 : (0 : Int) ≤ (k : Int) := by omega
      have hk1 : (k : Int) < 28 := by omega
      by_cases hkj : k = J
      · have e1 : ((k : Int) == (J : Int)) = true := by simp; omega
        have e2 : ((k : Int) != (J : Int)) = false := by simp; omega
        have HX := Lib.hid hx
        have HKJ := Lib.hid hkj
        clear hkj hx
        go_wp2_with fail
        go_round
        case rel => exact ⟨k + 1, by omega, by go_num⟩
        case measure => simp [intOf]; omega
      · have e1 : ((k : Int) == (J : Int)) = false := by simp; omega
        have e2 : ((k : Int) != (J : Int)) = true := by simp; omega
        have e3 := hx hkj
        clear hx
        go_wp2_with fail
        go_round
        case rel => exact ⟨k + 1, by omega, by go_num⟩
        case measure => simp [intOf]; omega
    · have hk28 : k = 28 := by omega
      subst hk28
      clear HC hlt9 hk
      go_wp2_with fail
      refine (H2.out _).mono ?_; rintro e w3 ⟨rfl, hb3⟩
      have hbw3 := hbw2.trans (hb3.mono hbw2.size)
      have cJ3 := (hb3.cell (p := ⟨g, J, none⟩) (World.block_lt_of_cell? w2 _ cJ)).trans cJ
      have hgl := World.block_lt_of_cell? w3 _ cJ3
      clear hb3 cJ hbw2
      go_wp2_with fail
      refine (H3.out _).mono ?_; rintro e w4 ⟨rfl, hb4⟩
      have hbw4 := (hbw3.alloc hbw3.size _).trans (hb4.mono (by rw [World.size_alloc]; have := hbw3.size; omega))
      have A4 := (OpAt.new w3 0 ⟨#[]⟩ _).on hb4
      have hl4 := World.block_lt_of_cell? w4 _ A4.1
      have hb0 := hbw4.alloc hbw4.size (.cells #[.int .i64 q.p, .string q.k] 23)
      have B0 := OpAt.new w4 q.p q.k 23
      have A0 := A4.past (.cells #[.int .i64 q.p, .string q.k] 23)
      clear hb4 A4 hbw4 hbw3 cJ3
      obtain ⟨a0, a1⟩ := A0
      go_wp2_with fail
      generalize w4.alloc _ = w0 at *
      have hbw0 := hb0
      have BZ := B0
      clear hb0 B0 a0 a1
      have HK : Hid (∀ W, Below w0.heap.size w0 W → Below w0.heap.size w0 W ∧ W.cell? ⟨w4.heap.size, 0, none⟩ = some (.int .i64 q.p) ∧ W.cell? ⟨w4.heap.size, 1, none⟩ = some (.string q.k)) := Lib.hid (fun W hb => ⟨hb, (BZ.on hb).1, (BZ.on hb).2⟩)
      have HST : Hid (∀ W W', Below w0.heap.size w0 W → Below W.heap.size W W' → Below w0.heap.size w0 W') := Lib.hid (fun W W' h h' => h.trans (h'.mono h.size))
      have hD0 : Below w0.heap.size w0 w0.drew := (Below.refl _ w0).drew
      have hK0 := HK.out _ (Below.refl _ w0)
      clear BZ
      have e9 := HE9.out
      have e8 := HE8.out
      go_region_held3 (fun W => Below w0.heap.size w0 W ∧ W.cell? ⟨w4.heap.size, 0, none⟩ = some (.int .i64 q.p) ∧ W.cell? ⟨w4.heap.size, 1, none⟩ = some (.string q.k))
        (first | exact HK.out _ b6 | exact HK.out _ b5 | exact HK.out _ b4 | exact HK.out _ b3 | exact HK.out _ b2 | exact HK.out _ b1 | exact HK.out _ hD0)
        (first
          | (go_at_call 17; have _h := c5; (with_reducible refine (HR3.out _).mono ?_); rintro e v6 ⟨rfl, c6⟩; have b6 := HST.out _ _ b5 c6)
          | (go_at_call 15; have _h := c4; (with_reducible refine (HL3.out _).mono ?_); rintro e v5 ⟨rfl, c5⟩; have b5 := HST.out _ _ b4 c5)
          | (go_at_call 17; have _h := c3; (with_reducible refine (HR3.out _).mono ?_); rintro e v4 ⟨rfl, c4⟩; have b4 := HST.out _ _ b3 c4)
          | (go_at_call 17; have _h := c2; (with_reducible refine (HR3.out _).mono ?_); rintro e v3 ⟨rfl, c3⟩; have b3 := HST.out _ _ b2 c3)
          | (go_at_call 15; have _h := c1; (with_reducible refine (HL3.out _).mono ?_); rintro e v2 ⟨rfl, c2⟩; have b2 := HST.out _ _ b1 c2)
          | (go_at_call 15; (with_reducible refine (HL3.out _).mono ?_); rintro e v1 ⟨rfl, c1⟩; have b1 := HST.out _ _ hD0 c1))
      all_goals
        go_wp2_with fail
        go_ret
        exact ⟨by first | rfl | exact ret_bool (decide_eq_true HLT.out), by first | exact hbw0.trans (b6.mono hbw0.size) | exact hbw0.trans (b5.mono hbw0.size)⟩

set_option maxRecDepth 100000 in
set_option maxHeartbeats 8000000 in
theorem walk_bounds_bothl (i : Int) (w : World) (hi : In64 i) (J : Nat) (hJ : J < 28) (eJ : (wrap64 (i.tmod 28 + 28)).tmod 28 = (J : Int)) (nm : ByteArray) (hnm : namesL[J]? = some nm) (r : R) (y : Int) (hL2 : leftOf r.k r.p = 0) (hR2 : rightOf r.k r.p = y) (hy1 : 199 ≤ y) (hy2 : y ≤ 1200) (q : R) (c d : Int) (hL3 : leftOf q.k q.p = c) (hR3 : rightOf q.k q.p = d) (hc1 : 199 ≤ c) (hc2 : c ≤ 1200) (hd1 : 199 ≤ d) (hd2 : d ≤ 1200) (hlt : c < q.p) (h2 : findR tabR nm 2 = some r) (h3 : findR tabR nm 3 = some q) :
    Calls Try.prog 5 #[.int .i64 i] w fun e w' => e = .returned (.bool true) ∧ Below w.heap.size w w' := by
  unfold In64 at hi
  obtain ⟨hi1, hi2⟩ := hi
  have HJ := Lib.hid eJ
  have HM := Lib.hid hnm
  have H2 := Lib.hid (fun W => by have h := ops_Prefix nm W; rw [h2] at h; exact h)
  have H3 := Lib.hid (fun W => by have h := ops_Infix nm W; rw [h3] at h; exact h)
  unfold opAns at H2 H3
  have HL2 := Lib.hid (fun W => by have h := ops_Left r.k r.p W; rw [hL2] at h; exact h)
  have HR2 := Lib.hid (fun W => by have h := ops_Right r.k r.p W; rw [hR2] at h; exact h)
  have HL3 := Lib.hid (fun W => by have h := ops_Left q.k q.p W; rw [hL3] at h; exact h)
  have HR3 := Lib.hid (fun W => by have h := ops_Right q.k q.p W; rw [hR3] at h; exact h)
  have HLT := Lib.hid hlt
  have HE9 : Hid (decide (c < q.p) = true) := Lib.hid (decide_eq_true hlt)
  clear hlt
  clear eJ hnm h2 h3 hL2 hR2 hL3 hR3
  go_enter Try.func5, Try.ntmps5
  go_wp2_with fail
  refine (ops_live _).mono ?_; rintro e w1 ⟨rfl, hb1⟩
  go_wp2_with fail
  refine (ops_Names _).mono ?_; rintro e w2 ⟨v, rfl, hown, hb2⟩
  have hbw2 := hb1.trans (hb2.mono hb1.size)
  obtain ⟨ad, cap, rfl, hlc, hcm, hcell⟩ := hown.view
  obtain ⟨g, rfl, cJ0⟩ := hcell J (by rw [names_len]; exact hJ)
  have cJ : w2.cell? ⟨g, J, none⟩ = some (.string nm) := by
    rw [cJ0]; have h9 := HM.out; rw [List.getElem?_eq_getElem (by rw [names_len]; exact hJ)] at h9; rw [Option.some.inj h9]
  have HC : Hid (∀ k, k < 28 → ∃ x, w2.cell? ⟨g, k, none⟩ = some (.string x) ∧ (k ≠ J → (x.toList == nm.toList) = false)) := Lib.hid (fun k hk => by
    obtain ⟨g', e', c⟩ := hcell k (by rw [names_len]; exact hk)
    obtain rfl : g = g' := by simpa using e'
    refine ⟨_, c, fun hne => ?_⟩
    have h9 := HM.out
    rw [List.getElem?_eq_getElem (by rw [names_len]; exact hJ)] at h9
    rw [← Option.some.inj h9]
    exact names_apart _ _ hne)
  rw [names_len] at hlc ⊢
  clear hb1 hb2 hown hcell cJ0
  unfold maxLen at hcm
  go_wp2_with fail
  rw [HJ.out]
  generalize wrap64 (i.tmod 28 + 28) = zz at *
  clear HJ
  have hj0 : (0 : Int) ≤ (J : Int) := by omega
  have hj1 : (J : Int) < 28 := by omega
  go_loop [28] (fun iv => ∃ k : Nat, k ≤ 28 ∧ iv = .int .i64 k) (fun iv => 28 - (intOf iv).toNat)
  case atStart => exact ⟨0, Nat.zero_le _, rfl⟩
  case round =>
    obtain ⟨k, hk, rfl⟩ := hrel
    by_cases hlt9 : k < 28
    · obtain ⟨x, c0, hx⟩ := HC.out k hlt9
      have hk0 : (0 : Int) ≤ (k : Int) := by omega
      have hk1 : (k : Int) < 28 := by omega
      by_cases hkj : k = J
      · have e1 : ((k : Int) == (J : Int)) = true := by simp; omega
        have e2 : ((k : Int) != (J : Int)) = false := by simp; omega
        have HX := Lib.hid hx
        have HKJ := Lib.hid hkj
        clear hkj hx
        go_wp2_with fail
        go_round
        case rel => exact ⟨k + 1, by omega, by go_num⟩
        case measure => simp [intOf]; omega
      · have e1 : ((k : Int) == (J : Int)) = false := by simp; omega
        have e2 : ((k : Int) != (J : Int)) = true := by simp; omega
        have e3 := hx hkj
        clear hx
        go_wp2_with fail
        go_round
        case rel => exact ⟨k + 1, by omega, by go_num⟩
        case measure => simp [intOf]; omega
    · have hk28 : k = 28 := by omega
      subst hk28
      clear HC hlt9 hk
      go_wp2_with fail
      refine (H2.out _).mono ?_; rintro e w3 ⟨rfl, hb3⟩
      have hbw3 := hbw2.trans (hb3.mono hbw2.size)
      have cJ3 := (hb3.cell (p := ⟨g, J, none⟩) (World.block_lt_of_cell? w2 _ cJ)).trans cJ
      have hgl := World.block_lt_of_cell? w3 _ cJ3
      clear hb3 cJ hbw2
      go_wp2_with fail
      refine (H3.out _).mono ?_; rintro e w4 ⟨rfl, hb4⟩
      have hbw4 := (hbw3.alloc hbw3.size _).trans (hb4.mono (by rw [World.size_alloc]; have := hbw3.size; omega))
      have A4 := (OpAt.new w3 r.p r.k _).on hb4
      have hl4 := World.block_lt_of_cell? w4 _ A4.1
      have hb0 := hbw4.alloc hbw4.size (.cells #[.int .i64 q.p, .string q.k] 23)
      have B0 := OpAt.new w4 q.p q.k 23
      have A0 := A4.past (.cells #[.int .i64 q.p, .string q.k] 23)
      clear hb4 A4 hbw4 hbw3 cJ3
      obtain ⟨a0, a1⟩ := A0
      go_wp2_with fail
      refine (HL2.out _).mono ?_; rintro e w5 ⟨rfl, hb5⟩
      have hbw5 := hb0.trans (hb5.mono hb0.size)
      obtain ⟨a5, a6⟩ := (show OpAt _ w3.heap.size r.p r.k from ⟨a0, a1⟩).on hb5
      have B5 := B0.on hb5
      clear hb0 hb5 a0 a1 B0
      go_wp2_with fail
      refine (HR2.out _).mono ?_; rintro e w6 ⟨rfl, hb6⟩
      have hbw6 := hbw5.trans (hb6.mono hbw5.size)
      obtain ⟨a7, a8⟩ := (show OpAt _ w3.heap.size r.p r.k from ⟨a5, a6⟩).on hb6
      have B6 := B5.on hb6
      clear hbw5 hb6 a5 a6 B5
      go_wp2_with fail
      refine (HR2.out _).mono ?_; rintro e w0 ⟨rfl, hb7⟩
      have hbw0 := hbw6.trans (hb7.mono hbw6.size)
      have BZ := B6.on hb7
      clear hbw6 hb7 a7 a8 B6
      go_wp2_with fail
      have HK : Hid (∀ W, Below w0.heap.size w0 W → Below w0.heap.size w0 W ∧ W.cell? ⟨w4.heap.size, 0, none⟩ = some (.int .i64 q.p) ∧ W.cell? ⟨w4.heap.size, 1, none⟩ = some (.string q.k)) := Lib.hid (fun W hb => ⟨hb, (BZ.on hb).1, (BZ.on hb).2⟩)
      have HST : Hid (∀ W W', Below w0.heap.size w0 W → Below W.heap.size W W' → Below w0.heap.size w0 W') := Lib.hid (fun W W' h h' => h.trans (h'.mono h.size))
      have hD0 : Below w0.heap.size w0 w0.drew := (Below.refl _ w0).drew
      have hK0 := HK.out _ (Below.refl _ w0)
      clear BZ
      have e9 := HE9.out
      refine wp_region_noPanic ?_
      refine wp_region_held_drew (S := (fun W => Below w0.heap.size w0 W ∧ W.cell? ⟨w4.heap.size, 0, none⟩ = some (.int .i64 q.p) ∧ W.cell? ⟨w4.heap.size, 1, none⟩ = some (.string q.k))) (by kernel_rfl) (HK.out _ hD0) (fun hHeld => ?_)
      refine wpAnyH_take (i := 0) (oi := { dst := some 83, op := Go.Op.move (Go.Operand.tmp 3), type := 4, pos := "law.go:53", after := #[], guard := none }) (v := ?v0) rfl (by kernel_rfl) (by kernel_rfl) (by kernel_rfl) (fun _ _ _ h => h) (Or.inl ⟨by rfl, ?y0⟩) (by assumption) ?r0
      case y0 => (intro w hSw; (try dsimp only at hSw); go_simp; try with_reducible rfl)
      try simp only [Act.put, List.setIfInBounds_toArray, List.set_cons_zero, List.set_cons_succ]
      refine wpAnyH_take (i := 1) (oi := { dst := some 84, op := Go.Op.move (Go.Operand.tmp 83), type := 4, pos := "law.go:53", after := #[{ on := 0, ground := Go.Ground.data }], guard := none }) (v := ?v1) rfl (by kernel_rfl) (by kernel_rfl) (by kernel_rfl) (fun _ _ _ h => h) (Or.inl ⟨by rfl, ?y1⟩) (by assumption) ?r1
      case y1 => (intro w hSw; (try dsimp only at hSw); go_simp; try with_reducible rfl)
      try simp only [Act.put, List.setIfInBounds_toArray, List.set_cons_zero, List.set_cons_succ]
      refine wpAnyH_take (i := 2) (oi := { dst := some 85, op := Go.Op.move (Go.Operand.tmp 10), type := 4, pos := "law.go:53", after := #[{ on := 1, ground := Go.Ground.guard }], guard := some (1, true) }) (v := ?v2) rfl (by kernel_rfl) (by kernel_rfl) (by kernel_rfl) (fun _ _ _ h => h) (Or.inl ⟨by rfl, ?y2⟩) (by assumption) ?r2
      case y2 => (intro w hSw; (try dsimp only at hSw); go_simp; try with_reducible rfl)
      try simp only [Act.put, List.setIfInBounds_toArray, List.set_cons_zero, List.set_cons_succ]
      refine wpAnyH_take (i := 3) (oi := { dst := some 86, op := Go.Op.unOp Go.UnOp.not 4 (Go.Operand.tmp 85), type := 4, pos := "law.go:53", after := #[{ on := 2, ground := Go.Ground.data }, { on := 1, ground := Go.Ground.guard }], guard := some (1, true) }) (v := ?v3) rfl (by kernel_rfl) (by kernel_rfl) (by kernel_rfl) (fun _ _ _ h => h) (Or.inl ⟨by rfl, ?y3⟩) (by assumption) ?r3
      case y3 => (intro w hSw; (try dsimp only at hSw); go_simp; try with_reducible rfl)
      try simp only [Act.put, List.setIfInBounds_toArray, List.set_cons_zero, List.set_cons_succ]
      refine wpAnyH_take (i := 4) (oi := { dst := some 87, op := Go.Op.move (Go.Operand.tmp 86), type := 4, pos := "law.go:53", after := #[{ on := 3, ground := Go.Ground.data }, { on := 1, ground := Go.Ground.chain }, { on := 1, ground := Go.Ground.guard }], guard := some (1, true) }) (v := ?v4) rfl (by kernel_rfl) (by kernel_rfl) (by kernel_rfl) (fun _ _ _ h => h) (Or.inl ⟨by rfl, ?y4⟩) (by assumption) ?r4
      case y4 => (intro w hSw; (try dsimp only at hSw); go_simp; try with_reducible rfl)
      try simp only [Act.put, List.setIfInBounds_toArray, List.set_cons_zero, List.set_cons_succ]
      refine wpAnyH_take (i := 5) (oi := { dst := some 88, op := Go.Op.load 23 (Go.Operand.tmp 9), type := 23, pos := "law.go:53", after := #[{ on := 4, ground := Go.Ground.guard }], guard := some (4, false) }) (v := ?v5) rfl (by kernel_rfl) (by kernel_rfl) (by kernel_rfl) (fun _ _ _ h => h) (Or.inl ⟨by rfl, ?y5⟩) (by assumption) ?r5
      case y5 => (intro w hSw; (try dsimp only at hSw); go_simp; try with_reducible rfl)
      try simp only [Act.put, List.setIfInBounds_toArray, List.set_cons_zero, List.set_cons_succ]
      refine wpAnyH_ready (rs := [6]) (by kernel_rfl) (by simp) ?_
      refine AllReadyH.cons (o := { dst := some 89, op := Go.Op.call { callee := Go.Callee.value (Go.Operand.func 15), args := #[Go.Operand.tmp 88], argTypes := #[23] }, type := 3, pos := "law.go:53", after := #[{ on := 5, ground := Go.Ground.data }, { on := 4, ground := Go.Ground.chain }, { on := 4, ground := Go.Ground.guard }], guard := some (4, false) }) rfl (fun K hK => ?_) AllReadyH.nil
      go_simp
      (with_reducible refine (HL3.out _).mono ?_); rintro e v1 ⟨rfl, c1⟩; have b1 := HST.out _ _ hD0 c1
      try go_wp2_with fail
      refine hK.out _ _ (HK.out _ b1) (fun hHeld1 => ?_)
      clear hK K hHeld
      try simp only [Act.put, List.setIfInBounds_toArray, List.set_cons_zero, List.set_cons_succ]
      refine wpAnyH_take (i := 7) (oi := { dst := some 90, op := Go.Op.binOp Go.BinOp.geq 3 (Go.Operand.tmp 89) (Go.Operand.const (Go.Value.int Go.IntKind.i64 199)) 3, type := 4, pos := "law.go:53", after := #[{ on := 6, ground := Go.Ground.data }, { on := 4, ground := Go.Ground.guard }], guard := some (4, false) }) (v := ?v7) rfl (by kernel_rfl) (by kernel_rfl) (by kernel_rfl) (fun _ _ _ h => h) (Or.inl ⟨by rfl, ?y7⟩) (by assumption) ?r7
      case y7 => (intro w hSw; (try dsimp only at hSw); go_simp; try with_reducible rfl)
      try simp only [Act.put, List.setIfInBounds_toArray, List.set_cons_zero, List.set_cons_succ]
      refine wpAnyH_take (i := 8) (oi := { dst := some 91, op := Go.Op.move (Go.Operand.tmp 90), type := 4, pos := "law.go:53", after := #[{ on := 7, ground := Go.Ground.data }, { on := 6, ground := Go.Ground.chain }, { on := 4, ground := Go.Ground.guard }], guard := some (4, false) }) (v := ?v8) rfl (by kernel_rfl) (by kernel_rfl) (by kernel_rfl) (fun _ _ _ h => h) (Or.inl ⟨by rfl, ?y8⟩) (by assumption) ?r8
      case y8 => (intro w hSw; (try dsimp only at hSw); go_simp; try with_reducible rfl)
      try simp only [Act.put, List.setIfInBounds_toArray, List.set_cons_zero, List.set_cons_succ]
      refine wpAnyH_take (i := 9) (oi := { dst := some 92, op := Go.Op.load 23 (Go.Operand.tmp 9), type := 23, pos := "law.go:53", after := #[{ on := 8, ground := Go.Ground.guard }], guard := some (8, true) }) (v := ?v9) rfl (by kernel_rfl) (by kernel_rfl) (by kernel_rfl) (fun _ _ _ h => h) (Or.inl ⟨by rfl, ?y9⟩) (by assumption) ?r9
      case y9 => (intro w hSw; (try dsimp only at hSw); go_simp; try with_reducible rfl)
      try simp only [Act.put, List.setIfInBounds_toArray, List.set_cons_zero, List.set_cons_succ]
      refine wpAnyH_ready (rs := [10]) (by kernel_rfl) (by simp) ?_
      refine AllReadyH.cons (o := { dst := some 93, op := Go.Op.call { callee := Go.Callee.value (Go.Operand.func 15), args := #[Go.Operand.tmp 92], argTypes := #[23] }, type := 3, pos := "law.go:53", after := #[{ on := 9, ground := Go.Ground.data }, { on := 8, ground := Go.Ground.chain }, { on := 8, ground := Go.Ground.guard }], guard := some (8, true) }) rfl (fun K hK => ?_) AllReadyH.nil
      go_simp
      (with_reducible refine (HL3.out _).mono ?_); rintro e v2 ⟨rfl, c2⟩; have b2 := HST.out _ _ b1 c2
      try go_wp2_with fail
      refine hK.out _ _ (HK.out _ b2) (fun hHeld2 => ?_)
      clear hK K hHeld1
      try simp only [Act.put, List.setIfInBounds_toArray, List.set_cons_zero, List.set_cons_succ]
      refine wpAnyH_take (i := 11) (oi := { dst := some 94, op := Go.Op.binOp Go.BinOp.leq 3 (Go.Operand.tmp 93) (Go.Operand.const (Go.Value.int Go.IntKind.i64 1200)) 3, type := 4, pos := "law.go:53", after := #[{ on := 10, ground := Go.Ground.data }, { on := 8, ground := Go.Ground.guard }], guard := some (8, true) }) (v := ?v11) rfl (by kernel_rfl) (by kernel_rfl) (by kernel_rfl) (fun _ _ _ h => h) (Or.inl ⟨by rfl, ?y11⟩) (by assumption) ?r11
      case y11 => (intro w hSw; (try dsimp only at hSw); go_simp; try with_reducible rfl)
      try simp only [Act.put, List.setIfInBounds_toArray, List.set_cons_zero, List.set_cons_succ]
      refine wpAnyH_take (i := 12) (oi := { dst := some 95, op := Go.Op.pick (Go.Operand.tmp 91) (Go.Operand.tmp 94) (Go.Operand.const (Go.Value.bool false)), type := 4, pos := "law.go:53", after := #[{ on := 8, ground := Go.Ground.data }, { on := 11, ground := Go.Ground.data }, { on := 4, ground := Go.Ground.guard }], guard := some (4, false) }) (v := ?v12) rfl (by kernel_rfl) (by kernel_rfl) (by kernel_rfl) (fun _ _ _ h => h) (Or.inl ⟨by rfl, ?y12⟩) (by assumption) ?r12
      case y12 => (intro w hSw; (try dsimp only at hSw); go_simp; try with_reducible rfl)
      try simp only [Act.put, List.setIfInBounds_toArray, List.set_cons_zero, List.set_cons_succ]
      refine wpAnyH_take (i := 13) (oi := { dst := some 96, op := Go.Op.move (Go.Operand.tmp 95), type := 4, pos := "law.go:53", after := #[{ on := 12, ground := Go.Ground.data }, { on := 10, ground := Go.Ground.chain }, { on := 4, ground := Go.Ground.guard }], guard := some (4, false) }) (v := ?v13) rfl (by kernel_rfl) (by kernel_rfl) (by kernel_rfl) (fun _ _ _ h => h) (Or.inl ⟨by rfl, ?y13⟩) (by assumption) ?r13
      case y13 => (intro w hSw; (try dsimp only at hSw); go_simp; try with_reducible rfl)
      try simp only [Act.put, List.setIfInBounds_toArray, List.set_cons_zero, List.set_cons_succ]
      refine wpAnyH_take (i := 14) (oi := { dst := some 97, op := Go.Op.load 23 (Go.Operand.tmp 9), type := 23, pos := "law.go:53", after := #[{ on := 13, ground := Go.Ground.guard }], guard := some (13, true) }) (v := ?v14) rfl (by kernel_rfl) (by kernel_rfl) (by kernel_rfl) (fun _ _ _ h => h) (Or.inl ⟨by rfl, ?y14⟩) (by assumption) ?r14
      case y14 => (intro w hSw; (try dsimp only at hSw); go_simp; try with_reducible rfl)
      try simp only [Act.put, List.setIfInBounds_toArray, List.set_cons_zero, List.set_cons_succ]
      refine wpAnyH_ready (rs := [15]) (by kernel_rfl) (by simp) ?_
      refine AllReadyH.cons (o := { dst := some 98, op := Go.Op.call { callee := Go.Callee.value (Go.Operand.func 17), args := #[Go.Operand.tmp 97], argTypes := #[23] }, type := 3, pos := "law.go:53", after := #[{ on := 14, ground := Go.Ground.data }, { on := 13, ground := Go.Ground.chain }, { on := 13, ground := Go.Ground.guard }], guard := some (13, true) }) rfl (fun K hK => ?_) AllReadyH.nil
      go_simp
      (with_reducible refine (HR3.out _).mono ?_); rintro e v3 ⟨rfl, c3⟩; have b3 := HST.out _ _ b2 c3
      try go_wp2_with fail
      refine hK.out _ _ (HK.out _ b3) (fun hHeld3 => ?_)
      clear hK K hHeld2
      try simp only [Act.put, List.setIfInBounds_toArray, List.set_cons_zero, List.set_cons_succ]
      refine wpAnyH_take (i := 16) (oi := { dst := some 99, op := Go.Op.binOp Go.BinOp.geq 3 (Go.Operand.tmp 98) (Go.Operand.const (Go.Value.int Go.IntKind.i64 199)) 3, type := 4, pos := "law.go:53", after := #[{ on := 15, ground := Go.Ground.data }, { on := 13, ground := Go.Ground.guard }], guard := some (13, true) }) (v := ?v16) rfl (by kernel_rfl) (by kernel_rfl) (by kernel_rfl) (fun _ _ _ h => h) (Or.inl ⟨by rfl, ?y16⟩) (by assumption) ?r16
      case y16 => (intro w hSw; (try dsimp only at hSw); go_simp; try with_reducible rfl)
      try simp only [Act.put, List.setIfInBounds_toArray, List.set_cons_zero, List.set_cons_succ]
      refine wpAnyH_take (i := 17) (oi := { dst := some 100, op := Go.Op.pick (Go.Operand.tmp 96) (Go.Operand.tmp 99) (Go.Operand.const (Go.Value.bool false)), type := 4, pos := "law.go:53", after := #[{ on := 13, ground := Go.Ground.data }, { on := 16, ground := Go.Ground.data }, { on := 4, ground := Go.Ground.guard }], guard := some (4, false) }) (v := ?v17) rfl (by kernel_rfl) (by kernel_rfl) (by kernel_rfl) (fun _ _ _ h => h) (Or.inl ⟨by rfl, ?y17⟩) (by assumption) ?r17
      case y17 => (intro w hSw; (try dsimp only at hSw); go_simp; try with_reducible rfl)
      try simp only [Act.put, List.setIfInBounds_toArray, List.set_cons_zero, List.set_cons_succ]
      refine wpAnyH_take (i := 18) (oi := { dst := some 101, op := Go.Op.move (Go.Operand.tmp 100), type := 4, pos := "law.go:53", after := #[{ on := 17, ground := Go.Ground.data }, { on := 15, ground := Go.Ground.chain }, { on := 4, ground := Go.Ground.guard }], guard := some (4, false) }) (v := ?v18) rfl (by kernel_rfl) (by kernel_rfl) (by kernel_rfl) (fun _ _ _ h => h) (Or.inl ⟨by rfl, ?y18⟩) (by assumption) ?r18
      case y18 => (intro w hSw; (try dsimp only at hSw); go_simp; try with_reducible rfl)
      try simp only [Act.put, List.setIfInBounds_toArray, List.set_cons_zero, List.set_cons_succ]
      refine wpAnyH_take (i := 19) (oi := { dst := some 102, op := Go.Op.load 23 (Go.Operand.tmp 9), type := 23, pos := "law.go:53", after := #[{ on := 18, ground := Go.Ground.guard }], guard := some (18, true) }) (v := ?v19) rfl (by kernel_rfl) (by kernel_rfl) (by kernel_rfl) (fun _ _ _ h => h) (Or.inl ⟨by rfl, ?y19⟩) (by assumption) ?r19
      case y19 => (intro w hSw; (try dsimp only at hSw); go_simp; try with_reducible rfl)
      try simp only [Act.put, List.setIfInBounds_toArray, List.set_cons_zero, List.set_cons_succ]
      refine wpAnyH_ready (rs := [20]) (by kernel_rfl) (by simp) ?_
      refine AllReadyH.cons (o := { dst := some 103, op := Go.Op.call { callee := Go.Callee.value (Go.Operand.func 17), args := #[Go.Operand.tmp 102], argTypes := #[23] }, type := 3, pos := "law.go:53", after := #[{ on := 19, ground := Go.Ground.data }, { on := 18, ground := Go.Ground.chain }, { on := 18, ground := Go.Ground.guard }], guard := some (18, true) }) rfl (fun K hK => ?_) AllReadyH.nil
      go_simp
      (with_reducible refine (HR3.out _).mono ?_); rintro e v4 ⟨rfl, c4⟩; have b4 := HST.out _ _ b3 c4
      try go_wp2_with fail
      refine hK.out _ _ (HK.out _ b4) (fun hHeld4 => ?_)
      clear hK K hHeld3
      try simp only [Act.put, List.setIfInBounds_toArray, List.set_cons_zero, List.set_cons_succ]
      refine wpAnyH_take (i := 21) (oi := { dst := some 104, op := Go.Op.binOp Go.BinOp.leq 3 (Go.Operand.tmp 103) (Go.Operand.const (Go.Value.int Go.IntKind.i64 1200)) 3, type := 4, pos := "law.go:53", after := #[{ on := 20, ground := Go.Ground.data }, { on := 18, ground := Go.Ground.guard }], guard := some (18, true) }) (v := ?v21) rfl (by kernel_rfl) (by kernel_rfl) (by kernel_rfl) (fun _ _ _ h => h) (Or.inl ⟨by rfl, ?y21⟩) (by assumption) ?r21
      case y21 => (intro w hSw; (try dsimp only at hSw); go_simp; try with_reducible rfl)
      try simp only [Act.put, List.setIfInBounds_toArray, List.set_cons_zero, List.set_cons_succ]
      refine wpAnyH_take (i := 22) (oi := { dst := some 105, op := Go.Op.pick (Go.Operand.tmp 101) (Go.Operand.tmp 104) (Go.Operand.const (Go.Value.bool false)), type := 4, pos := "law.go:53", after := #[{ on := 18, ground := Go.Ground.data }, { on := 21, ground := Go.Ground.data }, { on := 4, ground := Go.Ground.guard }], guard := some (4, false) }) (v := ?v22) rfl (by kernel_rfl) (by kernel_rfl) (by kernel_rfl) (fun _ _ _ h => h) (Or.inl ⟨by rfl, ?y22⟩) (by assumption) ?r22
      case y22 => (intro w hSw; (try dsimp only at hSw); go_simp; try with_reducible rfl)
      try simp only [Act.put, List.setIfInBounds_toArray, List.set_cons_zero, List.set_cons_succ]
      refine wpAnyH_take (i := 23) (oi := { dst := some 106, op := Go.Op.move (Go.Operand.tmp 105), type := 4, pos := "law.go:53", after := #[{ on := 22, ground := Go.Ground.data }, { on := 20, ground := Go.Ground.chain }, { on := 4, ground := Go.Ground.guard }], guard := some (4, false) }) (v := ?v23) rfl (by kernel_rfl) (by kernel_rfl) (by kernel_rfl) (fun _ _ _ h => h) (Or.inl ⟨by rfl, ?y23⟩) (by assumption) ?r23
      case y23 => (intro w hSw; (try dsimp only at hSw); go_simp; try with_reducible rfl)
      try simp only [Act.put, List.setIfInBounds_toArray, List.set_cons_zero, List.set_cons_succ]
      refine wpAnyH_take (i := 24) (oi := { dst := some 107, op := Go.Op.load 23 (Go.Operand.tmp 9), type := 23, pos := "law.go:53", after := #[{ on := 23, ground := Go.Ground.guard }], guard := some (23, true) }) (v := ?v24) rfl (by kernel_rfl) (by kernel_rfl) (by kernel_rfl) (fun _ _ _ h => h) (Or.inl ⟨by rfl, ?y24⟩) (by assumption) ?r24
      case y24 => (intro w hSw; (try dsimp only at hSw); go_simp; try with_reducible rfl)
      try simp only [Act.put, List.setIfInBounds_toArray, List.set_cons_zero, List.set_cons_succ]
      refine wpAnyH_take (i := 26) (oi := { dst := some 109, op := Go.Op.fieldAddr 23 (Go.Operand.tmp 9) 0, type := 0, pos := "law.go:53", after := #[{ on := 23, ground := Go.Ground.guard }], guard := some (23, true) }) (v := ?v26) rfl (by kernel_rfl) (by kernel_rfl) (by kernel_rfl) (fun _ _ _ h => h) (Or.inl ⟨by rfl, ?y26⟩) (by assumption) ?r26
      case y26 => (intro w hSw; (try dsimp only at hSw); go_simp; try with_reducible rfl)
      try simp only [Act.put, List.setIfInBounds_toArray, List.set_cons_zero, List.set_cons_succ]
      refine wpAnyH_take (i := 27) (oi := { dst := some 110, op := Go.Op.load 3 (Go.Operand.tmp 109), type := 3, pos := "law.go:53", after := #[{ on := 26, ground := Go.Ground.data }, { on := 23, ground := Go.Ground.guard }], guard := some (23, true) }) (v := ?v27) rfl (by kernel_rfl) (by kernel_rfl) (by kernel_rfl) (fun _ _ _ h => h) (Or.inl ⟨by rfl, ?y27⟩) (by assumption) ?r27
      case y27 => (intro w hSw; (try dsimp only at hSw); go_simp; try with_reducible rfl)
      try simp only [Act.put, List.setIfInBounds_toArray, List.set_cons_zero, List.set_cons_succ]
      refine wpAnyH_ready (rs := [25]) (by kernel_rfl) (by simp) ?_
      refine AllReadyH.cons (o := { dst := some 108, op := Go.Op.call { callee := Go.Callee.value (Go.Operand.func 15), args := #[Go.Operand.tmp 107], argTypes := #[23] }, type := 3, pos := "law.go:53", after := #[{ on := 24, ground := Go.Ground.data }, { on := 23, ground := Go.Ground.chain }, { on := 23, ground := Go.Ground.guard }], guard := some (23, true) }) rfl (fun K hK => ?_) AllReadyH.nil
      go_simp
      (with_reducible refine (HL3.out _).mono ?_); rintro e v5 ⟨rfl, c5⟩; have b5 := HST.out _ _ b4 c5
      try go_wp2_with fail
      refine hK.out _ _ (HK.out _ b5) (fun hHeld5 => ?_)
      clear hK K hHeld4
      try simp only [Act.put, List.setIfInBounds_toArray, List.set_cons_zero, List.set_cons_succ]
      refine wpAnyH_take (i := 28) (oi := { dst := some 111, op := Go.Op.binOp Go.BinOp.lss 3 (Go.Operand.tmp 108) (Go.Operand.tmp 110) 3, type := 4, pos := "law.go:53", after := #[{ on := 25, ground := Go.Ground.data }, { on := 27, ground := Go.Ground.data }, { on := 23, ground := Go.Ground.guard }], guard := some (23, true) }) (v := ?v28) rfl (by kernel_rfl) (by kernel_rfl) (by kernel_rfl) (fun _ _ _ h => h) (Or.inl ⟨by rfl, ?y28⟩) (by assumption) ?r28
      case y28 => (intro w hSw; (try dsimp only at hSw); go_simp; try with_reducible rfl)
      try simp only [Act.put, List.setIfInBounds_toArray, List.set_cons_zero, List.set_cons_succ]
      refine wpAnyH_take (i := 29) (oi := { dst := some 112, op := Go.Op.move (Go.Operand.tmp 111), type := 4, pos := "law.go:53", after := #[{ on := 28, ground := Go.Ground.data }, { on := 25, ground := Go.Ground.chain }, { on := 23, ground := Go.Ground.guard }], guard := some (23, true) }) (v := ?v29) rfl (by kernel_rfl) (by kernel_rfl) (by kernel_rfl) (fun _ _ _ h => h) (Or.inl ⟨by rfl, ?y29⟩) (by assumption) ?r29
      case y29 => (intro w hSw; (try dsimp only at hSw); go_simp; try with_reducible rfl)
      try simp only [Act.put, List.setIfInBounds_toArray, List.set_cons_zero, List.set_cons_succ]
      refine wpAnyH_take (i := 30) (oi := { dst := some 113, op := Go.Op.load 23 (Go.Operand.tmp 9), type := 23, pos := "law.go:53", after := #[{ on := 29, ground := Go.Ground.guard }], guard := some (29, false) }) (v := undef) rfl (by kernel_rfl) (by kernel_rfl) (by kernel_rfl) (fun _ _ _ h => h) (Or.inr ⟨by rfl, rfl⟩) (by assumption) ?_
      try simp only [Act.put, List.setIfInBounds_toArray, List.set_cons_zero, List.set_cons_succ]
      refine wpAnyH_take (i := 32) (oi := { dst := some 115, op := Go.Op.fieldAddr 23 (Go.Operand.tmp 9) 0, type := 0, pos := "law.go:53", after := #[{ on := 29, ground := Go.Ground.guard }], guard := some (29, false) }) (v := undef) rfl (by kernel_rfl) (by kernel_rfl) (by kernel_rfl) (fun _ _ _ h => h) (Or.inr ⟨by rfl, rfl⟩) (by assumption) ?_
      try simp only [Act.put, List.setIfInBounds_toArray, List.set_cons_zero, List.set_cons_succ]
      refine wpAnyH_take (i := 33) (oi := { dst := some 116, op := Go.Op.load 3 (Go.Operand.tmp 115), type := 3, pos := "law.go:53", after := #[{ on := 32, ground := Go.Ground.data }, { on := 29, ground := Go.Ground.guard }], guard := some (29, false) }) (v := undef) rfl (by kernel_rfl) (by kernel_rfl) (by kernel_rfl) (fun _ _ _ h => h) (Or.inr ⟨by rfl, rfl⟩) (by assumption) ?_
      try simp only [Act.put, List.setIfInBounds_toArray, List.set_cons_zero, List.set_cons_succ]
      refine wpAnyH_take (i := 31) (oi := { dst := some 114, op := Go.Op.call { callee := Go.Callee.value (Go.Operand.func 17), args := #[Go.Operand.tmp 113], argTypes := #[23] }, type := 3, pos := "law.go:53", after := #[{ on := 30, ground := Go.Ground.data }, { on := 29, ground := Go.Ground.chain }, { on := 29, ground := Go.Ground.guard }], guard := some (29, false) }) (v := undef) rfl (by kernel_rfl) (by kernel_rfl) (by kernel_rfl) (fun _ _ _ h => h) (Or.inr ⟨by rfl, rfl⟩) (by assumption) ?_
      try simp only [Act.put, List.setIfInBounds_toArray, List.set_cons_zero, List.set_cons_succ]
      refine wpAnyH_take (i := 34) (oi := { dst := some 117, op := Go.Op.binOp Go.BinOp.lss 3 (Go.Operand.tmp 114) (Go.Operand.tmp 116) 3, type := 4, pos := "law.go:53", after := #[{ on := 31, ground := Go.Ground.data }, { on := 33, ground := Go.Ground.data }, { on := 29, ground := Go.Ground.guard }], guard := some (29, false) }) (v := undef) rfl (by kernel_rfl) (by kernel_rfl) (by kernel_rfl) (fun _ _ _ h => h) (Or.inr ⟨by rfl, rfl⟩) (by assumption) ?_
      try simp only [Act.put, List.setIfInBounds_toArray, List.set_cons_zero, List.set_cons_succ]
      refine wpAnyH_take (i := 35) (oi := { dst := some 118, op := Go.Op.pick (Go.Operand.tmp 112) (Go.Operand.const (Go.Value.bool true)) (Go.Operand.tmp 117), type := 4, pos := "law.go:53", after := #[{ on := 29, ground := Go.Ground.data }, { on := 34, ground := Go.Ground.data }, { on := 23, ground := Go.Ground.guard }], guard := some (23, true) }) (v := ?v35) rfl (by kernel_rfl) (by kernel_rfl) (by kernel_rfl) (fun _ _ _ h => h) (Or.inl ⟨by rfl, ?y35⟩) (by assumption) ?r35
      case y35 => (intro w hSw; (try dsimp only at hSw); go_simp; try with_reducible rfl)
      try simp only [Act.put, List.setIfInBounds_toArray, List.set_cons_zero, List.set_cons_succ]
      refine wpAnyH_take (i := 36) (oi := { dst := some 119, op := Go.Op.pick (Go.Operand.tmp 106) (Go.Operand.tmp 118) (Go.Operand.const (Go.Value.bool false)), type := 4, pos := "law.go:53", after := #[{ on := 23, ground := Go.Ground.data }, { on := 35, ground := Go.Ground.data }, { on := 4, ground := Go.Ground.guard }], guard := some (4, false) }) (v := ?v36) rfl (by kernel_rfl) (by kernel_rfl) (by kernel_rfl) (fun _ _ _ h => h) (Or.inl ⟨by rfl, ?y36⟩) (by assumption) ?r36
      case y36 => (intro w hSw; (try dsimp only at hSw); go_simp; try with_reducible rfl)
      try simp only [Act.put, List.setIfInBounds_toArray, List.set_cons_zero, List.set_cons_succ]
      refine wpAnyH_take (i := 37) (oi := { dst := some 120, op := Go.Op.pick (Go.Operand.tmp 87) (Go.Operand.const (Go.Value.bool true)) (Go.Operand.tmp 119), type := 4, pos := "law.go:53", after := #[{ on := 4, ground := Go.Ground.data }, { on := 36, ground := Go.Ground.data }, { on := 1, ground := Go.Ground.guard }], guard := some (1, true) }) (v := ?v37) rfl (by kernel_rfl) (by kernel_rfl) (by kernel_rfl) (fun _ _ _ h => h) (Or.inl ⟨by rfl, ?y37⟩) (by assumption) ?r37
      case y37 => (intro w hSw; (try dsimp only at hSw); go_simp; try with_reducible rfl)
      try simp only [Act.put, List.setIfInBounds_toArray, List.set_cons_zero, List.set_cons_succ]
      refine wpAnyH_take (i := 38) (oi := { dst := some 121, op := Go.Op.pick (Go.Operand.tmp 84) (Go.Operand.tmp 120) (Go.Operand.const (Go.Value.bool false)), type := 4, pos := "law.go:53", after := #[{ on := 1, ground := Go.Ground.data }, { on := 37, ground := Go.Ground.data }], guard := none }) (v := ?v38) rfl (by kernel_rfl) (by kernel_rfl) (by kernel_rfl) (fun _ _ _ h => h) (Or.inl ⟨by rfl, ?y38⟩) (by assumption) ?r38
      case y38 => (intro w hSw; (try dsimp only at hSw); go_simp; try with_reducible rfl)
      try simp only [Act.put, List.setIfInBounds_toArray, List.set_cons_zero, List.set_cons_succ]
      refine wpAnyH_take (i := 39) (oi := { dst := some 2, op := Go.Op.assign (Go.Operand.tmp 121), type := 4, pos := "law.go:53", after := #[{ on := 38, ground := Go.Ground.data }, { on := 31, ground := Go.Ground.chain }, { on := 0, ground := Go.Ground.phase }, { on := 1, ground := Go.Ground.phase }, { on := 2, ground := Go.Ground.phase }, { on := 3, ground := Go.Ground.phase }, { on := 4, ground := Go.Ground.phase }, { on := 5, ground := Go.Ground.phase }, { on := 6, ground := Go.Ground.phase }, { on := 7, ground := Go.Ground.phase }, { on := 8, ground := Go.Ground.phase }, { on := 9, ground := Go.Ground.phase }, { on := 10, ground := Go.Ground.phase }, { on := 11, ground := Go.Ground.phase }, { on := 12, ground := Go.Ground.phase }, { on := 13, ground := Go.Ground.phase }, { on := 14, ground := Go.Ground.phase }, { on := 15, ground := Go.Ground.phase }, { on := 16, ground := Go.Ground.phase }, { on := 17, ground := Go.Ground.phase }, { on := 18, ground := Go.Ground.phase }, { on := 19, ground := Go.Ground.phase }, { on := 20, ground := Go.Ground.phase }, { on := 21, ground := Go.Ground.phase }, { on := 22, ground := Go.Ground.phase }, { on := 23, ground := Go.Ground.phase }, { on := 24, ground := Go.Ground.phase }, { on := 25, ground := Go.Ground.phase }, { on := 26, ground := Go.Ground.phase }, { on := 27, ground := Go.Ground.phase }, { on := 28, ground := Go.Ground.phase }, { on := 29, ground := Go.Ground.phase }, { on := 30, ground := Go.Ground.phase }, { on := 31, ground := Go.Ground.phase }, { on := 32, ground := Go.Ground.phase }, { on := 33, ground := Go.Ground.phase }, { on := 34, ground := Go.Ground.phase }, { on := 35, ground := Go.Ground.phase }, { on := 36, ground := Go.Ground.phase }, { on := 37, ground := Go.Ground.phase }, { on := 38, ground := Go.Ground.phase }], guard := none }) (v := ?v39) rfl (by kernel_rfl) (by kernel_rfl) (by kernel_rfl) (fun _ _ _ h => h) (Or.inl ⟨by rfl, ?y39⟩) (by assumption) ?r39
      case y39 => (intro w hSw; (try dsimp only at hSw); go_simp; try with_reducible rfl)
      try simp only [Act.put, List.setIfInBounds_toArray, List.set_cons_zero, List.set_cons_succ]
      refine wpAnyH_done (by kernel_rfl) ?_ _
      refine NoPanic.normal ?_
      all_goals
        go_wp2_with fail
        go_ret
        exact ⟨by first | rfl | exact ret_bool (decide_eq_true HLT.out), by first | exact hbw0.trans (b6.mono hbw0.size) | exact hbw0.trans (b5.mono hbw0.size)⟩

set_option maxRecDepth 100000 in
set_option maxHeartbeats 8000000 in
theorem walk_bounds_bothr (i : Int) (w : World) (hi : In64 i) (J : Nat) (hJ : J < 28) (eJ : (wrap64 (i.tmod 28 + 28)).tmod 28 = (J : Int)) (nm : ByteArray) (hnm : namesL[J]? = some nm) (r : R) (y : Int) (hL2 : leftOf r.k r.p = 0) (hR2 : rightOf r.k r.p = y) (hy1 : 199 ≤ y) (hy2 : y ≤ 1200) (q : R) (c d : Int) (hL3 : leftOf q.k q.p = c) (hR3 : rightOf q.k q.p = d) (hc1 : 199 ≤ c) (hc2 : c ≤ 1200) (hd1 : 199 ≤ d) (hd2 : d ≤ 1200) (hge : q.p ≤ c) (hlt : d < q.p) (h2 : findR tabR nm 2 = some r) (h3 : findR tabR nm 3 = some q) :
    Calls Try.prog 5 #[.int .i64 i] w fun e w' => e = .returned (.bool true) ∧ Below w.heap.size w w' := by
  unfold In64 at hi
  obtain ⟨hi1, hi2⟩ := hi
  have HJ := Lib.hid eJ
  have HM := Lib.hid hnm
  have H2 := Lib.hid (fun W => by have h := ops_Prefix nm W; rw [h2] at h; exact h)
  have H3 := Lib.hid (fun W => by have h := ops_Infix nm W; rw [h3] at h; exact h)
  unfold opAns at H2 H3
  have HL2 := Lib.hid (fun W => by have h := ops_Left r.k r.p W; rw [hL2] at h; exact h)
  have HR2 := Lib.hid (fun W => by have h := ops_Right r.k r.p W; rw [hR2] at h; exact h)
  have HL3 := Lib.hid (fun W => by have h := ops_Left q.k q.p W; rw [hL3] at h; exact h)
  have HR3 := Lib.hid (fun W => by have h := ops_Right q.k q.p W; rw [hR3] at h; exact h)
  have HLT := Lib.hid hlt
  have HE9 : Hid (decide (c < q.p) = false) := Lib.hid (decide_eq_false (by omega))
  have HE8 : Hid (decide (d < q.p) = true) := Lib.hid (decide_eq_true hlt)
  clear hlt hge
  clear eJ hnm h2 h3 hL2 hR2 hL3 hR3
  go_enter Try.func5, Try.ntmps5
  go_wp2_with fail
  refine (ops_live _).mono ?_; rintro e w1 ⟨rfl, hb1⟩
  go_wp2_with fail
  refine (ops_Names _).mono ?_; rintro e w2 ⟨v, rfl, hown, hb2⟩
  have hbw2 := hb1.trans (hb2.mono hb1.size)
  obtain ⟨ad, cap, rfl, hlc, hcm, hcell⟩ := hown.view
  obtain ⟨g, rfl, cJ0⟩ := hcell J (by rw [names_len]; exact hJ)
  have cJ : w2.cell? ⟨g, J, none⟩ = some (.string nm) := by
    rw [cJ0]; have h9 := HM.out; rw [List.getElem?_eq_getElem (by rw [names_len]; exact hJ)] at h9; rw [Option.some.inj h9]
  have HC : Hid (∀ k, k < 28 → ∃ x, w2.cell? ⟨g, k, none⟩ = some (.string x) ∧ (k ≠ J → (x.toList == nm.toList) = false)) := Lib.hid (fun k hk => by
    obtain ⟨g', e', c⟩ := hcell k (by rw [names_len]; exact hk)
    obtain rfl : g = g' := by simpa using e'
    refine ⟨_, c, fun hne => ?_⟩
    have h9 := HM.out
    rw [List.getElem?_eq_getElem (by rw [names_len]; exact hJ)] at h9
    rw [← Option.some.inj h9]
    exact names_apart _ _ hne)
  rw [names_len] at hlc ⊢
  clear hb1 hb2 hown hcell cJ0
  unfold maxLen at hcm
  go_wp2_with fail
  rw [HJ.out]
  generalize wrap64 (i.tmod 28 + 28) = zz at *
  clear HJ
  have hj0 : (0 : Int) ≤ (J : Int) := by omega
  have hj1 : (J : Int) < 28 := by omega
  go_loop [28] (fun iv => ∃ k : Nat, k ≤ 28 ∧ iv = .int .i64 k) (fun iv => 28 - (intOf iv).toNat)
  case atStart => exact ⟨0, Nat.zero_le _, rfl⟩
  case round =>
    obtain ⟨k, hk, rfl⟩ := hrel
    by_cases hlt9 : k < 28
    · obtain ⟨x, c0, hx⟩ := HC.out k hlt9
      have hk0 : (0 : Int) ≤ (k : Int) := by omega
      have hk1 : (k : Int) < 28 := by omega
      by_cases hkj : k = J
      · have e1 : ((k : Int) == (J : Int)) = true := by simp; omega
        have e2 : ((k : Int) != (J : Int)) = false := by simp; omega
        have HX := Lib.hid hx
        have HKJ := Lib.hid hkj
        clear hkj hx
        go_wp2_with fail
        go_round
        case rel => exact ⟨k + 1, by omega, by go_num⟩
        case measure => simp [intOf]; omega
      · have e1 : ((k : Int) == (J : Int)) = false := by simp; omega
        have e2 : ((k : Int) != (J : Int)) = true := by simp; omega
        have e3 := hx hkj
        clear hx
        go_wp2_with fail
        go_round
        case rel => exact ⟨k + 1, by omega, by go_num⟩
        case measure => simp [intOf]; omega
    · have hk28 : k = 28 := by omega
      subst hk28
      clear HC hlt9 hk
      go_wp2_with fail
      refine (H2.out _).mono ?_; rintro e w3 ⟨rfl, hb3⟩
      have hbw3 := hbw2.trans (hb3.mono hbw2.size)
      have cJ3 := (hb3.cell (p := ⟨g, J, none⟩) (World.block_lt_of_cell? w2 _ cJ)).trans cJ
      have hgl := World.block_lt_of_cell? w3 _ cJ3
      clear hb3 cJ hbw2
      go_wp2_with fail
      refine (H3.out _).mono ?_; rintro e w4 ⟨rfl, hb4⟩
      have hbw4 := (hbw3.alloc hbw3.size _).trans (hb4.mono (by rw [World.size_alloc]; have := hbw3.size; omega))
      have A4 := (OpAt.new w3 r.p r.k _).on hb4
      have hl4 := World.block_lt_of_cell? w4 _ A4.1
      have hb0 := hbw4.alloc hbw4.size (.cells #[.int .i64 q.p, .string q.k] 23)
      have B0 := OpAt.new w4 q.p q.k 23
      have A0 := A4.past (.cells #[.int .i64 q.p, .string q.k] 23)
      clear hb4 A4 hbw4 hbw3 cJ3
      obtain ⟨a0, a1⟩ := A0
      go_wp2_with fail
      refine (HL2.out _).mono ?_; rintro e w5 ⟨rfl, hb5⟩
      have hbw5 := hb0.trans (hb5.mono hb0.size)
      obtain ⟨a5, a6⟩ := (show OpAt _ w3.heap.size r.p r.k from ⟨a0, a1⟩).on hb5
      have B5 := B0.on hb5
      clear hb0 hb5 a0 a1 B0
      go_wp2_with fail
      refine (HR2.out _).mono ?_; rintro e w6 ⟨rfl, hb6⟩
      have hbw6 := hbw5.trans (hb6.mono hbw5.size)
      obtain ⟨a7, a8⟩ := (show OpAt _ w3.heap.size r.p r.k from ⟨a5, a6⟩).on hb6
      have B6 := B5.on hb6
      clear hbw5 hb6 a5 a6 B5
      go_wp2_with fail
      refine (HR2.out _).mono ?_; rintro e w0 ⟨rfl, hb7⟩
      have hbw0 := hbw6.trans (hb7.mono hbw6.size)
      have BZ := B6.on hb7
      clear hbw6 hb7 a7 a8 B6
      go_wp2_with fail
      have HK : Hid (∀ W, Below w0.heap.size w0 W → Below w0.heap.size w0 W ∧ W.cell? ⟨w4.heap.size, 0, none⟩ = some (.int .i64 q.p) ∧ W.cell? ⟨w4.heap.size, 1, none⟩ = some (.string q.k)) := Lib.hid (fun W hb => ⟨hb, (BZ.on hb).1, (BZ.on hb).2⟩)
      have HST : Hid (∀ W W', Below w0.heap.size w0 W → Below W.heap.size W W' → Below w0.heap.size w0 W') := Lib.hid (fun W W' h h' => h.trans (h'.mono h.size))
      have hD0 : Below w0.heap.size w0 w0.drew := (Below.refl _ w0).drew
      have hK0 := HK.out _ (Below.refl _ w0)
      clear BZ
      have e9 := HE9.out
      have e8 := HE8.out
      go_region_held3 (fun W => Below w0.heap.size w0 W ∧ W.cell? ⟨w4.heap.size, 0, none⟩ = some (.int .i64 q.p) ∧ W.cell? ⟨w4.heap.size, 1, none⟩ = some (.string q.k))
        (first | exact HK.out _ b6 | exact HK.out _ b5 | exact HK.out _ b4 | exact HK.out _ b3 | exact HK.out _ b2 | exact HK.out _ b1 | exact HK.out _ hD0)
        (first
          | (go_at_call 17; have _h := c5; (with_reducible refine (HR3.out _).mono ?_); rintro e v6 ⟨rfl, c6⟩; have b6 := HST.out _ _ b5 c6)
          | (go_at_call 15; have _h := c4; (with_reducible refine (HL3.out _).mono ?_); rintro e v5 ⟨rfl, c5⟩; have b5 := HST.out _ _ b4 c5)
          | (go_at_call 17; have _h := c3; (with_reducible refine (HR3.out _).mono ?_); rintro e v4 ⟨rfl, c4⟩; have b4 := HST.out _ _ b3 c4)
          | (go_at_call 17; have _h := c2; (with_reducible refine (HR3.out _).mono ?_); rintro e v3 ⟨rfl, c3⟩; have b3 := HST.out _ _ b2 c3)
          | (go_at_call 15; have _h := c1; (with_reducible refine (HL3.out _).mono ?_); rintro e v2 ⟨rfl, c2⟩; have b2 := HST.out _ _ b1 c2)
          | (go_at_call 15; (with_reducible refine (HL3.out _).mono ?_); rintro e v1 ⟨rfl, c1⟩; have b1 := HST.out _ _ hD0 c1))
      all_goals
        go_wp2_with fail
        go_ret
        exact ⟨by first | rfl | exact ret_bool (decide_eq_true HLT.out), by first | exact hbw0.trans (b6.mono hbw0.size) | exact hbw0.trans (b5.mono hbw0.size)⟩

theorem walk_OpsBounds (i : Int) (w : World) (hi : In64 i) :
    Calls Try.prog 5 #[.int .i64 i] w fun e w' => e = .returned (.bool true) ∧ Below w.heap.size w w' := by
  obtain ⟨J, hJ, eJ⟩ := turned i
  have hJ' : J < namesL.length := by rw [names_len]; exact hJ
  have hnm : namesL[J]? = some (namesL[J]'hJ') := List.getElem?_eq_getElem hJ'
  obtain ⟨k1, k2, k3⟩ := name_ok (List.getElem_mem hJ')
  generalize namesL[J]'hJ' = nm at *
  cases h2 : findR tabR nm 2 with
  | none =>
    cases h3 : findR tabR nm 3 with
    | none => exact absurd ⟨h2, h3⟩ k1
    | some q =>
      obtain ⟨a, b, c, d, e⟩ := k3 q h3
      by_cases hlt : leftOf q.k q.p < q.p
      · exact walk_bounds_lefts i w hi J hJ eJ nm hnm q _ _ rfl rfl a b c d hlt h2 h3
      · exact walk_bounds_rights i w hi J hJ eJ nm hnm q _ _ rfl rfl a b c d (by omega) (by omega) h2 h3
  | some r =>
    obtain ⟨x, y, z⟩ := k2 r h2
    cases h3 : findR tabR nm 3 with
    | none => exact walk_bounds_ahead i w hi J hJ eJ nm hnm r _ x rfl y z h2 h3
    | some q =>
      obtain ⟨a, b, c, d, e⟩ := k3 q h3
      by_cases hlt : leftOf q.k q.p < q.p
      · exact walk_bounds_bothl i w hi J hJ eJ nm hnm r _ x rfl y z q _ _ rfl rfl a b c d hlt h2 h3
      · exact walk_bounds_bothr i w hi J hJ eJ nm hnm r _ x rfl y z q _ _ rfl rfl a b c d (by omega) (by omega) h2 h3
end Go.Proofs.Ytfkkembjlahjfaa
