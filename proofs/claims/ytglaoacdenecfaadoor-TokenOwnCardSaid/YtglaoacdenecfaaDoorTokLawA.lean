/-
  The walk of the law TokenOwn.
-/
import Derived.Test.YtglaoacdenecfaaDoorTokH
import Derived.RegionTactic
import Derived.BigRegion
import Derived.Deep.RegionHeld3
namespace Go.Proofs.YtglaoacdenecfaaDoor
open Go.RowKit

/-- A token's own text in the source, as the walk asks for it. -/
theorem own_facts {s : ByteArray} {x : Tok} (h : Own s.data.toList 0 x) (h2 : x.kind ≠ 2) (h5 : x.kind ≠ 5) (h9 : x.kind ≠ 9) :
    (⟨x.text.toArray⟩ : ByteArray).toList.isEmpty = false ∧ x.pos + (⟨x.text.toArray⟩ : ByteArray).size ≤ s.size ∧ ((s.extract x.pos (x.pos + (⟨x.text.toArray⟩ : ByteArray).size)).toList == (⟨x.text.toArray⟩ : ByteArray).toList) = true := by
  rcases h with h | h | h | ⟨h1, h3, h4⟩
  · exact absurd h h2
  · exact absurd h h5
  · exact absurd h h9
  rw [size_mk]
  rw [size_listT] at h3
  rw [Nat.sub_zero] at h4
  refine ⟨?_, by omega, ?_⟩
  · rw [ByteArray.toList_eq, List.isEmpty_eq_false_iff]; simpa using h1
  · rw [ByteArray.toList_eq, ByteArray.toList_eq, Lib.extract_eq, beq_iff_eq]
    simp only [Nat.add_sub_cancel_left]
    exact h4

set_option maxRecDepth 100000 in
set_option maxHeartbeats 4000000 in
theorem walk_TokenOwn (s : ByteArray) (w : World) (hs : s.size ≤ maxLen) (hT : TabsT w) :
    Calls Tryd.prog 7 #[.string s] w fun e w' => e = .returned (.bool true) ∧ Below w.heap.size w w' := by
  have HT := Lib.hid hT
  have HL := Lib.hid (tok_live w hT)
  unfold maxLen at hs
  clear hT
  have hways : (4096 < s.data.toList.length) ∨ (s.data.toList.length ≤ 4096 ∧ ((∃ o, cutL s.data.toList 0 false = .bad o) ∨ ∃ T, cutL s.data.toList 0 false = .good T)) := by
    by_cases h : 4096 < s.data.toList.length
    · exact .inl h
    · refine .inr ⟨by omega, ?_⟩
      cases hc : cutL s.data.toList 0 false with
      | bad o => exact .inl ⟨o, rfl⟩
      | good T => exact .inr ⟨T, rfl⟩
  rcases hways with hl | ⟨hl, ⟨o, hc⟩ | ⟨T, hc⟩⟩
  · have HC := Lib.hid (fun W h => cut_long hl s rfl W h)
    clear hl
    go_enter Tryd.func7, Tryd.ntmps7
    go_wp2_with fail
    refine HL.out.mono ?_; rintro e w1 ⟨rfl, hb1⟩
    go_wp2_with fail
    refine (HC.out _ (HT.out.on hb1)).mono ?_; rintro e w2 ⟨rfl, hb2⟩
    have hb := hb1.trans (hb2.mono hb1.size)
    clear hb1 hb2
    go_wp2_with fail
    go_ret
    exact ⟨rfl, hb⟩
  · have HC := Lib.hid (fun W h => cut_refused hl hc s rfl W h)
    have ho := (cut_bad _ _ _ _ hc).2
    rw [size_listT] at ho hl
    have ho1 : (0 : Int) ≤ (o : Int) := by omega
    have ho2 : (o : Int) ≤ (s.size : Int) := by omega
    clear hc ho
    go_enter Tryd.func7, Tryd.ntmps7
    go_wp2_with fail
    refine HL.out.mono ?_; rintro e w1 ⟨rfl, hb1⟩
    go_wp2_with fail
    refine (HC.out _ (HT.out.on hb1)).mono ?_; rintro e w2 ⟨rfl, hb2⟩
    have hb := hb1.trans (hb2.mono hb1.size)
    clear hb1 hb2
    go_wp2_with fail
    go_ret
    exact ⟨rfl, hb⟩
  · have HC := Lib.hid (fun W h => cut_good hl hc s rfl W h)
    have hmany := cut_many hc
    have HO := Lib.hid (cut_own hc)
    rw [size_listT] at hmany hl
    clear hc
    go_enter Tryd.func7, Tryd.ntmps7
    go_wp2_with fail
    refine HL.out.mono ?_; rintro e w1 ⟨rfl, hb1⟩
    go_wp2_with fail
    refine (HC.out _ (HT.out.on hb1)).mono ?_; rintro e w2 ⟨v, rfl, hown, hb2⟩
    have hb := hb1.trans (hb2.mono hb1.size)
    obtain ⟨ad, cap, rfl, hlc, hcm, hcell⟩ := hown.view
    have HCELL := Lib.hid hcell
    clear hb1 hb2 hown hcell
    go_wp2_with fail
    go_loopw [36] (fun iv wr => ∃ k : Nat, k ≤ T.length ∧ iv = .int .i64 k ∧ Below w2.heap.size w2 wr) (fun iv _ => T.length - (intOf iv).toNat)
    case atStart => exact ⟨0, Nat.zero_le _, rfl, Below.refl _ _⟩
    case round =>
      obtain ⟨k, hk, rfl, hbw⟩ := hrel
      by_cases hlt : k < T.length
      · obtain ⟨g, rfl, _, hat⟩ := HCELL.out k hlt
        obtain ⟨c0, c1, c2, c3⟩ := hat.on hbw
        have hown := HO.out _ (List.getElem_mem hlt)
        have hws := hbw.size
        generalize T[k] = x at *
        have hk0 : (0 : Int) ≤ (k : Int) := by omega
        have hk1 : (k : Int) < (T.length : Int) := by omega
        have hkk : x.kind = 2 ∨ x.kind = 5 ∨ x.kind = 9 ∨ ((x.kind == 2) = false ∧ (x.kind == 5) = false ∧ (x.kind == 9) = false) := by
          simp only [beq_eq_false_iff_ne]; omega
        clear hat
        rcases hkk with h | h | h | ⟨e1, e2, e3⟩
        iterate 3
          · rw [h] at c0
            clear h hown
            go_wp2_with fail
            go_roundw
            case rel => exact ⟨k + 1, by omega, by go_num, hbw.alloc hws _⟩
            case measure => simp [intOf]; omega
        · obtain ⟨f1, f2, f3⟩ := own_facts hown (by simpa using e1) (by simpa using e2) (by simpa using e3)
          have hp0 : (0 : Int) ≤ (x.pos : Int) := by omega
          clear hown
          generalize (⟨x.text.toArray⟩ : ByteArray) = u at *
          generalize x.pos = p at *
          have hp1 : (p : Int) ≤ (p : Int) + (u.size : Int) := by omega
          have hp2 : (p : Int) + (u.size : Int) ≤ (s.size : Int) := by omega
          have hp3 : IntKind.i64.wrap ((p : Int) + (u.size : Int)) = (p : Int) + (u.size : Int) := by rw [IntWalk.i64_left]; exact IntWalk.wrap64_in _ ⟨by omega, by omega⟩
          have hp4 : decide ((p : Int) < 0) = false := by simp
          rw [show p + u.size = ((p : Int) + (u.size : Int)).toNat from by omega] at f3
          have hp5 : decide ((s.size : Int) < (p : Int) + (u.size : Int)) = false := by simp; omega
          go_wp2_with fail
          go_region_held3 (fun W => W.cell? ⟨wr.heap.size, 0, none⟩ = some (.int .i64 x.kind) ∧ W.cell? ⟨wr.heap.size, 1, none⟩ = some (.string u) ∧ W.cell? ⟨wr.heap.size, 3, none⟩ = some (.int .i64 (p : Nat))) (first | go_keep) (fail)
          go_wp2_with fail
          go_roundw
          case rel => exact ⟨k + 1, by omega, by go_num, (hbw.alloc hws _).drew⟩
          case measure => simp [intOf]; omega
      · go_wp2_with fail
        go_ret
        exact ⟨ret_boolT (decide_eq_true (by omega)), hb.trans (hbw.mono hb.size)⟩
end Go.Proofs.YtglaoacdenecfaaDoor
