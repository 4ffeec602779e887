/-
  The contract of the document's own Bare for char.
-/
import Derived.Test.YtpiiliecdkemhaaDoorCharRefD
import Derived.Deep.AppendLies
namespace Go.Proofs.YtpiiliecdkemhaaDoor
open Go.RowKit

/-- What the first tests of Bare come to. -/
theorem bare_no {l : List UInt8} (h : checkL l = false ∨ l = [] ∨ l = [46] ∨ l.take 2 = [47, 42]) : bareL l = false := by
  unfold bareL
  rcases h with h | h | h | h
  · rw [h]; rfl
  · rw [h]; rfl
  · rw [h]; rfl
  · rw [h]; simp
theorem bare_yes {l : List UInt8} (hc : checkL l = true) (h : l = [91, 93] ∨ l = [123, 125] ∨ l = [33] ∨ l = [59]) : bareL l = true := by
  unfold bareL
  rw [hc]
  rcases h with h | h | h | h
  all_goals rw [h]; rfl
def nameAll (rs : List Int) : Bool := decide (cls (rs.headD 0) = 1) && rs.all nameR
theorem name_snoc (nm0 : Bool) (rs : List Int) (k : Nat) (h : k < rs.length) : (nm0 && (rs.take (k + 1)).all nameR) = ((nm0 && (rs.take k).all nameR) && nameR rs[k]) := by
  rw [List.take_succ_eq_append_getElem h, List.all_append]
  simp [Bool.and_assoc]
theorem sign_snoc (rs : List Int) (k : Nat) (h : k < rs.length) : (rs.take (k + 1)).all signR = ((rs.take k).all signR && signR rs[k]) := by
  rw [List.take_succ_eq_append_getElem h, List.all_append]
  simp
theorem bare_rest {l : List UInt8} (hc : checkL l = true) (h0 : l ≠ []) (h1 : l ≠ [46]) (h2 : l.take 2 ≠ [47, 42]) (h3 : l ≠ [91, 93]) (h4 : l ≠ [123, 125]) (h5 : l ≠ [33]) (h6 : l ≠ [59]) :
    bareL l = (nameAll (runesL l) || (runesL l).all signR) := by
  unfold bareL nameAll
  rw [hc, decide_eq_false h0, decide_eq_false h1, decide_eq_false h2, decide_eq_false h3, decide_eq_false h4, decide_eq_false h5, decide_eq_false h6]
  simp

set_option maxHeartbeats 4000000 in
theorem ref_Bare_core (s : ByteArray) (w : World) (hsz : s.size ≤ 255) (hT : Tabs w) (rs : List Int) (hrs : runesL s.data.toList = rs) (hne : rs ≠ [])
    (cC : ∀ w, Tabs w → Calls Tryd.prog 15 #[.string s] w fun e w' => e = .returned (.bool true) ∧ Below w.heap.size w w')
    (f0 : s.toList.isEmpty = false) (f1 : (s.toList == [46]) = false) (f2 : s.size ≤ 1 ∨ ((s.extract 0 2).toList == [47, 42]) = false) (f3 : (s.toList == [91, 93]) = false) (f4 : (s.toList == [123, 125]) = false) (f5 : (s.toList == [33]) = false) (f6 : (s.toList == [59]) = false) :
    Calls Tryd.prog 17 #[.string s] w fun e w' => e = .returned (.bool (nameAll rs || rs.all signR)) ∧ Below w.heap.size w w' := by
  have HT := Lib.hid hT
  have HC := Lib.hid cC
  have cR := fun w hT => ref_Runes s w (by omega) hT
  rw [hrs] at cR
  have HR := Lib.hid cR
  have hlen : rs.length ≤ 255 := by
    have h1 := runesL_length s.data.toList
    have h2 : s.data.toList.length = s.size := by simp
    rw [hrs] at h1
    omega
  have hpos : 0 < rs.length := List.length_pos_iff.2 hne
  clear hT cC cR hrs hne
  obtain ⟨tl, htl⟩ : ∃ tl, s.toList = tl := ⟨_, rfl⟩
  have g2 : (1 : Int) < s.size ∨ (s.size : Int) ≤ 1 := by omega
  rcases g2 with g2 | g2
  · have f2' : ((s.extract 0 2).toList == [47, 42]) = false := f2.resolve_left (by omega)
    clear f2 htl
    go_enter Tryd.func17, Tryd.ntmps17
    go_wp2_with fail
    refine (HC.out _ HT.out).mono ?_; rintro e w1 ⟨rfl, hb1⟩
    go_wp2_with fail
    refine (HR.out _ (HT.out.on hb1)).mono ?_; rintro e w2 ⟨v, rfl, hown, hb2⟩
    have hb := hb1.trans (hb2.mono hb1.size)
    obtain ⟨g, cap, rfl, hform⟩ := hown.form hpos
    have hcell : ∀ k (h : k < rs.length), w2.cell? ⟨g, k, none⟩ = some (.int .i32 rs[k]) := fun k h => by
      have := World.ownsRow.cellAt hown k (by omega)
      rw [this, List.getElem?_map, List.getElem?_eq_getElem h]
      rfl
    have HCell := Lib.hid hcell
    have hc0 := hcell 0 hpos
    have hr0 : rs[0] = rs.headD 0 := by
      cases rs with
      | nil => cases hpos
      | cons a t => rfl
    obtain ⟨r0, hr1⟩ : ∃ r, rs.headD 0 = r := ⟨_, rfl⟩
    rw [hr0, hr1] at hc0
    have HR1 := Lib.hid hr1
    clear hcell hown hb1 hb2 hform hr0 hr1 f0 f1 f3 f4 f5 f6
    try clear f2'
    clear g2
    go_wp2_with fail
    refine (ref_Class _ _).mono ?_; rintro e w' ⟨rfl, rfl⟩
    obtain ⟨nm0, hb0⟩ : ∃ b, (cls r0 == 1) = b := ⟨_, rfl⟩
    have HNM : Hid (decide (cls (rs.headD 0) = 1) = nm0) := Lib.hid (by rw [HR1.out, ← hb0]; rfl)
    go_wp2_with fail
    clear hc0 hb0 HR1
    go_loop [4, 5, 53] (fun nm sg i => ∃ (k : Nat) (a b : Bool), k ≤ rs.length ∧ i = .int .i64 k ∧ nm = .bool a ∧ sg = .bool b ∧ Hid ((nm0 && (rs.take k).all nameR) = a ∧ (rs.take k).all signR = b)) (fun _ _ i => rs.length - (intOf i).toNat)
    case atStart => exact ⟨0, nm0, true, Nat.zero_le _, rfl, rfl, rfl, Lib.hid ⟨by simp, rfl⟩⟩
    case round =>
      obtain ⟨k, a, b, hk, rfl, rfl, rfl, HS⟩ := hrel
      by_cases hlt : k < rs.length
      · have hck := HCell.out k hlt
        have h1 := name_snoc nm0 rs k hlt
        have h2 := sign_snoc rs k hlt
        rw [HS.out.1] at h1
        rw [HS.out.2] at h2
        generalize rs[k] = c at *
        have H1 := Lib.hid h1
        have H2 := Lib.hid h2
        clear h1 h2
        obtain ⟨q, hq⟩ : ∃ q, cls c = q := ⟨_, rfl⟩
        have hn : nameR c = decide (q = 1 ∨ q = 2 ∨ q = 3) := by unfold nameR; rw [hq]
        have hsg : signR c = decide (q = 4) := by unfold signR; rw [hq]
        have HN := Lib.hid hn
        have HG := Lib.hid hsg
        have cK := fun w => ref_Class c w
        rw [hq] at cK
        have HK := Lib.hid cK
        clear hq hn hsg cK HS
        go_wp2_with fail
        refine (HK.out _).mono ?_; rintro e w' ⟨rfl, rfl⟩
        have hqc : q = 1 ∨ q = 2 ∨ q = 3 ∨ q = 4 ∨ (q ≠ 1 ∧ q ≠ 2 ∧ q ≠ 3 ∧ q ≠ 4) := by omega
        rcases hqc with rfl | rfl | rfl | rfl | ⟨hq1, hq2, hq3, hq4⟩
        all_goals
          try (
            have e1 : (q == 1) = false := by simpa using hq1
            have e2 : (q == 2) = false := by simpa using hq2
            have e3 : (q == 3) = false := by simpa using hq3
            have e4 : (q == 4) = false := by simpa using hq4
            have hn' : nameR c = false := by rw [HN.out, decide_eq_false_iff_not]; omega
            have hg' : signR c = false := by rw [HG.out, decide_eq_false_iff_not]; omega
            have HN' := Lib.hid hn'
            have HG' := Lib.hid hg'
            clear hn' hg' hq1 hq2 hq3 hq4)
          cases a
          all_goals
            cases b
            all_goals
              go_wp2_with fail
              go_round
              case rel =>
                refine ⟨k + 1, _, _, by omega, by go_num, rfl, rfl, Lib.hid ⟨?_, ?_⟩⟩
                · rw [H1.out]
                  first | (rw [HN'.out]; rfl) | (rw [HN.out]; rfl)
                · rw [H2.out]
                  first | (rw [HG'.out]; rfl) | (rw [HG.out]; rfl)
              case measure => simp [intOf]; omega
      · have hfin : nameAll rs = a ∧ rs.all signR = b := by
          have h := HS.out
          rw [List.take_of_length_le (by omega)] at h
          refine ⟨?_, h.2⟩
          unfold nameAll
          rw [HNM.out]
          exact h.1
        have HF := Lib.hid hfin
        clear hfin HS
        cases a
        all_goals
          cases b
          all_goals
            go_wp2_with fail
            go_ret
            exact ⟨by rw [HF.out.1, HF.out.2]; rfl, hb⟩
  · clear f2 htl
    go_enter Tryd.func17, Tryd.ntmps17
    go_wp2_with fail
    refine (HC.out _ HT.out).mono ?_; rintro e w1 ⟨rfl, hb1⟩
    go_wp2_with fail
    refine (HR.out _ (HT.out.on hb1)).mono ?_; rintro e w2 ⟨v, rfl, hown, hb2⟩
    have hb := hb1.trans (hb2.mono hb1.size)
    obtain ⟨g, cap, rfl, hform⟩ := hown.form hpos
    have hcell : ∀ k (h : k < rs.length), w2.cell? ⟨g, k, none⟩ = some (.int .i32 rs[k]) := fun k h => by
      have := World.ownsRow.cellAt hown k (by omega)
      rw [this, List.getElem?_map, List.getElem?_eq_getElem h]
      rfl
    have HCell := Lib.hid hcell
    have hc0 := hcell 0 hpos
    have hr0 : rs[0] = rs.headD 0 := by
      cases rs with
      | nil => cases hpos
      | cons a t => rfl
    obtain ⟨r0, hr1⟩ : ∃ r, rs.headD 0 = r := ⟨_, rfl⟩
    rw [hr0, hr1] at hc0
    have HR1 := Lib.hid hr1
    clear hcell hown hb1 hb2 hform hr0 hr1 f0 f1 f3 f4 f5 f6
    try clear f2'
    clear g2
    go_wp2_with fail
    refine (ref_Class _ _).mono ?_; rintro e w' ⟨rfl, rfl⟩
    obtain ⟨nm0, hb0⟩ : ∃ b, (cls r0 == 1) = b := ⟨_, rfl⟩
    have HNM : Hid (decide (cls (rs.headD 0) = 1) = nm0) := Lib.hid (by rw [HR1.out, ← hb0]; rfl)
    go_wp2_with fail
    clear hc0 hb0 HR1
    go_loop [4, 5, 53] (fun nm sg i => ∃ (k : Nat) (a b : Bool), k ≤ rs.length ∧ i = .int .i64 k ∧ nm = .bool a ∧ sg = .bool b ∧ Hid ((nm0 && (rs.take k).all nameR) = a ∧ (rs.take k).all signR = b)) (fun _ _ i => rs.length - (intOf i).toNat)
    case atStart => exact ⟨0, nm0, true, Nat.zero_le _, rfl, rfl, rfl, Lib.hid ⟨by simp, rfl⟩⟩
    case round =>
      obtain ⟨k, a, b, hk, rfl, rfl, rfl, HS⟩ := hrel
      by_cases hlt : k < rs.length
      · have hck := HCell.out k hlt
        have h1 := name_snoc nm0 rs k hlt
        have h2 := sign_snoc rs k hlt
        rw [HS.out.1] at h1
        rw [HS.out.2] at h2
        generalize rs[k] = c at *
        have H1 := Lib.hid h1
        have H2 := Lib.hid h2
        clear h1 h2
        obtain ⟨q, hq⟩ : ∃ q, cls c = q := ⟨_, rfl⟩
        have hn : nameR c = decide (q = 1 ∨ q = 2 ∨ q = 3) := by unfold nameR; rw [hq]
        have hsg : signR c = decide (q = 4) := by unfold signR; rw [hq]
        have HN := Lib.hid hn
        have HG := Lib.hid hsg
        have cK := fun w => ref_Class c w
        rw [hq] at cK
        have HK := Lib.hid cK
        clear hq hn hsg cK HS
        go_wp2_with fail
        refine (HK.out _).mono ?_; rintro e w' ⟨rfl, rfl⟩
        have hqc : q = 1 ∨ q = 2 ∨ q = 3 ∨ q = 4 ∨ (q ≠ 1 ∧ q ≠ 2 ∧ q ≠ 3 ∧ q ≠ 4) := by omega
        rcases hqc with rfl | rfl | rfl | rfl | ⟨hq1, hq2, hq3, hq4⟩
        all_goals
          try (
            have e1 : (q == 1) = false := by simpa using hq1
            have e2 : (q == 2) = false := by simpa using hq2
            have e3 : (q == 3) = false := by simpa using hq3
            have e4 : (q == 4) = false := by simpa using hq4
            have hn' : nameR c = false := by rw [HN.out, decide_eq_false_iff_not]; omega
            have hg' : signR c = false := by rw [HG.out, decide_eq_false_iff_not]; omega
            have HN' := Lib.hid hn'
            have HG' := Lib.hid hg'
            clear hn' hg' hq1 hq2 hq3 hq4)
          cases a
          all_goals
            cases b
            all_goals
              go_wp2_with fail
              go_round
              case rel =>
                refine ⟨k + 1, _, _, by omega, by go_num, rfl, rfl, Lib.hid ⟨?_, ?_⟩⟩
                · rw [H1.out]
                  first | (rw [HN'.out]; rfl) | (rw [HN.out]; rfl)
                · rw [H2.out]
                  first | (rw [HG'.out]; rfl) | (rw [HG.out]; rfl)
              case measure => simp [intOf]; omega
      · have hfin : nameAll rs = a ∧ rs.all signR = b := by
          have h := HS.out
          rw [List.take_of_length_le (by omega)] at h
          refine ⟨?_, h.2⟩
          unfold nameAll
          rw [HNM.out]
          exact h.1
        have HF := Lib.hid hfin
        clear hfin HS
        cases a
        all_goals
          cases b
          all_goals
            go_wp2_with fail
            go_ret
            exact ⟨by rw [HF.out.1, HF.out.2]; rfl, hb⟩
end Go.Proofs.YtpiiliecdkemhaaDoor
