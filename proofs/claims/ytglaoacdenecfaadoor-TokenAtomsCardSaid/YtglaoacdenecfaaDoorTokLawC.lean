/-
  The walk of the law TokenAtoms.
-/
import Derived.Test.YtglaoacdenecfaaDoorTokH
import Derived.Test.YtglaoacdenecfaaDoorTokJoin
namespace Go.Proofs.YtglaoacdenecfaaDoor
open Go.RowKit

theorem write_size (l : List UInt8) (h : checkL l = true) : (writeL l).length ≤ 10000 := by
  have h1 : l.length ≤ 255 := by unfold checkL at h; rw [Bool.and_eq_true] at h; simpa using h.1
  unfold writeL
  rw [if_pos h]
  split
  · omega
  · unfold quoteL
    rw [List.length_cons, List.length_append, List.length_singleton]
    have h2 : ∀ m : List Int, (m.flatMap escR).length ≤ 5 * m.length := fun m => by
      induction m with
      | nil => exact Nat.le_refl 0
      | cons c m ih =>
        rw [List.flatMap_cons, List.length_append, List.length_cons]
        have := escR_length c
        omega
    have h3 := h2 (runesL l)
    have h4 := runesL_length l
    omega
def spaced (t : List UInt8) : ByteArray := ⟨t.toArray⟩ ++ ⟨#[32]⟩
theorem spaced_list (t : List UInt8) : (spaced t).data.toList = t ++ [32] := by
  unfold spaced
  rw [ByteArray.data_append, Array.toList_append]

set_option maxRecDepth 100000 in
set_option maxHeartbeats 4000000 in
theorem walk_TokenAtoms (s : ByteArray) (w : World) (hs : s.size ≤ maxLen) (hT : TabsT w) :
    Calls Tryd.prog 5 #[.string s] w fun e w' => e = .returned (.bool true) ∧ Below w.heap.size w w' := by
  have HT := Lib.hid hT
  have HL := Lib.hid (tok_live w hT)
  have HW := Lib.hid (fun W (h : TabsT W) => ref_Write s W hs h.1)
  have HK := Lib.hid (fun W (h : TabsT W) => ref_Check s W hs h.1)
  have f1 : (s.toList == [91, 93]) = decide (s.data.toList = [91, 93]) := by rw [ByteArray.toList_eq, Bool.eq_iff_iff]; simp
  have f2 : (s.toList == [123, 125]) = decide (s.data.toList = [123, 125]) := by rw [ByteArray.toList_eq, Bool.eq_iff_iff]; simp
  clear hs hT
  cases hck : checkL s.data.toList with
  | false =>
    rw [hck] at HK
    clear f1 f2 hck
    generalize (⟨(writeL s.data.toList).toArray⟩ : ByteArray) = u at *
    go_enter Tryd.func5, Tryd.ntmps5
    go_wp2_with fail
    refine HL.out.mono ?_; rintro e w1 ⟨rfl, hb1⟩
    go_wp2_with fail
    refine (HW.out _ (HT.out.on hb1)).mono ?_; rintro e w2 ⟨rfl, hb2⟩
    have hb := hb1.trans (hb2.mono hb1.size)
    clear hb1 hb2
    go_wp2_with fail
    refine (HK.out _ (HT.out.on hb)).mono ?_; rintro e w3 ⟨rfl, hb3⟩
    have hbw := hb.trans (hb3.mono hb.size)
    clear hb hb3
    go_wp2_with fail
    go_ret
    exact ⟨rfl, hbw⟩
  | true =>
    rw [hck] at HK
    have hwz := write_size _ hck
    have hul : (⟨(writeL s.data.toList).toArray⟩ : ByteArray).size = (writeL s.data.toList).length := size_mk _
    by_cases hbig : 4000 < (writeL s.data.toList).length
    · rw [← hul] at hbig
      clear f1 f2 hck hul hwz
      generalize (⟨(writeL s.data.toList).toArray⟩ : ByteArray) = u at *
      go_enter Tryd.func5, Tryd.ntmps5
      go_wp2_with fail
      refine HL.out.mono ?_; rintro e w1 ⟨rfl, hb1⟩
      go_wp2_with fail
      refine (HW.out _ (HT.out.on hb1)).mono ?_; rintro e w2 ⟨rfl, hb2⟩
      have hb := hb1.trans (hb2.mono hb1.size)
      clear hb1 hb2
      go_wp2_with fail
      refine (HK.out _ (HT.out.on hb)).mono ?_; rintro e w3 ⟨rfl, hb3⟩
      have hbw := hb.trans (hb3.mono hb.size)
      clear hb hb3
      go_wp2_with fail
      go_ret
      exact ⟨rfl, hbw⟩
    · have hcat : (⟨(writeL s.data.toList).toArray⟩ ++ ⟨#[32]⟩ : ByteArray).data.toList = writeL s.data.toList ++ [32] := spaced_list _
      have hl1 : (writeL s.data.toList ++ [32]).length ≤ 4096 := by rw [List.length_append, List.length_singleton]; omega
      have hcut : (s.data.toList = [91, 93] ∧ ∃ T : List Tok, T.length = 3 ∧ cutL (writeL s.data.toList ++ [32]) 0 false = .good T ∧ (∃ x, T[0]? = some x ∧ x.kind = 6) ∧ ∃ x, T[1]? = some x ∧ x.kind = 6) ∨
          (s.data.toList ≠ [91, 93] ∧ s.data.toList = [123, 125] ∧ ∃ T : List Tok, T.length = 3 ∧ cutL (writeL s.data.toList ++ [32]) 0 false = .good T ∧ (∃ x, T[0]? = some x ∧ x.kind = 6) ∧ ∃ x, T[1]? = some x ∧ x.kind = 6) ∨
          (s.data.toList ≠ [91, 93] ∧ s.data.toList ≠ [123, 125] ∧ ∃ (T : List Tok) (k : Int), (k = 1 ∨ k = 2 ∨ k = 3) ∧ T.length = 2 ∧ cutL (writeL s.data.toList ++ [32]) 0 false = .good T ∧ T[0]? = some ⟨k, s.data.toList, 0, 0⟩) := by
        by_cases h1 : s.data.toList = [91, 93]
        · rw [h1]; exact .inl ⟨rfl, _, rfl, cut_brackets.1, ⟨_, rfl, rfl⟩, _, rfl, rfl⟩
        by_cases h2 : s.data.toList = [123, 125]
        · rw [h2]; exact .inr (.inl ⟨by decide, rfl, _, rfl, cut_brackets.2, ⟨_, rfl, rfl⟩, _, rfl, rfl⟩)
        · obtain ⟨k, hk, hc⟩ := cut_atom _ hck h1 h2
          exact .inr (.inr ⟨h1, h2, _, k, hk, rfl, hc, rfl⟩)
      rw [← hul] at hbig hwz
      clear hck hul
      rcases hcut with ⟨h1, T, hTl, hc, ⟨x, hx, hxk⟩, y, hy, hyk⟩ | ⟨h1, h2, T, hTl, hc, ⟨x, hx, hxk⟩, y, hy, hyk⟩ | ⟨h1, h2, T, k, hk, hTl, hc, hx⟩
      · rw [decide_eq_true h1] at f1
        have HC := Lib.hid (fun W h => cut_good hl1 hc (⟨(writeL s.data.toList).toArray⟩ ++ ⟨#[32]⟩) hcat W h)
        clear hcat hl1 hc
        generalize (⟨(writeL s.data.toList).toArray⟩ : ByteArray) = u at *
        go_enter Tryd.func5, Tryd.ntmps5
        go_wp2_with fail
        refine HL.out.mono ?_; rintro e w1 ⟨rfl, hb1⟩
        go_wp2_with fail
        refine (HW.out _ (HT.out.on hb1)).mono ?_; rintro e w2 ⟨rfl, hb2⟩
        have hb := hb1.trans (hb2.mono hb1.size)
        clear hb1 hb2
        go_wp2_with fail
        refine (HK.out _ (HT.out.on hb)).mono ?_; rintro e w3 ⟨rfl, hb3⟩
        have hbw := hb.trans (hb3.mono hb.size)
        clear hb hb3
        go_wp2_with fail
        refine (HC.out _ (HT.out.on hbw)).mono ?_; rintro e w4 ⟨v, rfl, hown, hb4⟩
        have hbw4 := hbw.trans (hb4.mono hbw.size)
        obtain ⟨ad, cap, rfl, hlc, hcm, hcell⟩ := hown.view
        rw [hTl] at hlc
        unfold maxLen at hcm
        have hx0 : 0 < T.length := by omega
        have hy1 : 1 < T.length := by omega
        rw [List.getElem?_eq_getElem hx0] at hx
        rw [List.getElem?_eq_getElem hy1] at hy
        obtain ⟨g, rfl, _, hat⟩ := hcell 0 hx0
        obtain ⟨g', hg', _, hat2⟩ := hcell 1 hy1
        injection hg' with hg'
        injection hg' with hg'
        subst hg'
        rw [Option.some.inj hx] at hat
        rw [Option.some.inj hy] at hat2
        have c0 := hat.kind
        have d0 := hat2.kind
        rw [hxk] at c0
        rw [hyk] at d0
        rw [hTl]
        clear hat hat2 hcell hown hbw hb4
        go_wp2_with fail
        go_ret
        exact ⟨rfl, hbw4⟩
      · rw [decide_eq_false h1] at f1
        rw [decide_eq_true h2] at f2
        have HC := Lib.hid (fun W h => cut_good hl1 hc (⟨(writeL s.data.toList).toArray⟩ ++ ⟨#[32]⟩) hcat W h)
        clear hcat hl1 hc
        generalize (⟨(writeL s.data.toList).toArray⟩ : ByteArray) = u at *
        go_enter Tryd.func5, Tryd.ntmps5
        go_wp2_with fail
        refine HL.out.mono ?_; rintro e w1 ⟨rfl, hb1⟩
        go_wp2_with fail
        refine (HW.out _ (HT.out.on hb1)).mono ?_; rintro e w2 ⟨rfl, hb2⟩
        have hb := hb1.trans (hb2.mono hb1.size)
        clear hb1 hb2
        go_wp2_with fail
        refine (HK.out _ (HT.out.on hb)).mono ?_; rintro e w3 ⟨rfl, hb3⟩
        have hbw := hb.trans (hb3.mono hb.size)
        clear hb hb3
        go_wp2_with fail
        refine (HC.out _ (HT.out.on hbw)).mono ?_; rintro e w4 ⟨v, rfl, hown, hb4⟩
        have hbw4 := hbw.trans (hb4.mono hbw.size)
        obtain ⟨ad, cap, rfl, hlc, hcm, hcell⟩ := hown.view
        rw [hTl] at hlc
        unfold maxLen at hcm
        have hx0 : 0 < T.length := by omega
        have hy1 : 1 < T.length := by omega
        rw [List.getElem?_eq_getElem hx0] at hx
        rw [List.getElem?_eq_getElem hy1] at hy
        obtain ⟨g, rfl, _, hat⟩ := hcell 0 hx0
        obtain ⟨g', hg', _, hat2⟩ := hcell 1 hy1
        injection hg' with hg'
        injection hg' with hg'
        subst hg'
        rw [Option.some.inj hx] at hat
        rw [Option.some.inj hy] at hat2
        have c0 := hat.kind
        have d0 := hat2.kind
        rw [hxk] at c0
        rw [hyk] at d0
        rw [hTl]
        clear hat hat2 hcell hown hbw hb4
        go_wp2_with fail
        go_ret
        exact ⟨rfl, hbw4⟩
      · rw [decide_eq_false h1] at f1
        rw [decide_eq_false h2] at f2
        have HC := Lib.hid (fun W h => cut_good hl1 hc (⟨(writeL s.data.toList).toArray⟩ ++ ⟨#[32]⟩) hcat W h)
        clear hcat hl1 hc
        generalize (⟨(writeL s.data.toList).toArray⟩ : ByteArray) = u at *
        go_enter Tryd.func5, Tryd.ntmps5
        go_wp2_with fail
        refine HL.out.mono ?_; rintro e w1 ⟨rfl, hb1⟩
        go_wp2_with fail
        refine (HW.out _ (HT.out.on hb1)).mono ?_; rintro e w2 ⟨rfl, hb2⟩
        have hb := hb1.trans (hb2.mono hb1.size)
        clear hb1 hb2
        go_wp2_with fail
        refine (HK.out _ (HT.out.on hb)).mono ?_; rintro e w3 ⟨rfl, hb3⟩
        have hbw := hb.trans (hb3.mono hb.size)
        clear hb hb3
        go_wp2_with fail
        refine (HC.out _ (HT.out.on hbw)).mono ?_; rintro e w4 ⟨v, rfl, hown, hb4⟩
        have hbw4 := hbw.trans (hb4.mono hbw.size)
        obtain ⟨ad, cap, rfl, hlc, hcm, hcell⟩ := hown.view
        rw [hTl] at hlc
        unfold maxLen at hcm
        have hx0 : 0 < T.length := by omega
        rw [List.getElem?_eq_getElem hx0] at hx
        obtain ⟨g, rfl, _, hat⟩ := hcell 0 hx0
        rw [Option.some.inj hx] at hat
        obtain ⟨c0, c1, _, _⟩ := hat
        dsimp only at c0 c1
        rw [mk_list] at c1
        rw [hTl]
        clear hcell hown hbw hb4
        rcases hk with rfl | rfl | rfl
        all_goals
          go_wp2_with fail
          go_ret
          exact ⟨rfl, hbw4⟩
end Go.Proofs.YtglaoacdenecfaaDoor
