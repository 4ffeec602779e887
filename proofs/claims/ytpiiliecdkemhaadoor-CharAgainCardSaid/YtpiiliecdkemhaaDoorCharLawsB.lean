/-
  The law CharBack of package char, walked: it answers true; nothing that was there has changed.
-/
import Derived.Test.YtpiiliecdkemhaaDoorCharLawsA
namespace Go.Proofs.YtpiiliecdkemhaaDoor
open Go.RowKit

theorem flat_length (rs : List Int) : (rs.flatMap escR).length ≤ 5 * rs.length := by
  induction rs with
  | nil => simp
  | cons c t ih =>
    have := escR_length c
    rw [List.flatMap_cons, List.length_append, List.length_cons]
    omega
theorem quote_length (l : List UInt8) : 2 ≤ (quoteL l).length ∧ (quoteL l).length ≤ 2 + 5 * l.length := by
  have h1 := flat_length (runesL l)
  have h2 := runesL_length l
  unfold quoteL
  rw [List.length_cons, List.length_append, List.length_singleton]
  omega
theorem check_parts {l : List UInt8} (h : checkL l = true) : l.length ≤ 255 ∧ Lib.validD l = true := by
  unfold checkL at h
  rw [Bool.and_eq_true, decide_eq_true_eq] at h
  exact h
theorem cat_mk (a : List UInt8) (b : ByteArray) : (⟨a.toArray⟩ ++ b : ByteArray) = ⟨(a ++ b.data.toList).toArray⟩ := by
  refine of_list _ _ ?_
  rw [data_cat]

set_option maxHeartbeats 2000000 in
theorem back_early (s b : ByteArray) (w : World) (ck br : Bool) (hT : Tabs w)
    (cC : ∀ w, Tabs w → Calls Tryd.prog 14 #[.string s] w fun e w' => e = .returned (.bool ck) ∧ Below w.heap.size w w')
    (cB : ∀ w, Tabs w → Calls Tryd.prog 16 #[.string s] w fun e w' => e = .returned (.bool br) ∧ Below w.heap.size w w')
    (h : ck = false ∨ (ck = true ∧ br = true) ∨ (ck = true ∧ br = false ∧ 100000 < b.size) ∨ (ck = true ∧ br = false ∧ b.size ≤ 100000 ∧ ∃ hp : 0 < b.size, (b[0]'hp).toNat = 39)) :
    Calls Tryd.prog 7 #[.string s, .string b] w fun e w' => e = .returned (.bool true) ∧ Below w.heap.size w w' := by
  have HT := Lib.hid hT
  have HC := Lib.hid cC
  have HB := Lib.hid cB
  clear hT cC cB
  rcases h with rfl | ⟨rfl, rfl⟩ | ⟨rfl, rfl, hz⟩ | ⟨rfl, rfl, hz, hp, h39⟩
  · go_enter Tryd.func7, Tryd.ntmps7
    go_wp2_with fail
    refine (law_live _ HT.out).mono ?_; rintro e w1 ⟨rfl, hb1⟩
    go_wp2_with fail
    refine (HC.out _ (HT.out.on hb1)).mono ?_; rintro e w2 ⟨rfl, h⟩; have hb2 := bstep hb1 h; clear h hb1
    go_wp2_with fail
    go_ret
    exact ⟨rfl, hb2⟩
  · go_enter Tryd.func7, Tryd.ntmps7
    go_wp2_with fail
    refine (law_live _ HT.out).mono ?_; rintro e w1 ⟨rfl, hb1⟩
    go_wp2_with fail
    refine (HC.out _ (HT.out.on hb1)).mono ?_; rintro e w2 ⟨rfl, h⟩; have hb2 := bstep hb1 h; clear h hb1
    go_wp2_with fail
    refine (HB.out _ (HT.out.on hb2)).mono ?_; rintro e w3 ⟨rfl, h⟩; have hb3 := bstep hb2 h; clear h hb2
    go_wp2_with fail
    go_ret
    exact ⟨rfl, hb3⟩
  · go_enter Tryd.func7, Tryd.ntmps7
    go_wp2_with fail
    refine (law_live _ HT.out).mono ?_; rintro e w1 ⟨rfl, hb1⟩
    go_wp2_with fail
    refine (HC.out _ (HT.out.on hb1)).mono ?_; rintro e w2 ⟨rfl, h⟩; have hb2 := bstep hb1 h; clear h hb1
    go_wp2_with fail
    refine (HB.out _ (HT.out.on hb2)).mono ?_; rintro e w3 ⟨rfl, h⟩; have hb3 := bstep hb2 h; clear h hb2
    go_wp2_with fail
    go_ret
    exact ⟨rfl, hb3⟩
  · have e1 : (((b[0]'hp).toNat : Int) == 39) = true := by simp; omega
    clear h39
    go_enter Tryd.func7, Tryd.ntmps7
    go_wp2_with fail
    refine (law_live _ HT.out).mono ?_; rintro e w1 ⟨rfl, hb1⟩
    go_wp2_with fail
    refine (HC.out _ (HT.out.on hb1)).mono ?_; rintro e w2 ⟨rfl, h⟩; have hb2 := bstep hb1 h; clear h hb1
    go_wp2_with fail
    refine (HB.out _ (HT.out.on hb2)).mono ?_; rintro e w3 ⟨rfl, h⟩; have hb3 := bstep hb2 h; clear h hb2
    go_wp2_with fail
    go_ret
    exact ⟨rfl, hb3⟩

set_option maxHeartbeats 2000000 in
theorem back_late (s b : ByteArray) (q : List UInt8) (w : World) (hT : Tabs w) (hq : q.length ≤ 2000) (hz : b.size ≤ 100000)
    (cC : ∀ w, Tabs w → Calls Tryd.prog 14 #[.string s] w fun e w' => e = .returned (.bool true) ∧ Below w.heap.size w w')
    (cB : ∀ w, Tabs w → Calls Tryd.prog 16 #[.string s] w fun e w' => e = .returned (.bool false) ∧ Below w.heap.size w w')
    (cW : ∀ w, Tabs w → Calls Tryd.prog 18 #[.string s] w fun e w' => e = .returned (.string ⟨q.toArray⟩) ∧ Below w.heap.size w w')
    (cR : ∀ w, Tabs w → Calls Tryd.prog 20 #[.string (⟨q.toArray⟩ ++ b)] w fun e w' => e = .returned (.tuple #[.string s, .int .i64 (q.length : Nat), .int .i64 0]) ∧ Below w.heap.size w w')
    (h : b.size = 0 ∨ ∃ hp : 0 < b.size, (b[0]'hp).toNat ≠ 39) :
    Calls Tryd.prog 7 #[.string s, .string b] w fun e w' => e = .returned (.bool true) ∧ Below w.heap.size w w' := by
  have HT := Lib.hid hT
  have HC := Lib.hid cC
  have HB := Lib.hid cB
  have HW := Lib.hid cW
  have HR := Lib.hid cR
  clear hT cC cB cW cR
  have e2 : ((q.length : Int) == (q.length : Int)) = true := beq_self_eq_true _
  have h' : (b.size : Int) ≤ 0 ∨ ∃ hp : 0 < b.size, (((b[0]'hp).toNat : Int) == 39) = false := by
    rcases h with h | ⟨hp, h⟩
    · left; omega
    · right; exact ⟨hp, by simp; omega⟩
  clear h
  rcases h' with h' | ⟨hp, h'⟩
  all_goals
    go_enter Tryd.func7, Tryd.ntmps7
    go_wp2_with fail
    refine (law_live _ HT.out).mono ?_; rintro e w1 ⟨rfl, hb1⟩
    go_wp2_with fail
    refine (HC.out _ (HT.out.on hb1)).mono ?_; rintro e w2 ⟨rfl, h⟩; have hb2 := bstep hb1 h; clear h hb1
    go_wp2_with fail
    refine (HB.out _ (HT.out.on hb2)).mono ?_; rintro e w3 ⟨rfl, h⟩; have hb3 := bstep hb2 h; clear h hb2
    go_wp2_with fail
    refine (HW.out _ (HT.out.on hb3)).mono ?_; rintro e w4 ⟨rfl, h⟩; have hb4 := bstep hb3 h; clear h hb3
    go_wp2_with fail
    refine (HR.out _ (HT.out.on hb4)).mono ?_; rintro e w5 ⟨rfl, h⟩; have hb5 := bstep hb4 h; clear h hb4
    go_wp2_with fail
    go_ret
    exact ⟨rfl, hb5⟩

theorem walk_CharBack (s b : ByteArray) (w : World) (hs : s.size ≤ maxLen) (hT : Tabs w) :
    Calls Tryd.prog 7 #[.string s, .string b] w fun e w' => e = .returned (.bool true) ∧ Below w.heap.size w w' := by
  have cC := fun w h => char_Check s w hs h
  have cB := fun w h => char_Bare s w hs h
  by_cases hc : checkL s.data.toList = true
  · rw [hc] at cC
    by_cases hbr : bareL s.data.toList = true
    · rw [hbr] at cB
      exact back_early s b w true true hT cC cB (.inr (.inl ⟨rfl, rfl⟩))
    · have hbr' : bareL s.data.toList = false := by simpa using hbr
      rw [hbr'] at cB
      by_cases hz : 100000 < b.size
      · exact back_early s b w true false hT cC cB (.inr (.inr (.inl ⟨rfl, rfl, hz⟩)))
      · have fin : (b.size = 0 ∨ ∃ hp : 0 < b.size, (b[0]'hp).toNat ≠ 39) → b.data.toList.headD 0 ≠ 39 → Calls Tryd.prog 7 #[.string s, .string b] w fun e w' => e = .returned (.bool true) ∧ Below w.heap.size w w' := by
          intro hh hd
          obtain ⟨hl, hv⟩ := check_parts hc
          have hql := quote_length s.data.toList
          have hwq : writeL s.data.toList = quoteL s.data.toList := by unfold writeL; rw [if_pos hc, if_neg hbr]
          have cW := fun w h => char_Write s w hs h
          rw [hwq] at cW
          have hcat := cat_mk (quoteL s.data.toList) b
          refine back_late s b (quoteL s.data.toList) w hT (by omega) (by omega) cC cB cW (fun w h => ?_) hh
          have hr := cread_of (quoteL s.data.toList ++ b.data.toList) s.data.toList (quoteL s.data.toList).length (by rw [List.length_append, size_list]; omega) (read_quote s.data.toList b.data.toList hv hd) w h
          rw [hcat]
          exact hr
        by_cases h0 : b.size = 0
        · refine fin (.inl h0) ?_
          rw [List.eq_nil_of_length_eq_zero (show b.data.toList.length = 0 by rw [size_list]; exact h0)]
          decide
        · have hp : 0 < b.size := by omega
          by_cases h39 : (b[0]'hp).toNat = 39
          · exact back_early s b w true false hT cC cB (.inr (.inr (.inr ⟨rfl, rfl, by omega, hp, h39⟩)))
          · refine fin (.inr ⟨hp, h39⟩) ?_
            rw [head_eq b hp]
            intro e
            exact h39 ((toNat39 _).1 e)
  · have hc' : checkL s.data.toList = false := by simpa using hc
    rw [hc'] at cC
    exact back_early s b w false _ hT cC cB (.inl rfl)
end Go.Proofs.YtpiiliecdkemhaaDoor
