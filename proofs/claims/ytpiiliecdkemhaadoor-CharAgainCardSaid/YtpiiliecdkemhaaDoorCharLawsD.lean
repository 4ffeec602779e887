/-
  The law CharAgain of package char, walked: it answers true; nothing that was there has changed.
-/
import Derived.Test.YtpiiliecdkemhaaDoorCharLawsB
import Derived.Test.YtpiiliecdkemhaaDoorCharAgainM
namespace Go.Proofs.YtpiiliecdkemhaaDoor
open Go.RowKit

set_option maxHeartbeats 1000000 in
theorem again_long (s : ByteArray) (w : World) (hT : Tabs w) (hl : 100000 < s.size) :
    Calls Tryd.prog 10 #[.string s] w fun e w' => e = .returned (.bool true) ∧ Below w.heap.size w w' := by
  have HT := Lib.hid hT
  clear hT
  go_enter Tryd.func10, Tryd.ntmps10
  go_wp2_with fail
  refine (law_live _ HT.out).mono ?_; rintro e w1 ⟨rfl, hb1⟩
  go_wp2_with fail
  go_ret
  exact ⟨rfl, hb1⟩

set_option maxHeartbeats 1000000 in
theorem again_none (s : ByteArray) (w : World) (hT : Tabs w) (hl : s.size ≤ 100000)
    (cR : ∀ w, Tabs w → Calls Tryd.prog 20 #[.string s] w fun e w' => e = .returned (.tuple #[.string ⟨#[]⟩, .int .i64 0, .int .i64 20]) ∧ Below w.heap.size w w') :
    Calls Tryd.prog 10 #[.string s] w fun e w' => e = .returned (.bool true) ∧ Below w.heap.size w w' := by
  have HT := Lib.hid hT
  have HR := Lib.hid cR
  clear hT cR
  go_enter Tryd.func10, Tryd.ntmps10
  go_wp2_with fail
  refine (law_live _ HT.out).mono ?_; rintro e w1 ⟨rfl, hb1⟩
  go_wp2_with fail
  refine (HR.out _ (HT.out.on hb1)).mono ?_; rintro e w2 ⟨rfl, h⟩; have hb2 := bstep hb1 h; clear h hb1
  go_wp2_with fail
  go_ret
  exact ⟨rfl, hb2⟩

set_option maxHeartbeats 2000000 in
theorem again_some (s t : ByteArray) (n : Nat) (ck br : Bool) (w : World) (hT : Tabs w) (hl : s.size ≤ 100000) (hn1 : 2 ≤ n) (hn2 : n ≤ s.size)
    (cR : ∀ w, Tabs w → Calls Tryd.prog 20 #[.string s] w fun e w' => e = .returned (.tuple #[.string t, .int .i64 (n : Nat), .int .i64 0]) ∧ Below w.heap.size w w')
    (cC : ∀ w, Tabs w → Calls Tryd.prog 14 #[.string t] w fun e w' => e = .returned (.bool ck) ∧ Below w.heap.size w w')
    (cB : ∀ w, Tabs w → Calls Tryd.prog 16 #[.string t] w fun e w' => e = .returned (.bool br) ∧ Below w.heap.size w w')
    (h : (ck = false ∧ 255 < t.size) ∨ (ck = true ∧ br = true)) :
    Calls Tryd.prog 10 #[.string s] w fun e w' => e = .returned (.bool true) ∧ Below w.heap.size w w' := by
  have HT := Lib.hid hT
  have HR := Lib.hid cR
  have HC := Lib.hid cC
  have HB := Lib.hid cB
  clear hT cR cC cB
  rcases h with ⟨rfl, hz⟩ | ⟨rfl, rfl⟩
  · go_enter Tryd.func10, Tryd.ntmps10
    go_wp2_with fail
    refine (law_live _ HT.out).mono ?_; rintro e w1 ⟨rfl, hb1⟩
    go_wp2_with fail
    refine (HR.out _ (HT.out.on hb1)).mono ?_; rintro e w2 ⟨rfl, h⟩; have hb2 := bstep hb1 h; clear h hb1
    go_wp2_with fail
    refine (HC.out _ (HT.out.on hb2)).mono ?_; rintro e w3 ⟨rfl, h⟩; have hb3 := bstep hb2 h; clear h hb2
    go_wp2_with fail
    go_ret
    exact ⟨ret_bool (decide_eq_true (by omega)), hb3⟩
  · go_enter Tryd.func10, Tryd.ntmps10
    go_wp2_with fail
    refine (law_live _ HT.out).mono ?_; rintro e w1 ⟨rfl, hb1⟩
    go_wp2_with fail
    refine (HR.out _ (HT.out.on hb1)).mono ?_; rintro e w2 ⟨rfl, h⟩; have hb2 := bstep hb1 h; clear h hb1
    go_wp2_with fail
    refine (HC.out _ (HT.out.on hb2)).mono ?_; rintro e w3 ⟨rfl, h⟩; have hb3 := bstep hb2 h; clear h hb2
    go_wp2_with fail
    refine (HB.out _ (HT.out.on hb3)).mono ?_; rintro e w4 ⟨rfl, h⟩; have hb4 := bstep hb3 h; clear h hb3
    go_wp2_with fail
    go_ret
    exact ⟨rfl, hb4⟩

set_option maxHeartbeats 2000000 in
theorem again_quoted (s t : ByteArray) (n : Nat) (q : List UInt8) (w : World) (hT : Tabs w) (hl : s.size ≤ 100000) (hn1 : 2 ≤ n) (hn2 : n ≤ s.size)
    (cR : ∀ w, Tabs w → Calls Tryd.prog 20 #[.string s] w fun e w' => e = .returned (.tuple #[.string t, .int .i64 (n : Nat), .int .i64 0]) ∧ Below w.heap.size w w')
    (cC : ∀ w, Tabs w → Calls Tryd.prog 14 #[.string t] w fun e w' => e = .returned (.bool true) ∧ Below w.heap.size w w')
    (cB : ∀ w, Tabs w → Calls Tryd.prog 16 #[.string t] w fun e w' => e = .returned (.bool false) ∧ Below w.heap.size w w')
    (cW : ∀ w, Tabs w → Calls Tryd.prog 18 #[.string t] w fun e w' => e = .returned (.string ⟨q.toArray⟩) ∧ Below w.heap.size w w')
    (cQ : ∀ w, Tabs w → Calls Tryd.prog 20 #[.string ⟨q.toArray⟩] w fun e w' => e = .returned (.tuple #[.string t, .int .i64 (q.length : Nat), .int .i64 0]) ∧ Below w.heap.size w w') :
    Calls Tryd.prog 10 #[.string s] w fun e w' => e = .returned (.bool true) ∧ Below w.heap.size w w' := by
  have HT := Lib.hid hT
  have HR := Lib.hid cR
  have HC := Lib.hid cC
  have HB := Lib.hid cB
  have HW := Lib.hid cW
  have HQ := Lib.hid cQ
  clear hT cR cC cB cW cQ
  have e2 : ((q.length : Int) == (q.length : Int)) = true := beq_self_eq_true _
  go_enter Tryd.func10, Tryd.ntmps10
  go_wp2_with fail
  refine (law_live _ HT.out).mono ?_; rintro e w1 ⟨rfl, hb1⟩
  go_wp2_with fail
  refine (HR.out _ (HT.out.on hb1)).mono ?_; rintro e w2 ⟨rfl, h⟩; have hb2 := bstep hb1 h; clear h hb1
  go_wp2_with fail
  refine (HC.out _ (HT.out.on hb2)).mono ?_; rintro e w3 ⟨rfl, h⟩; have hb3 := bstep hb2 h; clear h hb2
  go_wp2_with fail
  refine (HB.out _ (HT.out.on hb3)).mono ?_; rintro e w4 ⟨rfl, h⟩; have hb4 := bstep hb3 h; clear h hb3
  go_wp2_with fail
  refine (HW.out _ (HT.out.on hb4)).mono ?_; rintro e w5 ⟨rfl, h⟩; have hb5 := bstep hb4 h; clear h hb4
  go_wp2_with fail
  refine (HQ.out _ (HT.out.on hb5)).mono ?_; rintro e w6 ⟨rfl, h⟩; have hb6 := bstep hb5 h; clear h hb5
  go_wp2_with fail
  refine (HW.out _ (HT.out.on hb6)).mono ?_; rintro e w7 ⟨rfl, h⟩; have hb7 := bstep hb6 h; clear h hb6
  go_wp2_with fail
  go_ret
  exact ⟨rfl, hb7⟩

theorem mk_size (l : List UInt8) : (⟨l.toArray⟩ : ByteArray).size = l.length := by show l.toArray.size = _; rw [List.size_toArray]
theorem walk_CharAgain (s : ByteArray) (w : World) (hT : Tabs w) :
    Calls Tryd.prog 10 #[.string s] w fun e w' => e = .returned (.bool true) ∧ Below w.heap.size w w' := by
  by_cases hl : 100000 < s.size
  · exact again_long s w hT hl
  have cR := fun w h => char_Read s w (by omega) h
  cases hr : readL s.data.toList with
  | none =>
    obtain ⟨h1, h2, h3⟩ := read_none hr
    rw [h1, h2, h3] at cR
    exact again_none s w hT (by omega) cR
  | some x =>
    obtain ⟨t, n⟩ := x
    obtain ⟨h1, h2, h3⟩ := read_some hr
    rw [h1, h2, h3] at cR
    obtain ⟨hv, hn1, hn2⟩ := readL_within _ _ _ hr
    rw [size_list] at hn2
    have hg := readL_grow _ _ _ hr
    rw [size_list] at hg
    have hz : (⟨t.toArray⟩ : ByteArray).size ≤ maxLen := by rw [mk_size]; unfold maxLen; omega
    have cC := fun w h => char_Check ⟨t.toArray⟩ w hz h
    have cB := fun w h => char_Bare ⟨t.toArray⟩ w hz h
    have cW := fun w h => char_Write ⟨t.toArray⟩ w hz h
    rw [show (⟨t.toArray⟩ : ByteArray).data.toList = t from rfl] at cC cB cW
    by_cases hc : checkL t = true
    · rw [hc] at cC
      by_cases hb : bareL t = true
      · rw [hb] at cB
        exact again_some s _ n true true w hT (by omega) hn1 hn2 cR cC cB (.inr ⟨rfl, rfl⟩)
      · have hb' : bareL t = false := by simpa using hb
        rw [hb'] at cB
        have hwq : writeL t = quoteL t := by unfold writeL; rw [if_pos hc, if_neg hb]
        rw [hwq] at cW
        have hql := quote_length t
        have hct := (check_parts hc).1
        have hq := read_quote t [] hv (by decide)
        rw [List.append_nil] at hq
        exact again_quoted s _ n (quoteL t) w hT (by omega) hn1 hn2 cR cC cB cW (cread_of (quoteL t) t (quoteL t).length (by omega) hq)
    · have hc' : checkL t = false := by simpa using hc
      rw [hc'] at cC
      refine again_some s _ n false _ w hT (by omega) hn1 hn2 cR cC cB (.inl ⟨rfl, ?_⟩)
      rw [mk_size]
      unfold checkL at hc'
      rw [hv, Bool.and_true, decide_eq_false_iff_not] at hc'
      omega
end Go.Proofs.YtpiiliecdkemhaaDoor
