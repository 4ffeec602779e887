/-
  The contracts of package char's own reader: takeCoded, take.
-/
import Derived.Test.YtglaoacdenecfaaDoorCharDevH
import Derived.RegionTactic
namespace Go.Proofs.YtglaoacdenecfaaDoor
open Go.RowKit

theorem takeR4 (text : List UInt8) (num : Int) (dig : Nat) (c : Int) : takeR 4 text num dig c = (if c = 92 then (if 0 < dig ∧ Lib.validRune num = true then some (1, text ++ encL num, num, dig) else none) else if hexC c < 0 ∨ dig = 6 then none else some (4, text, num * 16 + hexC c, dig + 1)) := rfl

set_option maxHeartbeats 2000000 in
theorem q_coded_end (B q : Nat) (w : World) (num : Int) (text : List UInt8) (dig : Nat) (hn0 : 0 ≤ num) (hd6 : dig ≤ 6) (h : QMem B w q 4 text num dig) (hlen : text.length ≤ 1000000) :
    Calls Tryd.prog 76 #[.pointer (some ⟨q, 0, none⟩), .int .i32 92] w (QOut B q w (if 0 < dig ∧ Lib.validRune num = true then some (1, text ++ encL num, num, dig) else none)) := by
  have HV := Lib.hid (Tryd.utf8_ValidRune num w)
  obtain ⟨c0, c2, c3, f0, f2, f3⟩ := h.cells
  by_cases hd : 0 < dig
  · have hd1 : (0 : Int) < (dig : Int) := by omega
    by_cases hv : Lib.validRune num = true
    · rw [if_pos ⟨hd, hv⟩]
      have hV := HV.out
      rw [hv] at hV
      have HV2 := Lib.hid hV
      have hsc : Scalar num.toNat := by
        unfold Lib.validRune at hv
        rw [decide_eq_true_eq] at hv
        unfold Scalar
        omega
      have HL := Lib.hid (q_lay B q w 4 num num text dig num.toNat (by omega) hsc h hlen)
      clear h hsc hv hV HV hd
      go_enter Tryd.func76, Tryd.ntmps76
      go_wp2_with fail
      refine HV2.out.mono ?_; rintro e w' ⟨rfl, rfl⟩
      go_wp2_with fail
      refine HL.out.mono ?_; rintro e w1 ⟨rfl, hm, hk⟩
      go_wp2_with fail
      go_ret
      exact ⟨rfl, hm, hk⟩
    · rw [if_neg (fun e => hv e.2)]
      have hV := HV.out
      rw [show Lib.validRune num = false by simpa using hv] at hV
      have HV2 := Lib.hid hV
      clear h hv hV HV hd
      go_enter Tryd.func76, Tryd.ntmps76
      go_wp2_with fail
      refine HV2.out.mono ?_; rintro e w' ⟨rfl, rfl⟩
      go_wp2_with fail
      go_ret
      exact ⟨rfl, QKeep.refl _ _⟩
  · rw [if_neg (fun e => hd e.1)]
    obtain rfl : dig = 0 := by omega
    clear h HV hd
    go_enter Tryd.func76, Tryd.ntmps76
    go_wp2_with fail
    go_ret
    exact ⟨rfl, QKeep.refl _ _⟩

set_option maxRecDepth 100000 in
set_option maxHeartbeats 4000000 in
theorem q_takeCoded (B q : Nat) (w : World) (num ci : Int) (text : List UInt8) (dig : Nat) (hn0 : 0 ≤ num) (hd6 : dig ≤ 6) (hn5 : dig ≠ 6 → num < 1048576) (h : QMem B w q 4 text num dig) (hlen : text.length ≤ 1000000) :
    Calls Tryd.prog 76 #[.pointer (some ⟨q, 0, none⟩), .int .i32 ci] w (QOut B q w (takeR 4 text num dig ci)) := by
  rw [takeR4]
  by_cases h1 : ci = 92
  · rw [if_pos h1]
    subst h1
    exact q_coded_end B q w num text dig hn0 hd6 h hlen
  rw [if_neg h1]
  have e92 : (ci == 92) = false := by simpa using h1
  have hX := fun w => dev_hexValue ci w
  obtain ⟨c0, c2, c3, f0, f2, f3⟩ := h.cells
  have hrg := hexC_range ci
  have HM := Lib.hid h
  clear h h1 hlen
  by_cases h2 : hexC ci < 0
  · rw [if_pos (.inl h2)]
    rw [show hexOk ci = false from decide_eq_false (by omega)] at hX
    have HX := Lib.hid hX
    generalize hexN ci = m at *
    clear hX h2 hrg hn5
    go_enter Tryd.func76, Tryd.ntmps76
    go_wp2_with fail
    refine (HX.out _).mono ?_; rintro e w' ⟨rfl, rfl⟩
    go_wp2_with fail
    go_ret
    exact ⟨rfl, QKeep.refl _ _⟩
  rw [show hexOk ci = true from decide_eq_true (by omega), show hexN ci = hexC ci from if_pos (by omega)] at hX
  have hm0 : 0 ≤ hexC ci := by omega
  have hm1 : hexC ci ≤ 15 := hrg.2
  have HX := Lib.hid hX
  clear hX hrg
  by_cases h6 : dig = 6
  · rw [if_pos (.inr h6)]
    subst h6
    clear h2 hn5
    generalize hexC ci = m at *
    go_enter Tryd.func76, Tryd.ntmps76
    go_wp2_with fail
    refine (HX.out _).mono ?_; rintro e w' ⟨rfl, rfl⟩
    go_wp2_with fail
    go_ret
    exact ⟨rfl, QKeep.refl _ _⟩
  rw [if_neg (by omega)]
  have hn5' := hn5 h6
  have e6 : ((dig : Int) == 6) = false := by simp; omega
  clear h2 hn5
  generalize hexC ci = m at *
  go_enter Tryd.func76, Tryd.ntmps76
  go_wp2_with fail
  refine (HX.out _).mono ?_; rintro e w' ⟨rfl, rfl⟩
  go_wp2_with fail
  go_region
  all_goals
    go_wp2_with fail
    go_ret
    have m1 := HM.out.drew.number (num * 16 + m)
    have m2 := m1.1.digits (dig + 1)
    exact ⟨rfl, m2.1, ((QKeep.refl B w).drew.trans m1.2).trans m2.2⟩

set_option maxHeartbeats 2000000 in
theorem q_take (B q : Nat) (w : World) (a num ci : Int) (text : List UInt8) (dig c : Nat) (hci : ci = c) (hs : Scalar c) (ha : 0 ≤ a ∧ a ≤ 4 ∧ (a = 4 → 0 ≤ num ∧ num < 16777216 ∧ dig ≤ 6 ∧ (dig ≠ 6 → num < 1048576))) (h : QMem B w q a text num dig) (hlen : text.length ≤ 1000000) :
    Calls Tryd.prog 64 #[.pointer (some ⟨q, 0, none⟩), .int .i32 ci] w (QOut B q w (takeR a text num dig ci)) := by
  obtain ⟨ha0, ha1, ha4⟩ := ha
  have hac : a = 0 ∨ a = 1 ∨ a = 2 ∨ a = 3 ∨ a = 4 := by omega
  obtain ⟨c0, c2, c3, f0, f2, f3⟩ := h.cells
  clear ha0 ha1
  rcases hac with rfl | rfl | rfl | rfl | rfl
  · rw [show takeR 0 text num dig ci = (if ci = 39 then some (1, text, num, dig) else none) from rfl]
    have HM := Lib.hid h
    clear h hs hci ha4
    by_cases h1 : ci = 39
    · rw [if_pos h1]
      subst h1
      go_enter Tryd.func64, Tryd.ntmps64
      go_wp2_with fail
      go_ret
      exact ⟨rfl, HM.out.at 1⟩
    · rw [if_neg h1]
      have e1 : (ci == 39) = false := by simpa using h1
      clear h1
      go_enter Tryd.func64, Tryd.ntmps64
      go_wp2_with fail
      go_ret
      exact ⟨rfl, (HM.out.at 1).2⟩
  · have HC := Lib.hid (q_takeInside B q w num ci text dig c hci hs h hlen)
    generalize takeR 1 text num dig ci = o at *
    clear h hs hci ha4
    go_enter Tryd.func64, Tryd.ntmps64
    go_wp2_with fail
    refine HC.out.mono ?_; intro e w1 ho
    cases o with
    | none =>
      obtain ⟨rfl, hk⟩ := ho
      go_wp2_with fail
      go_ret
      exact ⟨rfl, hk⟩
    | some y =>
      obtain ⟨rfl, hm, hk⟩ := ho
      go_wp2_with fail
      go_ret
      exact ⟨rfl, hm, hk⟩
  · rw [show takeR 2 text num dig ci = (if ci = 39 then some (1, text ++ encL ci, num, dig) else none) from rfl]
    have HL := Lib.hid (q_lay B q w 2 num ci text dig c hci hs h hlen)
    clear h hs hci ha4
    by_cases h1 : ci = 39
    · rw [if_pos h1]
      subst h1
      go_enter Tryd.func64, Tryd.ntmps64
      go_wp2_with fail
      refine HL.out.mono ?_; rintro e w1 ⟨rfl, hm, hk⟩
      go_wp2_with fail
      go_ret
      exact ⟨rfl, hm, hk⟩
    · rw [if_neg h1]
      have e1 : (ci == 39) = false := by simpa using h1
      clear h1
      go_enter Tryd.func64, Tryd.ntmps64
      go_wp2_with fail
      go_ret
      exact ⟨rfl, QKeep.refl _ _⟩
  · have HC := Lib.hid (q_takeEscaped B q w num ci text dig c hci hs h hlen)
    generalize takeR 3 text num dig ci = o at *
    clear h hs hci ha4
    go_enter Tryd.func64, Tryd.ntmps64
    go_wp2_with fail
    refine HC.out.mono ?_; intro e w1 ho
    cases o with
    | none =>
      obtain ⟨rfl, hk⟩ := ho
      go_wp2_with fail
      go_ret
      exact ⟨rfl, hk⟩
    | some y =>
      obtain ⟨rfl, hm, hk⟩ := ho
      go_wp2_with fail
      go_ret
      exact ⟨rfl, hm, hk⟩
  · obtain ⟨hn0, hn1, hd6, hn5⟩ := ha4 rfl
    have HC := Lib.hid (q_takeCoded B q w num ci text dig hn0 hd6 hn5 h hlen)
    generalize takeR 4 text num dig ci = o at *
    clear h hs hci ha4 hn5
    go_enter Tryd.func64, Tryd.ntmps64
    go_wp2_with fail
    refine HC.out.mono ?_; intro e w1 ho
    cases o with
    | none =>
      obtain ⟨rfl, hk⟩ := ho
      go_wp2_with fail
      go_ret
      exact ⟨rfl, hk⟩
    | some y =>
      obtain ⟨rfl, hm, hk⟩ := ho
      go_wp2_with fail
      go_ret
      exact ⟨rfl, hm, hk⟩

set_option maxHeartbeats 2000000 in
theorem dev_broken (s : ByteArray) (ci : Int) (c n : Nat) (hci : ci = c) (w : World) (hT : Tabs w) (hd : Lib.decodeGo s = (c, n)) :
    Calls Tryd.prog 63 #[.string s, .int .i32 ci] w fun e w' => e = .returned (.bool (decide (c = 65533 ∧ n = 1))) ∧ Below w.heap.size w w' := by
  have cD := Tryd.utf8_DecodeRuneInString s w hT.1
  rw [hd] at cD
  have HD := Lib.hid cD
  clear cD hT hd
  by_cases h1 : c = 65533
  · by_cases h2 : n = 1
    · rw [decide_eq_true ⟨h1, h2⟩]
      have e1 : (ci != 65533) = false := by simp; omega
      have e2 : ((n : Int) == 1) = true := by simp; omega
      clear hci h1 h2
      go_enter Tryd.func63, Tryd.ntmps63
      go_wp2_with fail
      refine HD.out.mono ?_; rintro e w1 ⟨rfl, hb⟩
      go_wp2_with fail
      go_ret
      exact ⟨rfl, hb⟩
    · rw [decide_eq_false (fun h => h2 h.2)]
      have e1 : (ci != 65533) = false := by simp; omega
      have e2 : ((n : Int) == 1) = false := by simp; omega
      clear hci h1 h2
      go_enter Tryd.func63, Tryd.ntmps63
      go_wp2_with fail
      refine HD.out.mono ?_; rintro e w1 ⟨rfl, hb⟩
      go_wp2_with fail
      go_ret
      exact ⟨rfl, hb⟩
  · rw [decide_eq_false (fun h => h1 h.1)]
    have e1 : (ci != 65533) = true := by simp; omega
    clear hci h1 HD
    go_enter Tryd.func63, Tryd.ntmps63
    go_wp2_with fail
    go_ret
    exact ⟨rfl, Below.refl _ _⟩
end Go.Proofs.YtglaoacdenecfaaDoor
