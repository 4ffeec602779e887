/-
  The contracts of package char's own reader: takeInside, takeEscaped, hexValue, takeCoded, take.
-/
import Derived.Test.YtglaoacdenecfaaDoorCharDevG
import Derived.BigRegion
namespace Go.Proofs.YtglaoacdenecfaaDoor
open Go.RowKit

theorem scalar_small (c : Nat) (h : c < 55296) : Scalar c := .inl h
/-- A store into one of the state's cells. -/
theorem QMem.at {B q : Nat} {w : World} {a num : Int} {text : List UInt8} {dig : Nat} (h : QMem B w q a text num dig) (a' : Int) : QMem B (w.setCell ⟨q, 0, none⟩ (.int .i64 a')) q a' text num dig ∧ QKeep B w (w.setCell ⟨q, 0, none⟩ (.int .i64 a')) := by
  obtain ⟨hBq, v, hq, hown⟩ := h
  have hq2 := Lib.heap_setCell_same (i := 0) hq (.int .i64 a')
  exact ⟨⟨hBq, v, by simpa using hq2, hown.setCell hq _⟩, (QKeep.refl B w).setCell hBq hq _⟩
theorem QMem.number {B q : Nat} {w : World} {a num : Int} {text : List UInt8} {dig : Nat} (h : QMem B w q a text num dig) (m : Int) : QMem B (w.setCell ⟨q, 2, none⟩ (.int .i32 m)) q a text m dig ∧ QKeep B w (w.setCell ⟨q, 2, none⟩ (.int .i32 m)) := by
  obtain ⟨hBq, v, hq, hown⟩ := h
  have hq2 := Lib.heap_setCell_same (i := 2) hq (.int .i32 m)
  exact ⟨⟨hBq, v, by simpa using hq2, hown.setCell hq _⟩, (QKeep.refl B w).setCell hBq hq _⟩
theorem QMem.digits {B q : Nat} {w : World} {a num : Int} {text : List UInt8} {dig : Nat} (h : QMem B w q a text num dig) (d : Nat) : QMem B (w.setCell ⟨q, 3, none⟩ (.int .i64 (d : Nat))) q a text num d ∧ QKeep B w (w.setCell ⟨q, 3, none⟩ (.int .i64 (d : Nat))) := by
  obtain ⟨hBq, v, hq, hown⟩ := h
  have hq2 := Lib.heap_setCell_same (i := 3) hq (.int .i64 (d : Nat))
  exact ⟨⟨hBq, v, by simpa using hq2, hown.setCell hq _⟩, (QKeep.refl B w).setCell hBq hq _⟩
theorem QMem.drew {B q : Nat} {w : World} {a num : Int} {text : List UInt8} {dig : Nat} (h : QMem B w q a text num dig) : QMem B w.drew q a text num dig := h
theorem QMem.cells {B q : Nat} {w : World} {a num : Int} {text : List UInt8} {dig : Nat} (h : QMem B w q a text num dig) :
    w.cell? ⟨q, 0, none⟩ = some (.int .i64 a) ∧ w.cell? ⟨q, 2, none⟩ = some (.int .i32 num) ∧ w.cell? ⟨q, 3, none⟩ = some (.int .i64 (dig : Nat)) ∧ w.frozen? ⟨q, 0, none⟩ = false ∧ w.frozen? ⟨q, 2, none⟩ = false ∧ w.frozen? ⟨q, 3, none⟩ = false := by
  obtain ⟨_, v, hq, _⟩ := h
  obtain ⟨c0, _, c2, c3, f0, _, f2, f3⟩ := cells4 hq
  exact ⟨c0, c2, c3, f0, f2, f3⟩

set_option maxHeartbeats 2000000 in
theorem q_takeInside (B q : Nat) (w : World) (num ci : Int) (text : List UInt8) (dig c : Nat) (hci : ci = c) (hs : Scalar c) (h : QMem B w q 1 text num dig) (hlen : text.length ≤ 1000000) :
    Calls Tryd.prog 73 #[.pointer (some ⟨q, 0, none⟩), .int .i32 ci] w (QOut B q w (takeR 1 text num dig ci)) := by
  have hx : takeR 1 text num dig ci = (if ci = 39 then some (2, text, num, dig) else if ci = 92 then some (3, text, num, dig) else if ci < 32 then none else some (1, text ++ encL ci, num, dig)) := rfl
  rw [hx]
  clear hx
  have HL := Lib.hid (q_lay B q w 1 num ci text dig c hci hs h hlen)
  obtain ⟨c0, c2, c3, f0, f2, f3⟩ := h.cells
  have HM := Lib.hid h
  have h0 : 0 ≤ ci := by omega
  clear h hs hci c2 c3 f2 f3
  by_cases h1 : ci = 39
  · rw [if_pos h1]
    subst h1
    go_enter Tryd.func73, Tryd.ntmps73
    go_wp2_with fail
    go_ret
    exact ⟨rfl, HM.out.at 2⟩
  rw [if_neg h1]
  have e39 : (ci == 39) = false := by simpa using h1
  by_cases h2 : ci = 92
  · rw [if_pos h2]
    subst h2
    clear h1
    go_enter Tryd.func73, Tryd.ntmps73
    go_wp2_with fail
    go_ret
    exact ⟨rfl, HM.out.at 3⟩
  rw [if_neg h2]
  have e92 : (ci == 92) = false := by simpa using h2
  by_cases h3 : ci < 32
  · rw [if_pos h3]
    clear h1 h2
    go_enter Tryd.func73, Tryd.ntmps73
    go_wp2_with fail
    go_ret
    exact ⟨rfl, QKeep.refl _ _⟩
  rw [if_neg h3]
  have h4 : 32 ≤ ci := by omega
  clear h1 h2 h3
  go_enter Tryd.func73, Tryd.ntmps73
  go_wp2_with fail
  refine HL.out.mono ?_; rintro e w1 ⟨rfl, hm, hk⟩
  go_wp2_with fail
  go_ret
  exact ⟨rfl, hm, hk⟩

set_option maxHeartbeats 2000000 in
theorem q_takeEscaped (B q : Nat) (w : World) (num ci : Int) (text : List UInt8) (dig c : Nat) (hci : ci = c) (hs : Scalar c) (h : QMem B w q 3 text num dig) (hlen : text.length ≤ 1000000) :
    Calls Tryd.prog 75 #[.pointer (some ⟨q, 0, none⟩), .int .i32 ci] w (QOut B q w (takeR 3 text num dig ci)) := by
  have hx : takeR 3 text num dig ci = (if ci = 92 ∨ ci = 39 then some (1, text ++ encL ci, num, dig) else if ci = 110 then some (1, text ++ encL 10, num, dig) else if ci = 116 then some (1, text ++ encL 9, num, dig) else if ci = 120 then some (4, text, 0, 0) else none) := rfl
  rw [hx]
  clear hx
  have HL := Lib.hid (q_lay B q w 3 num ci text dig c hci hs h hlen)
  have HN := Lib.hid (q_lay B q w 3 num 10 text dig 10 rfl (scalar_small 10 (by decide)) h hlen)
  have HT := Lib.hid (q_lay B q w 3 num 9 text dig 9 rfl (scalar_small 9 (by decide)) h hlen)
  obtain ⟨c0, c2, c3, f0, f2, f3⟩ := h.cells
  have HM := Lib.hid h
  clear h hs hci
  by_cases h1 : ci = 92 ∨ ci = 39
  · rw [if_pos h1]
    clear HN HT
    rcases h1 with rfl | rfl
    all_goals
      go_enter Tryd.func75, Tryd.ntmps75
      go_wp2_with fail
      refine HL.out.mono ?_; rintro e w1 ⟨rfl, hm, hk⟩
      go_wp2_with fail
      go_ret
      exact ⟨rfl, hm, hk⟩
  rw [if_neg h1]
  have e92 : (ci == 92) = false := by simp; omega
  have e39 : (ci == 39) = false := by simp; omega
  clear h1 HL
  by_cases h2 : ci = 110
  · rw [if_pos h2]
    subst h2
    go_enter Tryd.func75, Tryd.ntmps75
    go_wp2_with fail
    refine HN.out.mono ?_; rintro e w1 ⟨rfl, hm, hk⟩
    go_wp2_with fail
    go_ret
    exact ⟨rfl, hm, hk⟩
  rw [if_neg h2]
  by_cases h3 : ci = 116
  · rw [if_pos h3]
    subst h3
    clear h2
    go_enter Tryd.func75, Tryd.ntmps75
    go_wp2_with fail
    refine HT.out.mono ?_; rintro e w1 ⟨rfl, hm, hk⟩
    go_wp2_with fail
    go_ret
    exact ⟨rfl, hm, hk⟩
  rw [if_neg h3]
  by_cases h4 : ci = 120
  · rw [if_pos h4]
    subst h4
    clear h2 h3
    go_enter Tryd.func75, Tryd.ntmps75
    go_wp2_with fail
    go_ret
    have m1 := HM.out.at 4
    have m2 := m1.1.number 0
    have m3 := m2.1.digits 0
    exact ⟨rfl, m3.1, (m1.2.trans m2.2).trans m3.2⟩
  rw [if_neg h4]
  have e110 : (ci == 110) = false := by simpa using h2
  have e116 : (ci == 116) = false := by simpa using h3
  have e120 : (ci == 120) = false := by simpa using h4
  clear h2 h3 h4
  go_enter Tryd.func75, Tryd.ntmps75
  go_wp2_with fail
  go_ret
  exact ⟨rfl, QKeep.refl _ _⟩

/-- hexValue's two answers. -/
def hexOk (c : Int) : Bool := decide (0 ≤ hexC c)
def hexN (c : Int) : Int := if 0 ≤ hexC c then hexC c else 0

set_option maxHeartbeats 2000000 in
theorem dev_hexValue (c : Int) (w : World) :
    Calls Tryd.prog 83 #[.int .i32 c] w fun e w' => e = .returned (.tuple #[.int .i32 (hexN c), .bool (hexOk c)]) ∧ w = w' := by
  unfold hexN hexOk hexC
  by_cases h1 : 48 ≤ c ∧ c ≤ 57
  · rw [if_pos h1, if_pos (by omega), decide_eq_true (by omega)]
    obtain ⟨h1a, h1b⟩ := h1
    go_enter Tryd.func83, Tryd.ntmps83
    go_wp2_with fail
    go_ret2
    exact ⟨rfl, rfl⟩
  rw [if_neg h1]
  by_cases h2 : 97 ≤ c ∧ c ≤ 102
  · rw [if_pos h2, if_pos (by omega), decide_eq_true (by omega), show c - 87 = c - 97 + 10 by omega]
    obtain ⟨h2a, h2b⟩ := h2
    clear h1
    go_enter Tryd.func83, Tryd.ntmps83
    go_wp2_with fail
    go_ret2
    exact ⟨rfl, rfl⟩
  rw [if_neg h2]
  by_cases h3 : 65 ≤ c ∧ c ≤ 70
  · rw [if_pos h3, if_pos (by omega), decide_eq_true (by omega), show c - 55 = c - 65 + 10 by omega]
    obtain ⟨h3a, h3b⟩ := h3
    clear h1 h2
    go_enter Tryd.func83, Tryd.ntmps83
    go_wp2_with fail
    go_ret2
    exact ⟨rfl, rfl⟩
  rw [if_neg h3, if_neg (by decide), decide_eq_false (by decide)]
  have hr : c < 48 ∨ (58 ≤ c ∧ c < 65) ∨ (71 ≤ c ∧ c < 97) ∨ 103 ≤ c := by omega
  clear h1 h2 h3
  rcases hr with hr | ⟨hr, hr2⟩ | ⟨hr, hr2⟩ | hr
  all_goals
    go_enter Tryd.func83, Tryd.ntmps83
    go_wp2_with fail
    go_ret2
    exact ⟨rfl, rfl⟩
end Go.Proofs.YtglaoacdenecfaaDoor
