/-
  The contracts of package char's own reader: the state in memory, lay.
-/
import Derived.Test.YtglaoacdenecfaaDoorCharDevDF
import Derived.Test.YtglaoacdenecfaaDoorCharQuotM
import Derived.Test.YtglaoacdenecfaaDoorShelf2
import Derived.Lib.BufferMore
namespace Go.Proofs.YtglaoacdenecfaaDoor
open Go.RowKit

theorem runeCells_encL {c : Nat} (h : Scalar c) : Lib.runeCells (c : Int) = byc (encL (c : Int)) := by
  have hu := h
  unfold Scalar at hu
  unfold Lib.runeCells byc
  rw [encL_of h]
  by_cases h1 : c < 128
  · rw [if_pos h1, Lib.encodeRuneZ_one (by omega) (by omega)]
    simp only [List.map_cons, List.map_nil]
    rw [toNat_of c (by omega)]
  rw [if_neg h1]
  by_cases h2 : c < 2048
  · rw [if_pos h2, Lib.encodeRuneZ_two (by omega) (by omega)]
    simp only [List.map_cons, List.map_nil]
    rw [toNat_of _ (by omega), toNat_of _ (by omega)]
    rfl
  rw [if_neg h2]
  by_cases h3 : c < 65536
  · rw [if_pos h3, Lib.encodeRuneZ_three (by omega)]
    simp only [List.map_cons, List.map_nil]
    rw [toNat_of _ (by omega), toNat_of _ (by omega), toNat_of _ (by omega)]
    rfl
  · rw [if_neg h3, Lib.encodeRuneZ_four (by omega) (by omega)]
    simp only [List.map_cons, List.map_nil]
    rw [toNat_of _ (by omega), toNat_of _ (by omega), toNat_of _ (by omega), toNat_of _ (by omega)]
    rfl

/-- The reader's state in memory. -/
def QMem (B : Nat) (w : World) (q : Nat) (a : Int) (text : List UInt8) (num : Int) (dig : Nat) : Prop :=
  B ≤ q ∧ ∃ v, w.heap[q]? = some (.cells #[.int .i64 a, v, .int .i32 num, .int .i64 (dig : Nat)] 79 (0, 0)) ∧ OwnBytes B w v text
/-- What a step of the reader leaves as it was. -/
def QKeep (B : Nat) (w w' : World) : Prop := Below B w w' ∧ ∀ (k : Nat) (s : ByteArray) (pos : Nat), w.heap[k]? = some (.stringIter s pos) → w'.heap[k]? = some (.stringIter s pos)
theorem QKeep.refl (B : Nat) (w : World) : QKeep B w w := ⟨Below.refl _ _, fun _ _ _ h => h⟩
theorem QKeep.trans {B : Nat} {a b c : World} (h : QKeep B a b) (k : QKeep B b c) : QKeep B a c := ⟨h.1.trans k.1, fun i s p hi => k.2 i s p (h.2 i s p hi)⟩
theorem QKeep.setCell {B : Nat} {w w' : World} (h : QKeep B w w') {q i : Nat} {C : Array Value} {t : TypeId} {fz : Nat × Nat} (hB : B ≤ q) (hq : w'.heap[q]? = some (.cells C t fz)) (u : Value) : QKeep B w (w'.setCell ⟨q, i, none⟩ u) := by
  refine ⟨h.1.setCell hB u, fun k s pos hk => ?_⟩
  have h1 := h.2 k s pos hk
  have hne : k ≠ q := by rintro rfl; rw [h1] at hq; cases hq
  rw [Below.heap_setCell _ _ _ _ hne]
  exact h1
theorem QKeep.drew {B : Nat} {w w' : World} (h : QKeep B w w') : QKeep B w w'.drew := ⟨h.1.drew, h.2⟩
theorem OwnBytes.not_q {B : Nat} {w : World} {v : Value} {l : List UInt8} (h : OwnBytes B w v l) {q : Nat} {C : Array Value} {fz : Nat × Nat} (hq : w.heap[q]? = some (.cells C 79 fz)) : some q ≠ v.ownBlock := by
  intro e
  obtain ⟨_, h0 | ⟨g, cap, cur, hv, _, hh, _⟩⟩ := h
  · rw [h0.1] at e; cases e
  · rw [hv] at e
    have : q = g := Option.some.inj e
    subst this
    rw [hq] at hh
    injection hh with hh
    injection hh with _ h2 _
    exact absurd h2 (by decide)
theorem OwnBytes.setCell {B : Nat} {w : World} {v : Value} {l : List UInt8} (h : OwnBytes B w v l) {q i : Nat} {C : Array Value} {fz : Nat × Nat} (hq : w.heap[q]? = some (.cells C 79 fz)) (u : Value) : OwnBytes B (w.setCell ⟨q, i, none⟩ u) v l := by
  have hne := h.not_q hq
  obtain ⟨hl, h0 | ⟨g, cap, cur, hv, hbg, hh, r⟩⟩ := h
  · exact ⟨hl, .inl h0⟩
  · refine ⟨hl, .inr ⟨g, cap, cur, hv, hbg, ?_, r⟩⟩
    rw [Below.heap_setCell _ _ _ _ (show g ≠ q from fun e => hne (by rw [hv, e]; rfl))]
    exact hh
theorem OwnBytes.slice {B : Nat} {w : World} {v : Value} {l : List UInt8} (h : OwnBytes B w v l) : ∃ ad n cap, v = .slice ad n cap := by
  obtain ⟨_, h0 | ⟨g, cap, cur, hv, _⟩⟩ := h
  · exact ⟨_, _, _, h0.1⟩
  · exact ⟨_, _, _, hv⟩
theorem cells4 {w : World} {q : Nat} {a b c d : Value} {t : TypeId} (h : w.heap[q]? = some (.cells #[a, b, c, d] t (0, 0))) :
    w.cell? ⟨q, 0, none⟩ = some a ∧ w.cell? ⟨q, 1, none⟩ = some b ∧ w.cell? ⟨q, 2, none⟩ = some c ∧ w.cell? ⟨q, 3, none⟩ = some d ∧ w.frozen? ⟨q, 0, none⟩ = false ∧ w.frozen? ⟨q, 1, none⟩ = false ∧ w.frozen? ⟨q, 2, none⟩ = false ∧ w.frozen? ⟨q, 3, none⟩ = false := by
  simp [World.cell?, World.frozen?, h]
/-- What a step of the reader comes to. -/
def QOut (B q : Nat) (w : World) (o : Option (Int × List UInt8 × Int × Nat)) (e : Ending) (w' : World) : Prop :=
  match o with
  | none => e = .returned (.bool false) ∧ QKeep B w w'
  | some (a, t, m, d) => e = .returned (.bool true) ∧ QMem B w' q a t m d ∧ QKeep B w w'

set_option maxHeartbeats 2000000 in
theorem q_lay (B q : Nat) (w : World) (a num ci : Int) (text : List UInt8) (dig c : Nat) (hci : ci = c) (hs : Scalar c) (h : QMem B w q a text num dig) (hlen : text.length ≤ 1000000) :
    Calls Tryd.prog 74 #[.pointer (some ⟨q, 0, none⟩), .int .i32 ci] w (QOut B q w (some (1, text ++ encL ci, num, dig))) := by
  obtain ⟨hBq, v, hq, hown⟩ := h
  obtain ⟨ad, ln, cap, rfl⟩ := hown.slice
  obtain ⟨c0, c1, c2, c3, f0, f1, f2, f3⟩ := cells4 hq
  have hqs : q < w.heap.size := (Array.getElem?_eq_some_iff.1 hq).1
  have hrc := runeCells_encL hs
  rw [← hci] at hrc
  have hsc := hs
  unfold Scalar at hsc
  have cA := Tryd.utf8_AppendRune_plain B (.slice ad ln cap) text.length (byc text) ci (by omega) (by omega) w hown (by omega) (by omega)
  rw [hrc] at cA
  have HA := Lib.hid cA
  have HQ := Lib.hid hq
  clear cA hrc hci hs hsc hq
  generalize encL ci = x at *
  go_enter Tryd.func74, Tryd.ntmps74
  go_wp2_with fail
  refine HA.out.mono ?_; rintro e w1 ⟨v', rfl, hown1, o, hg⟩
  have hq0 : (w.alloc o).heap[q]? = _ := (Below.heap_alloc w o q hqs).trans HQ.out
  have hownA : OwnBytes B (w.alloc o) (.slice ad ln cap) text := World.ownsRow.alloc hown o
  have hq1 : w1.heap[q]? = some (.cells #[.int .i64 a, .slice ad ln cap, .int .i32 num, .int .i64 (dig : Nat)] 79 (0, 0)) := by
    rw [hg.block q (Array.getElem?_eq_some_iff.1 hq0).1 (hownA.not_q hq0)]; exact hq0
  have hown2 : OwnBytes B w1 v' (text ++ x) := by
    unfold OwnBytes
    rw [List.length_append, byc_append, ← byc_length x]
    exact hown1
  have hkeep : QKeep B w w1 := by
    refine ⟨((Below.refl B w).alloc (by omega) o).grown hg (by simp; omega) (fun k hk => (World.ownsRow.lt hown k hk).1), fun k s pos hk => ?_⟩
    have hk1 : (w.alloc o).heap[k]? = some (.stringIter s pos) := (Below.heap_alloc w o k (Array.getElem?_eq_some_iff.1 hk).1).trans hk
    exact grown_iter hownA hk1 hg
  obtain ⟨ad', ln', cap', rfl⟩ := hown2.slice
  obtain ⟨g0, g1, g2, g3, k0, k1, k2, k3⟩ := cells4 hq1
  have HQ1 := Lib.hid hq1
  have HK := Lib.hid hkeep
  have HO := Lib.hid hown2
  clear hq0 hownA hown1 hg hown c0 c1 c2 c3 f0 f1 f2 f3 hq1 hkeep hown2 g2 g3 k2 k3
  go_wp2_with fail
  go_ret
  have hq2 := Lib.heap_setCell_same (i := 1) HQ1.out (.slice ad' ln' cap')
  have hq3 := Lib.heap_setCell_same (i := 0) hq2 (.int .i64 1)
  exact ⟨rfl, ⟨hBq, .slice ad' ln' cap', by simpa using hq3, (HO.out.setCell HQ1.out _).setCell hq2 _⟩, (HK.out.setCell hBq HQ1.out _).setCell hBq hq2 _⟩
end Go.Proofs.YtglaoacdenecfaaDoor
