/-
  The law WriteTexts, walked.
-/
import Derived.Test.YtdjejbgokamjeaaDoorWriteT
import Derived.Test.YtdjejbgokamjeaaDoorWriteL
namespace Go.Proofs.YtdjejbgokamjeaaDoor
open Go.RowKit

set_option maxRecDepth 100000 in
set_option maxHeartbeats 4000000 in
theorem walk_WriteTexts (T : Tm) (ad : Option Addr) (cap : Nat) (w : World) (hin : TmIn w T ad cap) (hT : AllT w) :
    Calls Tryd.prog 3 #[tmv T ad cap] w fun e w' => e = .returned (.bool true) ∧ Below w.heap.size w w' := by
  have HB0 := Lib.hid (fun o : Obj => (Below.refl _ w).alloc (Nat.le_refl _) o)
  have HT := Lib.hid hT
  have HFW := Lib.hid (fun (W : World) (h : Below w.heap.size w W) => ref_Few T ad cap 3000 W (by decide) (by decide) (hin.on h))
  have HC1 := Lib.hid (fun (hM : T.size ≤ 1000000) (W : World) (h : Below w.heap.size w W) => write_Text T ad cap W hM (hT.on h) (hin.on h))
  have HC2 := Lib.hid (fun (hM : T.size ≤ 1000000) (W : World) (h : Below w.heap.size w W) => rw_Text T ad cap W hM (hT.on h).u (hin.on h))
  have HC3 := Lib.hid (fun (hM : T.size ≤ 1000000) (W : World) (h : Below w.heap.size w W) => write_Clause T ad cap W hM (hT.on h) (hin.on h))
  have HC4 := Lib.hid (fun (hM : T.size ≤ 1000000) (W : World) (h : Below w.heap.size w W) => rw_Clause T ad cap W hM (hT.on h).u (hin.on h))
  clear hin hT
  generalize (⟨T.writeText.toArray⟩ : ByteArray) = tx at *
  generalize (⟨T.writeClause.toArray⟩ : ByteArray) = tc at *
  generalize T.chk = ck at *
  unfold tmv at *
  go_enter Tryd.func3, Tryd.ntmps3
  go_wp2_with fail
  refine (write_live _ (HT.out.on (HB0.out _))).mono ?_
  rintro e w1 ⟨rfl, hb1⟩
  have hX1 := (hb1.block w.heap.size (by simp)).trans (heap_alloc_new w _)
  have hB1 := (HB0.out _).trans (hb1.mono (by simp))
  clear hb1
  obtain ⟨d0, d1, d2, d3⟩ := cellx4 hX1
  go_wp2_with fail
  refine (HFW.out _ hB1).mono ?_
  rintro e w2 ⟨rfl, hb2⟩
  have hX2 := (hb2.block w.heap.size (Array.getElem?_eq_some_iff.1 hX1).1).trans hX1
  have hB2 := hB1.trans (hb2.mono hB1.size)
  clear hb2 hB1 hX1 d0 d1 d2 d3
  obtain ⟨d0, d1, d2, d3⟩ := cellx4 hX2
  cases hf : decide ((T.size : Int) ≤ 3000) with
  | false =>
    clear hf
    go_wp2_with fail
    go_ret
    exact ⟨rfl, hB2⟩
  | true =>
    have hM : T.size ≤ 1000000 := by have := of_decide_eq_true hf; omega
    clear hf
    go_wp2_with fail
    refine (HC1.out hM _ hB2).mono ?_
    rintro e w3 ⟨rfl, hb3⟩
    have hX3 := (hb3.block w.heap.size (Array.getElem?_eq_some_iff.1 hX2).1).trans hX2
    have hB3 := hB2.trans (hb3.mono hB2.size)
    clear hb3 hB2 hX2 d0 d1 d2 d3
    obtain ⟨d0, d1, d2, d3⟩ := cellx4 hX3
    go_wp2_with fail
    refine (HC2.out hM _ hB3).mono ?_
    rintro e w4 ⟨rfl, hb4⟩
    have hX4 := (hb4.block w.heap.size (Array.getElem?_eq_some_iff.1 hX3).1).trans hX3
    have hB4 := hB3.trans (hb4.mono hB3.size)
    clear hb4 hB3 hX3 d0 d1 d2 d3
    obtain ⟨d0, d1, d2, d3⟩ := cellx4 hX4
    go_wp2_with fail
    refine (HC3.out hM _ hB4).mono ?_
    rintro e w5 ⟨rfl, hb5⟩
    have hX5 := (hb5.block w.heap.size (Array.getElem?_eq_some_iff.1 hX4).1).trans hX4
    have hB5 := hB4.trans (hb5.mono hB4.size)
    clear hb5 hB4 hX4 d0 d1 d2 d3
    obtain ⟨d0, d1, d2, d3⟩ := cellx4 hX5
    go_wp2_with fail
    refine (HC4.out hM _ hB5).mono ?_
    rintro e w6 ⟨rfl, hb6⟩
    have hB6 := hB5.trans (hb6.mono hB5.size)
    clear hb6 hB5 hX5 d0 d1 d2 d3
    go_wp2_with fail
    go_ret
    exact ⟨rfl, hB6⟩
end Go.Proofs.YtdjejbgokamjeaaDoor
