/-
  The law WritePlain, walked.
-/
import Derived.Test.YtdjejbgokamjeaaDoorWriteV
import Derived.Test.YtdjejbgokamjeaaDoorWriteL
namespace Go.Proofs.YtdjejbgokamjeaaDoor
open Go.RowKit

set_option maxRecDepth 100000 in
set_option maxHeartbeats 4000000 in
theorem walk_WritePlain (T : Tm) (ad : Option Addr) (cap : Nat) (w : World) (hin : TmIn w T ad cap) (hT : AllT w) :
    Calls Tryd.prog 4 #[tmv T ad cap] w fun e w' => e = .returned (.bool true) ∧ Below w.heap.size w w' := by
  have HB0 := Lib.hid (fun o : Obj => (Below.refl _ w).alloc (Nat.le_refl _) o)
  have HT := Lib.hid hT
  have HFW := Lib.hid (fun (W : World) (h : Below w.heap.size w W) => ref_Few T ad cap 3000 W (by decide) (by decide) (hin.on h))
  have HC1 := Lib.hid (fun (hM : T.size ≤ 1000000) (W : World) (h : Below w.heap.size w W) => write_Text T ad cap W hM (hT.on h) (hin.on h))
  have HC2 := Lib.hid (fun (hM : T.size ≤ 1000000) (W : World) (h : Below w.heap.size w W) => ref_TermText T ad cap W hM (hT.on h).u (hin.on h))
  have HC3 := Lib.hid (fun (W : World) (h : Below w.heap.size w W) => ref_plain T.size T ad cap W (Nat.le_refl _) (hin.on h))
  have hpl : T.chk = 0 → T.plain = true → (⟨T.writeText.toArray⟩ : ByteArray) = ⟨(if T.chk = 0 then T.txt else []).toArray⟩ := fun hc hp => by
    unfold Tm.writeText
    rw [if_pos hc, if_pos hc, plain_txt T (chk_may hc) hp]
  have HP := Lib.hid hpl
  clear hin hT hpl
  generalize (⟨T.writeText.toArray⟩ : ByteArray) = tx at *
  generalize (⟨(if T.chk = 0 then T.txt else []).toArray⟩ : ByteArray) = tu at *
  generalize T.chk = ck at *
  generalize T.plain = pl at *
  unfold tmv at *
  go_enter Tryd.func4, Tryd.ntmps4
  go_wp2_with fail
  refine (write_live _ (HT.out.on (HB0.out _))).mono ?_
  rintro e w1 ⟨rfl, hb1⟩
  have hX1 := (hb1.block w.heap.size (by simp)).trans (heap_alloc_new w _)
  have hB1 := (HB0.out _).trans (hb1.mono (by simp))
  clear hb1
  obtain ⟨d0, d1, d2, d3⟩ := cellx4 hX1
  go_wp2_with fail
  refine (HFW.out _ hB1).mono ?_
  rintro e w2 ⟨rfl, hb2⟩
  have hX2 := (hb2.block w.heap.size (Array.getElem?_eq_some_iff.1 hX1).1).trans hX1
  have hB2 := hB1.trans (hb2.mono hB1.size)
  clear hb2 hB1 hX1 d0 d1 d2 d3
  obtain ⟨d0, d1, d2, d3⟩ := cellx4 hX2
  cases hf : decide ((T.size : Int) ≤ 3000) with
  | false =>
    clear hf
    go_wp2_with fail
    go_ret
    exact ⟨rfl, hB2⟩
  | true =>
    have hM : T.size ≤ 1000000 := by have := of_decide_eq_true hf; omega
    clear hf
    go_wp2_with fail
    refine (HC1.out hM _ hB2).mono ?_
    rintro e w3 ⟨rfl, hb3⟩
    have hX3 := (hb3.block w.heap.size (Array.getElem?_eq_some_iff.1 hX2).1).trans hX2
    have hB3 := hB2.trans (hb3.mono hB2.size)
    clear hb3 hB2 hX2 d0 d1 d2 d3
    obtain ⟨d0, d1, d2, d3⟩ := cellx4 hX3
    go_wp2_with fail
    refine (HC2.out hM _ hB3).mono ?_
    rintro e w4 ⟨rfl, hb4⟩
    have hX4 := (hb4.block w.heap.size (Array.getElem?_eq_some_iff.1 hX3).1).trans hX3
    have hB4 := hB3.trans (hb4.mono hB3.size)
    clear hb4 hB3 hX3 d0 d1 d2 d3
    obtain ⟨d0, d1, d2, d3⟩ := cellx4 hX4
    have ecc : (ck != ck) = false := by simp
    by_cases hc : ck = 0
    · have ec : (ck != 0) = false := by simpa using hc
      have HQ : Hid (pl = true → tx = tu) := Lib.hid (HP.out hc)
      clear hc HP
      go_wp2_with fail
      refine (HC3.out _ hB4).mono ?_
      rintro e w5 ⟨rfl, hb5⟩
      have hB5 := hB4.trans (hb5.mono hB4.size)
      clear hb5 hB4 hX4 d0 d1 d2 d3
      cases pl with
      | false =>
        go_wp2_with fail
        go_ret
        exact ⟨rfl, hB5⟩
      | true =>
        have es : (tx.toList == tu.toList) = true := by rw [HQ.out rfl]; simp
        go_wp2_with fail
        go_ret
        exact ⟨rfl, hB5⟩
    · have ec : (ck != 0) = true := by simpa using hc
      clear hc HP
      go_wp2_with fail
      go_ret
      exact ⟨rfl, hB4⟩
end Go.Proofs.YtdjejbgokamjeaaDoor
