/-
  Package write's within: every term's text within a priority.
-/
import Derived.Test.YtdjejbgokamjeaaDoorWriteG
namespace Go.Proofs.YtdjejbgokamjeaaDoor
open Go.RowKit

theorem Tm.wr_txt (T : Tm) (p : Int) : T.wr.txt p = textK T.kind T.name.data.toList T.n (T.args.map Tm.wr) p := by rw [Tm.wr_eq, Tm.wrs_map]; rfl
theorem may_kind {T : Tm} (h : T.may = true) (h1 : T.kind ≠ 1) (h3 : T.kind ≠ 3) (h2 : T.kind ≠ 2) : T.kind = 4 := by
  rw [Tm.may_eq] at h
  unfold mayK at h
  rw [if_neg h1, if_neg h2, if_neg h3] at h
  by_cases h4 : T.kind = 4
  · exact h4
  · rw [if_neg h4] at h; cases h

set_option maxRecDepth 100000 in
set_option maxHeartbeats 4000000 in
theorem wr_within (m : Nat) : WrWithin m := by
  induction m with
  | zero => intro T ad cap w B b l p h; have := T.size_pos; omega
  | succ m ih =>
    intro T ad cap w B b l p hm hM hmay hin hB hT hbw hl
    have hlt := hbw.lt
    have hps := T.size_pos
    have hil := Lib.itoa_length_le T.n hin.n.1 hin.n.2
    have hwl := write_len T.name.data.toList
    have HB0 := Lib.hid (fun o : Obj => (Below.refl B w).alloc hB o)
    have HA0 := Lib.hid (fun o : Obj => (Lib.OthersKept.refl 5 (some b) w).alloc o)
    have HT := Lib.hid hT
    have HBW := Lib.hid hbw
    have HNT := Lib.hid (fun W h => num_Text T.n W hin.n h)
    have HCW := Lib.hid (fun W h => char_Write T.name W hin.name h)
    have HLL := Lib.hid hl
    rw [T.wr_txt]
    unfold textK
    by_cases h1 : T.kind = 1
    · rw [if_pos h1]
      unfold tmv
      rw [h1]
      generalize Lib.itoa T.n = it at *
      clear hmay hin hT hbw ih h1 hl
      go_enter Tryd.func19, Tryd.ntmps19
      go_wp2_with fail
      refine (HNT.out _ (HT.out _ (HB0.out _)).p).mono ?_
      rintro e w1 ⟨rfl, hb1⟩
      have hB1 := (HB0.out _).trans (hb1.mono (by simp; omega))
      have hA1 := apart_on (HA0.out _) hb1
      have hW1 := (HBW.out.past _).on hb1
      clear hb1
      go_wp2_with fail
      refine (wr_lay2 B b l _ _ _ w1 (by simp) hW1 (by have := HLL.out; show _ + (1 + it.toArray.size) ≤ _; rw [List.size_toArray]; omega) (Nat.le_trans hB hB1.size)).mono ?_
      rintro e w2 ⟨rfl, hbw2, hbl2, hap2⟩
      have hbl3 := hB1.trans hbl2
      have hap3 := hA1.trans hap2
      have hbw3 : BW B b (l ++ 95 :: it) w2 := by
        have e1 : l ++ 95 :: it = l ++ ((⟨#[95]⟩ : ByteArray).data.toList ++ (⟨it.toArray⟩ : ByteArray).data.toList) := by simp
        rw [e1]; exact hbw2
      clear hB1 hA1 hW1 hbl2 hap2 hbw2
      go_wp2_with fail
      go_end0
      exact ⟨rfl, hbw3, hbl3, hap3⟩
    rw [if_neg h1]
    have e1 : (T.kind == 1) = false := by simpa using h1
    by_cases h3 : T.kind = 3
    · rw [if_pos h3]
      unfold tmv
      rw [h3]
      generalize Lib.itoa T.n = it at *
      clear hmay hin hT hbw ih h1 h3 hl e1
      go_enter Tryd.func19, Tryd.ntmps19
      go_wp2_with fail
      refine (HNT.out _ (HT.out _ (HB0.out _)).p).mono ?_
      rintro e w1 ⟨rfl, hb1⟩
      have hB1 := (HB0.out _).trans (hb1.mono (by simp; omega))
      have hA1 := apart_on (HA0.out _) hb1
      have hW1 := (HBW.out.past _).on hb1
      clear hb1
      go_wp2_with fail
      refine (wr_lay1 B b l _ _ w1 (by simp) hW1 (by have := HLL.out; show _ + it.toArray.size ≤ _; rw [List.size_toArray]; omega) (Nat.le_trans hB hB1.size)).mono ?_
      rintro e w2 ⟨rfl, hbw2, hbl2, hap2⟩
      have hbl3 := hB1.trans hbl2
      have hap3 := hA1.trans hap2
      clear hB1 hA1 hW1 hbl2 hap2
      go_wp2_with fail
      go_end0
      exact ⟨rfl, hbw2, hbl3, hap3⟩
    rw [if_neg h3]
    have e3 : (T.kind == 3) = false := by simpa using h3
    by_cases h2 : T.kind = 2
    · rw [if_pos h2]
      unfold tmv
      rw [h2]
      generalize writeL T.name.data.toList = it at *
      clear hmay hin hT hbw ih h1 h3 h2 hl e1 e3
      go_enter Tryd.func19, Tryd.ntmps19
      go_wp2_with fail
      refine (HCW.out _ (HT.out _ (HB0.out _)).u).mono ?_
      rintro e w1 ⟨rfl, hb1⟩
      have hB1 := (HB0.out _).trans (hb1.mono (by simp; omega))
      have hA1 := apart_on (HA0.out _) hb1
      have hW1 := (HBW.out.past _).on hb1
      clear hb1
      go_wp2_with fail
      refine (wr_lay1 B b l _ _ w1 (by simp) hW1 (by have := HLL.out; show _ + it.toArray.size ≤ _; rw [List.size_toArray]; omega) (Nat.le_trans hB hB1.size)).mono ?_
      rintro e w2 ⟨rfl, hbw2, hbl2, hap2⟩
      have hbl3 := hB1.trans hbl2
      have hap3 := hA1.trans hap2
      clear hB1 hA1 hW1 hbl2 hap2
      go_wp2_with fail
      go_end0
      exact ⟨rfl, hbw2, hbl3, hap3⟩
    rw [if_neg h2]
    have h4 := may_kind hmay h1 h3 h2
    have hco := fun (W : World) (hW : Below B w W) (hbW : BW B b l W) => wr_comp m ih T ad cap W B b l p h4 hm hM hmay (hin.onB hW) (Nat.le_trans hB hW.size) (fun V hV => hT V (hW.trans hV)) hbW hl
    unfold tmv at hco ⊢
    rw [h4] at hco ⊢
    generalize compK T.name.data.toList (T.args.map Tm.wr) p = X at *
    have HCO := Lib.hid hco
    clear hmay hin hT hbw ih h1 h3 h2 h4 hl e1 e3 hco hil hwl
    go_enter Tryd.func19, Tryd.ntmps19
    go_wp2_with fail
    refine (HCO.out _ (HB0.out _) (HBW.out.past _)).mono ?_
    rintro e w1 ⟨rfl, hbw1, hbl1, hap1⟩
    have hbl2 := (HB0.out _).trans hbl1
    have hap2 := apart_new hap1
    clear hbl1 hap1
    go_wp2_with fail
    go_end0
    exact ⟨rfl, hbw1, hbl2, hap2⟩
end Go.Proofs.YtdjejbgokamjeaaDoor
