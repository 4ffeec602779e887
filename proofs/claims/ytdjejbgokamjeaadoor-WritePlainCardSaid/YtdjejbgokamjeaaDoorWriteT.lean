/-
  The contracts of the document's own writer: Text, Clause.
-/
import Derived.Test.YtdjejbgokamjeaaDoorWriteS
import Derived.Test.YtdjejbgokamjeaaDoorWriteI
namespace Go.Proofs.YtdjejbgokamjeaaDoor
open Go.RowKit

set_option maxRecDepth 100000 in
set_option maxHeartbeats 2000000 in
theorem rw_Text (T : Tm) (ad : Option Addr) (cap : Nat) (w : World) (hM : T.size ≤ 1000000) (hT : Tabs w) (hin : TmIn w T ad cap) :
    Calls Tryd.prog 8 #[tmv T ad cap] w fun e w' => e = .returned (.tuple #[.string ⟨T.writeText.toArray⟩, .int .i64 T.chk]) ∧ Below w.heap.size w w' := by
  have HB0 := Lib.hid (fun o : Obj => (Below.refl _ w).alloc (Nat.le_refl _) o)
  have hck := fun o => ref_TermCheck T ad cap (w.alloc o) hM (hT.on (HB0.out o)) (hin.on (HB0.out o))
  unfold Tm.writeText
  by_cases hc : T.chk = 0
  · have hmay := chk_may hc
    rw [if_pos hc]
    rw [hc] at hck ⊢
    have hwi := fun (W : World) (hW : Below w.heap.size w W) => (rw_both T.size).1 T ad cap 1200 W (Nat.le_refl _) hM hmay (hT.on hW) (hin.on hW)
    have HCK := Lib.hid hck
    unfold tmv at *
    generalize T.wr.txt 1200 = X at *
    have HWI := Lib.hid hwi
    clear hck hmay hwi hT hin hc
    go_enter Tryd.func8, Tryd.ntmps8
    go_wp2_with fail
    refine (HCK.out _).mono ?_
    rintro e w1 ⟨rfl, hb1⟩
    have hB1 := (HB0.out _).trans (hb1.mono (by simp))
    have hX1 := (hb1.block w.heap.size (by simp)).trans (heap_alloc_new w _)
    clear hb1
    obtain ⟨d0, d1, d2, d3⟩ := cellx4 hX1
    go_wp2_with fail
    refine (HWI.out w1 hB1).mono ?_
    rintro e w2 ⟨rfl, hb2⟩
    have hB2 := hB1.trans (hb2.mono hB1.size)
    clear hb2 d0 d1 d2 d3 hX1 hB1
    go_wp2_with fail
    go_ret2
    exact ⟨rfl, hB2⟩
  · rw [if_neg hc]
    have ec : (T.chk != 0) = true := by simpa using hc
    generalize T.chk = c at *
    have HCK := Lib.hid hck
    clear hck hT hin hc
    unfold tmv at *
    go_enter Tryd.func8, Tryd.ntmps8
    go_wp2_with fail
    refine (HCK.out _).mono ?_
    rintro e w1 ⟨rfl, hb1⟩
    have hB1 := (HB0.out _).trans (hb1.mono (by simp))
    clear hb1
    go_wp2_with fail
    go_ret2
    exact ⟨rfl, hB1⟩

theorem clause_is (l : List UInt8) (h : l ≠ []) : clauseL l = if cls ((l.getD (l.length - 1) 0).toNat : Int) = 4 then l ++ [32, 46, 10] else l ++ [46, 10] := by
  rw [clause_of l h, last_cls l h]

set_option maxRecDepth 100000 in
set_option maxHeartbeats 2000000 in
theorem rw_Clause (T : Tm) (ad : Option Addr) (cap : Nat) (w : World) (hM : T.size ≤ 1000000) (hT : Tabs w) (hin : TmIn w T ad cap) :
    Calls Tryd.prog 10 #[tmv T ad cap] w fun e w' => e = .returned (.tuple #[.string ⟨T.writeClause.toArray⟩, .int .i64 T.chk]) ∧ Below w.heap.size w w' := by
  have HB0 := Lib.hid (fun o : Obj => (Below.refl _ w).alloc (Nat.le_refl _) o)
  have hck := fun o => rw_Text T ad cap (w.alloc o) hM (hT.on (HB0.out o)) (hin.on (HB0.out o))
  have hn64 := hin.n64
  unfold Tm.writeClause
  unfold Tm.writeText at hck
  by_cases hc : T.chk = 0
  · have hmay := chk_may hc
    have hne := txt_ne hmay 1200
    have hxl := (wr_fits T hn64).1 1200
    rw [if_pos hc, clause_is _ hne]
    rw [if_pos hc] at hck
    rw [hc] at hck ⊢
    generalize T.wr.txt 1200 = X at *
    have hn1 := List.length_pos_iff.2 hne
    have hlen : X.length ≤ 2000000000 := by omega
    obtain ⟨S, hS⟩ : ∃ S : ByteArray, S = ⟨X.toArray⟩ := ⟨_, rfl⟩
    rw [← hS] at hck
    have hsz : S.size = X.length := by rw [hS]; show X.toArray.size = _; rw [List.size_toArray]
    have hsn : (S.toList == []) = false := by rw [hS, ByteArray.toList_eq]; exact beq_eq_false_iff_ne.2 (by simpa using hne)
    have hp1 : S.size - 1 < S.size := by omega
    have hg : (S[S.size - 1]'hp1) = X.getD (X.length - 1) 0 := by
      subst hS
      rw [List.getD_eq_getElem?_getD, List.getElem?_eq_getElem (by omega)]
      show X[X.toArray.size - 1] = X[X.length - 1]
      simp only [List.size_toArray]
    rw [← hg]
    have hR1 : (S ++ ⟨#[32]⟩ ++ ⟨#[46, 10]⟩ : ByteArray) = ⟨(X ++ [32, 46, 10]).toArray⟩ := of_list _ _ (by rw [data_cat, data_cat, hS]; simp)
    have hR2 : (S ++ ⟨#[46, 10]⟩ : ByteArray) = ⟨(X ++ [46, 10]).toArray⟩ := of_list _ _ (by rw [data_cat, hS])
    have hcl := fun W => ref_Class ((S[S.size - 1]'hp1).toNat : Int) W
    have HCK := Lib.hid hck
    have hlong : S.size ≤ 2000000000 := by omega
    clear hg hck hS hmay hne hT hin hc hxl hn64 hsz hn1 hlen
    unfold tmv at *
    by_cases hlo : ((S[S.size - 1]'hp1).toNat : Int) < 128
    · by_cases h4 : cls ((S[S.size - 1]'hp1).toNat : Int) = 4
      · rw [if_pos h4]
        rw [h4] at hcl
        have HCL := Lib.hid hcl
        have HR := Lib.hid hR1
        obtain ⟨E, hE⟩ : ∃ E, (⟨(X ++ [32, 46, 10]).toArray⟩ : ByteArray) = E := ⟨_, rfl⟩
        rw [hE]
        rw [hE] at HR
        clear hcl hR1 hR2 h4 hE
        go_enter Tryd.func10, Tryd.ntmps10
        go_wp2_with fail
        refine (HCK.out _).mono ?_
        rintro e w1 ⟨rfl, hb1⟩
        have hB1 := (HB0.out _).trans (hb1.mono (by simp))
        clear hb1
        go_wp2_with fail
        refine (HCL.out _).mono ?_
        rintro e w2 ⟨rfl, rfl⟩
        go_wp2_with fail
        go_ret2
        exact ⟨by rw [HR.out]; rfl, hB1⟩
      · rw [if_neg h4]
        have e4 : (cls ((S[S.size - 1]'hp1).toNat : Int) == 4) = false := by simpa using h4
        generalize cls ((S[S.size - 1]'hp1).toNat : Int) = cl at *
        have HCL := Lib.hid hcl
        have HR := Lib.hid hR2
        obtain ⟨E, hE⟩ : ∃ E, (⟨(X ++ [46, 10]).toArray⟩ : ByteArray) = E := ⟨_, rfl⟩
        rw [hE]
        rw [hE] at HR
        clear hcl hR1 hR2 h4 hE
        go_enter Tryd.func10, Tryd.ntmps10
        go_wp2_with fail
        refine (HCK.out _).mono ?_
        rintro e w1 ⟨rfl, hb1⟩
        have hB1 := (HB0.out _).trans (hb1.mono (by simp))
        clear hb1
        go_wp2_with fail
        refine (HCL.out _).mono ?_
        rintro e w2 ⟨rfl, rfl⟩
        go_wp2_with fail
        go_ret2
        exact ⟨by rw [HR.out]; rfl, hB1⟩
    · rw [if_neg (by rw [cls_hi _ (by omega)]; decide)]
      have HR := Lib.hid hR2
      obtain ⟨E, hE⟩ : ∃ E, (⟨(X ++ [46, 10]).toArray⟩ : ByteArray) = E := ⟨_, rfl⟩
      rw [hE]
      rw [hE] at HR
      clear hcl hR1 hR2 hE
      go_enter Tryd.func10, Tryd.ntmps10
      go_wp2_with fail
      refine (HCK.out _).mono ?_
      rintro e w1 ⟨rfl, hb1⟩
      have hB1 := (HB0.out _).trans (hb1.mono (by simp))
      clear hb1
      go_wp2_with fail
      go_ret2
      exact ⟨by rw [HR.out]; rfl, hB1⟩
  · rw [if_neg hc]
    rw [if_neg hc] at hck
    have ec : (T.chk != 0) = true := by simpa using hc
    generalize T.chk = c at *
    have HCK := Lib.hid hck
    clear hck hT hin hc hn64
    unfold tmv at *
    go_enter Tryd.func10, Tryd.ntmps10
    go_wp2_with fail
    refine (HCK.out _).mono ?_
    rintro e w1 ⟨rfl, hb1⟩
    have hB1 := (HB0.out _).trans (hb1.mono (by simp))
    clear hb1
    go_wp2_with fail
    go_ret2
    exact ⟨rfl, hB1⟩
end Go.Proofs.YtdjejbgokamjeaaDoor
