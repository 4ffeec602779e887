/-
  The contracts of package write: Text, Clause.
-/
import Derived.Test.YtdjejbgokamjeaaDoorWriteH
import Derived.Test.YtdjejbgokamjeaaDoorShelf6
import Derived.Laws.RangeAny
namespace Go.Proofs.YtdjejbgokamjeaaDoor
open Go.RowKit

theorem write_ne {s : List UInt8} (h : checkL s = true) : writeL s ≠ [] := by
  unfold writeL
  rw [if_pos h]
  split
  · rename_i hb
    intro e
    subst e
    exact absurd hb (by decide)
  · exact List.cons_ne_nil _ _
theorem itoa_ne (n : Int) : Lib.itoa n ≠ [] := by
  unfold Lib.itoa
  split
  · exact List.cons_ne_nil _ _
  · exact decDigits_ne _
theorem txt_ne {T : Tm} (h : T.may = true) (p : Int) : T.wr.txt p ≠ [] := by
  rw [T.wr_txt]
  unfold textK
  rw [Tm.may_eq] at h
  unfold mayK at h
  by_cases h1 : T.kind = 1
  · rw [if_pos h1]; exact List.cons_ne_nil _ _
  rw [if_neg h1] at h ⊢
  by_cases h3 : T.kind = 3
  · rw [if_pos h3]; exact itoa_ne _
  rw [if_neg h3]
  by_cases h2 : T.kind = 2
  · rw [if_pos h2] at h ⊢
    simp only [Bool.and_eq_true, decide_eq_true_eq] at h
    exact write_ne h.2.1
  rw [if_neg h2]
  have hc : ∀ s ws, callK s ws ≠ [] := fun s ws e => by
    unfold callK at e
    have := congrArg List.length e
    simp at this
  have hx : ∀ s o a b, infixK s o a b p ≠ [] := fun s o a b e => by
    unfold infixK at e
    have hb : betweenK s ≠ [] := by unfold betweenK; split <;> exact List.cons_ne_nil _ _
    split at e
    · exact List.cons_ne_nil _ _ e
    · have h9 := congrArg List.length e
      have h8 : 0 < (betweenK s).length := List.length_pos_iff.2 hb
      simp only [List.length_append, List.length_nil] at h9
      omega
  unfold compK
  split
  · split
    · exact List.cons_ne_nil _ _
    · split
      · exact hx _ _ _ _
      · exact hc _ _
  · split
    · exact List.cons_ne_nil _ _
    · exact hc _ _
  · exact hc _ _
theorem chk_may {T : Tm} (h : T.chk = 0) : T.may = true := by
  unfold Tm.chk at h
  cases hm : T.may with
  | true => rfl
  | false => rw [hm] at h; cases h

set_option maxRecDepth 100000 in
set_option maxHeartbeats 2000000 in
theorem write_Text (T : Tm) (ad : Option Addr) (cap : Nat) (w : World) (hM : T.size ≤ 1000000) (hT : AllT w) (hin : TmIn w T ad cap) :
    Calls Tryd.prog 7 #[tmv T ad cap] w fun e w' => e = .returned (.tuple #[.string ⟨T.writeText.toArray⟩, .int .i64 T.chk]) ∧ Below w.heap.size w w' := by
  have HB0 := Lib.hid (fun o : Obj => (Below.refl _ w).alloc (Nat.le_refl _) o)
  have hck := fun o => term_Check T ad cap (w.alloc o) hM (hT.u.on (HB0.out o)) (hin.on (HB0.out o))
  unfold Tm.writeText
  by_cases hc : T.chk = 0
  · have hmay := chk_may hc
    have hne := txt_ne hmay 1200
    rw [if_pos hc]
    rw [hc] at hck ⊢
    have hwi := fun (W : World) (hW : Below w.heap.size w W) (b : Nat) (hbW : BW W.heap.size b [] W) => wr_within T.size T ad cap W W.heap.size b [] 1200 (Nat.le_refl _) hM hmay ⟨(hin.on hW).kind, (hin.on hW).n, (hin.on hW).name, (hin.on hW).len, (hin.on hW).cap, targs_in (hin.on hW).args⟩ (Nat.le_refl _)
    have HT := Lib.hid hT
    have HIN := Lib.hid hin
    have HCK := Lib.hid hck
    have HNE := Lib.hid hne
    have HWI := Lib.hid (fun (W : World) (hW : Below w.heap.size w W) (V : World) (hV : Below W.heap.size W V) (hbV : BW W.heap.size W.heap.size [] V) => wr_within T.size T ad cap V W.heap.size W.heap.size [] 1200 (Nat.le_refl _) hM hmay
      (TmP.onB (w := W) ⟨(hin.on hW).kind, (hin.on hW).n, (hin.on hW).name, (hin.on hW).len, (hin.on hW).cap, targs_in (hin.on hW).args⟩ hV) hV.size (fun U hU => (hT.on hW).on (hV.trans hU)) hbV (by rw [List.length_nil]; omega))
    clear hck hmay hne hwi hT hin hc
    unfold tmv at *
    generalize T.wr.txt 1200 = X at *
    go_enter Tryd.func7, Tryd.ntmps7
    go_wp2_with fail
    refine (HCK.out _).mono ?_
    rintro e w1 ⟨rfl, hb1⟩
    have hB1 := (HB0.out _).trans (hb1.mono (by simp))
    have hX1 := (hb1.block w.heap.size (by simp)).trans (heap_alloc_new w _)
    have hs1 : w.heap.size < w1.heap.size := by have := hb1.size; rw [World.size_alloc] at this; omega
    clear hb1
    obtain ⟨d0, d1, d2, d3⟩ := cellx4 hX1
    have hfr : ∀ V, V = w1.alloc (.cells #[.pointer none, .slice none 0 0] 42) → BW w1.heap.size w1.heap.size [] V := fun V hV => by subst hV; exact Lib.fresh_isBuilder _ _ w1
    have HFR := Lib.hid hfr
    clear hfr
    go_wp2_with fail
    refine (HWI.out w1 hB1 _ ((Below.refl _ w1).alloc (Nat.le_refl _) _) (HFR.out _ rfl)).mono ?_
    rintro e w2 ⟨rfl, hbw2, hbl2, hap2⟩
    have hB2 := hB1.trans ((((Below.refl _ w1).alloc (Nat.le_refl _) _).trans hbl2).mono hB1.size)
    clear d0 d1 d2 d3 hX1 hbl2 hap2
    go_wp2_with fail
    refine (wr_String w1.heap.size w1.heap.size _ w2 hbw2 (by rw [List.nil_append]; exact HNE.out)).mono ?_
    rintro e w3 ⟨rfl, hb3⟩
    have hB3 := hB2.trans (hb3.mono hB1.size)
    clear hb3 hB2 hbw2
    go_wp2_with fail
    go_ret2
    exact ⟨rfl, hB3⟩
  · rw [if_neg hc]
    have ec : (T.chk != 0) = true := by simpa using hc
    generalize T.chk = c at *
    have HCK := Lib.hid hck
    clear hck hT hin hc
    unfold tmv at *
    go_enter Tryd.func7, Tryd.ntmps7
    go_wp2_with fail
    refine (HCK.out _).mono ?_
    rintro e w1 ⟨rfl, hb1⟩
    have hB1 := (HB0.out _).trans (hb1.mono (by simp))
    clear hb1
    go_wp2_with fail
    go_ret2
    exact ⟨rfl, hB1⟩

/-! ### The last rune -/
theorem cls_hi (c : Int) (h : 128 ≤ c) : cls c = 0 := by
  unfold cls
  repeat (rw [if_neg (by omega)])
theorem last_cls (l : List UInt8) (h : l ≠ []) : cls ((Lib.decodeLastL l).1 : Int) = cls ((l.getD (l.length - 1) 0).toNat : Int) := by
  unfold Lib.decodeLastL
  rw [if_neg h]
  by_cases hlo : (l.getD (l.length - 1) 0).toNat < 128
  · rw [if_pos hlo]
  · rw [if_neg hlo]
    dsimp only
    rw [cls_hi ((l.getD (l.length - 1) 0).toNat : Int) (by omega)]
    split
    · rename_i he
      cases hd : l.drop (Lib.lastStart l) with
      | nil => decide
      | cons b t =>
        by_cases hb : b.toNat < 128
        · exfalso
          rw [hd, Lib.decodeL_ascii b t hb] at he
          have hlen := congrArg List.length hd
          rw [List.length_drop, List.length_cons] at hlen
          have ht : t = [] := List.eq_nil_of_length_eq_zero (by simp only at he; omega)
          have h2 : l.getD (l.length - 1) 0 = b := by
            have h3 : (l.drop (Lib.lastStart l))[0]? = some b := by rw [hd]; rfl
            rw [List.getElem?_drop] at h3
            have h4 : Lib.lastStart l + 0 = l.length - 1 := by simp only at he; omega
            rw [h4] at h3
            rw [List.getD_eq_getElem?_getD, h3]; rfl
          rw [h2] at hlo
          exact hlo hb
        · have hs : 0 < (⟨(b :: t).toArray⟩ : ByteArray).size := by show 0 < (b :: t).toArray.size; simp
          have h5 : 128 ≤ (Lib.decodeL (b :: t)).1 := (decode_high ⟨(b :: t).toArray⟩ 0 hs (show 128 ≤ b.toNat by omega)).1
          exact cls_hi _ (by omega)
    · decide
theorem clause_of (l : List UInt8) (h : l ≠ []) : clauseL l = if cls ((Lib.decodeLastL l).1 : Int) = 4 then l ++ [32, 46, 10] else l ++ [46, 10] := by
  have hl : l.getLast? = some (l.getD (l.length - 1) 0) := by
    have hp : 0 < l.length := List.length_pos_iff.2 h
    rw [List.getLast?_eq_getElem?, List.getD_eq_getElem?_getD, List.getElem?_eq_getElem (show l.length - 1 < l.length by omega)]
    rfl
  unfold clauseL
  rw [hl, last_cls l h]

/-- Clause's text. -/
def Tm.writeClause (t : Tm) : List UInt8 := if t.chk = 0 then clauseL (t.wr.txt 1200) else []

set_option maxRecDepth 100000 in
set_option maxHeartbeats 2000000 in
theorem write_Clause (T : Tm) (ad : Option Addr) (cap : Nat) (w : World) (hM : T.size ≤ 1000000) (hT : AllT w) (hin : TmIn w T ad cap) :
    Calls Tryd.prog 9 #[tmv T ad cap] w fun e w' => e = .returned (.tuple #[.string ⟨T.writeClause.toArray⟩, .int .i64 T.chk]) ∧ Below w.heap.size w w' := by
  have HB0 := Lib.hid (fun o : Obj => (Below.refl _ w).alloc (Nat.le_refl _) o)
  have hck := fun o => write_Text T ad cap (w.alloc o) hM (hT.on (HB0.out o)) (hin.on (HB0.out o))
  have hn64 : T.n64 := (Tm.n64_eq T).2 ⟨hin.n, hin.args.n64⟩
  unfold Tm.writeClause
  unfold Tm.writeText at hck
  by_cases hc : T.chk = 0
  · have hmay := chk_may hc
    have hne := txt_ne hmay 1200
    have hxl := (wr_fits T hn64).1 1200
    rw [if_pos hc, clause_of _ hne]
    rw [if_pos hc] at hck
    rw [hc] at hck ⊢
    generalize T.wr.txt 1200 = X at *
    have hlen : X.length ≤ 2000000000 := by omega
    have hsz : (⟨X.toArray⟩ : ByteArray).size = X.length := by show X.toArray.size = _; simp
    have hdl := fun W hT => Tryd.utf8_DecodeLastRuneInString ⟨X.toArray⟩ W (by rw [hsz]; omega) hT
    have ex : (⟨X.toArray⟩ : ByteArray).data.toList = X := by simp
    rw [ex] at hdl
    have HDL := Lib.hid hdl
    have HT := Lib.hid hT
    have HCK := Lib.hid hck
    by_cases h4 : cls ((Lib.decodeLastL X).1 : Int) = 4
    · rw [if_pos h4]
      have hcl := fun W => dev_Class ((Lib.decodeLastL X).1 : Int) W
      rw [h4] at hcl
      generalize (Lib.decodeLastL X).1 = r1 at *
      generalize (Lib.decodeLastL X).2 = r2 at *
      have HCL := Lib.hid hcl
      have HR : Hid ((⟨X.toArray⟩ ++ ⟨#[32]⟩ ++ ⟨#[46, 10]⟩ : ByteArray).data.toList = X ++ [32, 46, 10]) := Lib.hid (by rw [data_cat, data_cat, ex]; simp)
      clear hck hmay hne hT hin hc hdl hcl h4 ex
      unfold tmv at *
      go_enter Tryd.func9, Tryd.ntmps9
      go_wp2_with fail
      refine (HCK.out _).mono ?_
      rintro e w1 ⟨rfl, hb1⟩
      have hB1 := (HB0.out _).trans (hb1.mono (by simp))
      clear hb1
      go_wp2_with fail
      refine (HDL.out _ (HT.out.on hB1).u.1).mono ?_
      rintro e w2 ⟨rfl, hb2⟩
      have hB2 := hB1.trans (hb2.mono hB1.size)
      clear hb2 hB1
      go_wp2_with fail
      refine (HCL.out _).mono ?_
      rintro e w3 ⟨rfl, rfl⟩
      go_wp2_with fail
      go_ret2
      exact ⟨by rw [show (⟨X.toArray⟩ ++ ⟨#[32]⟩ ++ ⟨#[46, 10]⟩ : ByteArray) = ⟨(X ++ [32, 46, 10]).toArray⟩ from of_list _ _ HR.out]; rfl, hB2⟩
    · rw [if_neg h4]
      have hcl := fun W => dev_Class ((Lib.decodeLastL X).1 : Int) W
      have e4 : (cls ((Lib.decodeLastL X).1 : Int) == 4) = false := by simpa using h4
      generalize (Lib.decodeLastL X).1 = r1 at *
      generalize (Lib.decodeLastL X).2 = r2 at *
      generalize cls (r1 : Int) = cl at *
      have HCL := Lib.hid hcl
      have HR : Hid ((⟨X.toArray⟩ ++ ⟨#[46, 10]⟩ : ByteArray).data.toList = X ++ [46, 10]) := Lib.hid (by rw [data_cat, ex])
      clear hck hmay hne hT hin hc hdl hcl h4 ex
      unfold tmv at *
      go_enter Tryd.func9, Tryd.ntmps9
      go_wp2_with fail
      refine (HCK.out _).mono ?_
      rintro e w1 ⟨rfl, hb1⟩
      have hB1 := (HB0.out _).trans (hb1.mono (by simp))
      clear hb1
      go_wp2_with fail
      refine (HDL.out _ (HT.out.on hB1).u.1).mono ?_
      rintro e w2 ⟨rfl, hb2⟩
      have hB2 := hB1.trans (hb2.mono hB1.size)
      clear hb2 hB1
      go_wp2_with fail
      refine (HCL.out _).mono ?_
      rintro e w3 ⟨rfl, rfl⟩
      go_wp2_with fail
      go_ret2
      exact ⟨by rw [show (⟨X.toArray⟩ ++ ⟨#[46, 10]⟩ : ByteArray) = ⟨(X ++ [46, 10]).toArray⟩ from of_list _ _ HR.out]; rfl, hB2⟩
  · rw [if_neg hc]
    rw [if_neg hc] at hck
    have ec : (T.chk != 0) = true := by simpa using hc
    generalize T.chk = c at *
    have HCK := Lib.hid hck
    clear hck hT hin hc hn64
    unfold tmv at *
    go_enter Tryd.func9, Tryd.ntmps9
    go_wp2_with fail
    refine (HCK.out _).mono ?_
    rintro e w1 ⟨rfl, hb1⟩
    have hB1 := (HB0.out _).trans (hb1.mono (by simp))
    clear hb1
    go_wp2_with fail
    go_ret2
    exact ⟨rfl, hB1⟩
end Go.Proofs.YtdjejbgokamjeaaDoor
