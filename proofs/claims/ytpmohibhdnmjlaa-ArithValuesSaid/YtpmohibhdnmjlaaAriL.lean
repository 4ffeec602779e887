/-
  The contract of the laws' helper live for arith: the chapter's examples (over the contracts of Eval and Holds).
-/
import Derived.Test.YtpmohibhdnmjlaaAriDev
import Derived.Test.YtpmohibhdnmjlaaTermMk
namespace Go.Proofs.Ytpmohibhdnmjlaa
open Go.RowKit

def aI (n : Int) : Tm := .mk 3 ⟨#[]⟩ n []
def aV : Tm := .mk 1 ⟨#[]⟩ 0 []
def aA : Tm := .mk 2 ⟨#[97]⟩ 0 []
def aC (s : ByteArray) (x y : Tm) : Tm := .mk 4 s 0 [x, y]
theorem ev_mk (d : Nat) (t : Tm) (h : t.kind ≠ 1) : evD [] (d + 1) t = evK (evD [] d) t := by
  show (if (walkL [] 0 t).2.1 ≠ 0 then _ else _) = _
  rw [walk_stop (by decide) (.inl h)]
  rw [if_neg (by simp)]
theorem ev_aI (d : Nat) (n : Int) : evD [] (d + 1) (aI n) = (n, 0) := by rw [ev_mk d (aI n) (show (3 : Int) ≠ 1 by decide)]; rfl
theorem ev_aA (d : Nat) : evD [] (d + 1) aA = (0, 111) := by rw [ev_mk d aA (show (2 : Int) ≠ 1 by decide)]; rfl
theorem ev_aV (d : Nat) : evD [] (d + 1) aV = (0, 110) := by
  show (if (walkL [] 0 aV).2.1 ≠ 0 then _ else _) = _
  rw [walk_stop (by decide) (.inr rfl)]
  rw [if_neg (by simp)]; rfl
theorem ev_aC (d : Nat) (s : ByteArray) (x y : Tm) (h : isTwo s = true) : evD [] (d + 1) (aC s x y) = if (evD [] d x).2 ≠ 0 then (0, (evD [] d x).2) else if (evD [] d y).2 ≠ 0 then (0, (evD [] d y).2) else tellV (twoV s (evD [] d x).1 (evD [] d y).1) := by
  rw [ev_mk d (aC s x y) (show (4 : Int) ≠ 1 by decide), evK_two (t := aC s x y) rfl rfl]; exact if_pos h
theorem av_1 : evD [] 60 (aC ⟨#[43]⟩ (aI 1) (aC ⟨#[42]⟩ (aI 2) (aI 3))) = (7, 0) := by
  rw [ev_aC 59 _ _ _ (by unfold isTwo; rw [ByteArray.toList_eq]; rfl), ev_aI 58, ev_aC 58 _ _ _ (by unfold isTwo; rw [ByteArray.toList_eq]; rfl), ev_aI 57, ev_aI 57]
  unfold twoV
  rw [ByteArray.toList_eq, ByteArray.toList_eq]
  rfl
theorem av_2 : evD [] 60 (aC ⟨#[47, 47]⟩ (aI 7) (aI 0)) = (0, 112) := by
  rw [ev_aC 59 _ _ _ (by unfold isTwo; rw [ByteArray.toList_eq]; rfl), ev_aI 58, ev_aI 58]
  unfold twoV
  rw [ByteArray.toList_eq]
  rfl
theorem av_3 : evD [] 60 (aC ⟨#[43]⟩ aV (aI 1)) = (0, 110) := by
  rw [ev_aC 59 _ _ _ (by unfold isTwo; rw [ByteArray.toList_eq]; rfl), ev_aV 58]; rfl
theorem av_4 : evD [] 60 (aC ⟨#[43]⟩ aA aV) = (0, 111) := by
  rw [ev_aC 59 _ _ _ (by unfold isTwo; rw [ByteArray.toList_eq]; rfl), ev_aA 58]; rfl
theorem av_5 : cmpA ⟨#[60]⟩ (evD [] 60 (aI 1)) (evD [] 60 (aI 2)) = (true, 0) := by
  rw [ev_aI 59, ev_aI 59]
  unfold cmpA isOp opV
  rw [ByteArray.toList_eq]
  rfl
theorem rowA1 {w : World} {A : Tm} {ad : Option Addr} {ca : Nat} (hA : TmIn w A ad ca) (C : Array Value) (hC : C = (tcells A ad ca).toArray) : TArgs (w.alloc (.cells C 25)) (some ⟨w.heap.size, 0, none⟩) [A] := by
  subst hC
  have h1 := hA.args.on ((Below.refl _ w).alloc (Nat.le_refl _) (.cells (tcells A ad ca).toArray 25))
  rw [A.eta]
  exact .cons _ _ _ _ _ _ _ ad ca (World.cell?_alloc_at _ _ _ _ rfl) (World.cell?_alloc_at _ _ _ _ rfl) (World.cell?_alloc_at _ _ _ _ rfl) (World.cell?_alloc_at _ _ _ _ rfl) hA.kind hA.n hA.name hA.len hA.cap h1 (.nil _)
theorem rowA2 {w : World} {A B : Tm} {ad bd : Option Addr} {ca cb : Nat} (hA : TmIn w A ad ca) (hB : TmIn w B bd cb) (C : Array Value) (hC : C = (tcells A ad ca ++ tcells B bd cb).toArray) : TArgs (w.alloc (.cells C 25)) (some ⟨w.heap.size, 0, none⟩) [A, B] := by
  subst hC
  have h1 := hA.args.on ((Below.refl _ w).alloc (Nat.le_refl _) (.cells (tcells A ad ca ++ tcells B bd cb).toArray 25))
  have h2 := hB.args.on ((Below.refl _ w).alloc (Nat.le_refl _) (.cells (tcells A ad ca ++ tcells B bd cb).toArray 25))
  rw [A.eta, B.eta]
  exact .cons _ _ _ _ _ _ _ ad ca (World.cell?_alloc_at _ _ _ _ rfl) (World.cell?_alloc_at _ _ _ _ rfl) (World.cell?_alloc_at _ _ _ _ rfl) (World.cell?_alloc_at _ _ _ _ rfl) hA.kind hA.n hA.name hA.len hA.cap h1
    (.cons _ _ _ _ _ _ _ bd cb (World.cell?_alloc_at _ _ _ _ rfl) (World.cell?_alloc_at _ _ _ _ rfl) (World.cell?_alloc_at _ _ _ _ rfl) (World.cell?_alloc_at _ _ _ _ rfl) hB.kind hB.n hB.name hB.len hB.cap h2 (.nil _))
theorem aI_in (w : World) {n : Int} (h : In64 n) : TmIn w (aI n) none 0 := leaf_in w ⟨by decide, by decide⟩ h (by unfold maxLen; decide)
theorem aV_in (w : World) : TmIn w aV none 0 := leaf_in w ⟨by decide, by decide⟩ ⟨by decide, by decide⟩ (by unfold maxLen; decide)
theorem aA_in (w : World) : TmIn w aA none 0 := leaf_in w ⟨by decide, by decide⟩ ⟨by decide, by decide⟩ (by unfold maxLen; decide)
theorem aC_in {w : World} {s : ByteArray} {x y : Tm} {ad : Option Addr} (hs : s.size ≤ maxLen) (h : TArgs w ad [x, y]) : TmIn w (aC s x y) ad 2 := comp_in hs (Nat.le_refl _) (by unfold maxLen; decide) h (Below.refl _ w)
/-- Eval of an operator between two terms that lie in a row. -/
theorem ua_two (s : ByteArray) (x y : Tm) (hs : s.size ≤ maxLen) (hsz : 1 + (x.size + (y.size + 0)) ≤ 1000000) (ad : Option Addr) (r : Int × Int) (hr : evD [] 60 (aC s x y) = r) (W : World) (h : TArgs W ad [x, y]) :
    Calls Try.prog 9 #[.slice none 0 0, .agg #[.int .i64 4, .string s, .int .i64 0, .slice ad 2 2]] W fun e w' => e = .returned (.tuple #[.int .i64 r.1, .int .i64 r.2]) ∧ Below W.heap.size W w' := by
  rw [← hr]
  exact ua_Eval [] none 0 (aC s x y) ad 2 W (Nat.zero_le _) (Nat.le_refl _) (Nat.zero_le _) (fun b hb => by cases hb) hsz BdsAt.nil (aC_in hs h)

set_option maxRecDepth 100000 in
set_option maxHeartbeats 8000000 in
theorem ari_live (w : World) : Calls Try.prog 7 #[] w fun e w' => e = .returned (.bool true) ∧ Below w.heap.size w w' := by
  go_enter Try.func7, Try.ntmps7
  go_wp2_with fail
  refine (ref_Int1 _ _).mono ?_; rintro e w1 ⟨rfl, b1⟩
  go_wp2_with fail
  refine (ref_Int1 _ _).mono ?_; rintro e w2 ⟨rfl, hb⟩
  have b2 := b1.trans (hb.mono b1.size)
  clear hb b1
  go_wp2_with fail
  refine (ref_Int1 _ _).mono ?_; rintro e w3 ⟨rfl, hb⟩
  have b3 := b2.trans (hb.mono b2.size)
  clear hb b2
  go_wp2_with fail
  have HR3 := Lib.hid (rowA2 (w := w3) (aI_in w3 (n := 2) ⟨by decide, by decide⟩) (aI_in w3 (n := 3) ⟨by decide, by decide⟩) #[.int .i64 3, .string ⟨#[]⟩, .int .i64 2, .slice none 0 0, .int .i64 3, .string ⟨#[]⟩, .int .i64 3, .slice none 0 0] rfl)
  have b3a := b3.alloc b3.size (.cells #[.int .i64 3, .string ⟨#[]⟩, .int .i64 2, .slice none 0 0, .int .i64 3, .string ⟨#[]⟩, .int .i64 3, .slice none 0 0] 25)
  generalize w3.alloc _ = w4 at *
  refine (ref_Comp1 _ _ _ _ _).mono ?_; rintro e w5 ⟨rfl, hb⟩
  have HC5 := Lib.hid (aC_in (s := ⟨#[42]⟩) (by unfold maxLen; decide) (HR3.out.on hb))
  have b5 := b3a.trans (hb.mono b3a.size)
  clear hb b3 b3a HR3
  go_wp2_with fail
  have HR5 := Lib.hid (rowA2 (w := w5) (aI_in w5 (n := 1) ⟨by decide, by decide⟩) HC5.out #[.int .i64 3, .string ⟨#[]⟩, .int .i64 1, .slice none 0 0, .int .i64 4, .string ⟨#[42]⟩, .int .i64 0, .slice (some ⟨w3.heap.size, 0, none⟩) 2 2] rfl)
  have b5a := b5.alloc b5.size (.cells #[.int .i64 3, .string ⟨#[]⟩, .int .i64 1, .slice none 0 0, .int .i64 4, .string ⟨#[42]⟩, .int .i64 0, .slice (some ⟨w3.heap.size, 0, none⟩) 2 2] 25)
  generalize w5.alloc _ = w6 at *
  refine (ref_Comp1 _ _ _ _ _).mono ?_; rintro e w7 ⟨rfl, hb⟩
  have HE := Lib.hid (ua_two ⟨#[43]⟩ (aI 1) (aC ⟨#[42]⟩ (aI 2) (aI 3)) (by unfold maxLen; decide) (by decide +kernel) _ _ av_1 w7 (HR5.out.on hb))
  have b7 := b5a.trans (hb.mono b5a.size)
  clear hb b5 b5a HR5 HC5
  go_wp2_with fail
  refine HE.out.mono ?_; rintro e w8 ⟨rfl, hb⟩
  have b8 := b7.trans (hb.mono b7.size)
  clear hb b7 HE
  go_wp2_with fail
  refine (ref_Int1 _ _).mono ?_; rintro e w9 ⟨rfl, hb⟩
  have b9 := b8.trans (hb.mono b8.size)
  clear hb b8
  go_wp2_with fail
  refine (ref_Int1 _ _).mono ?_; rintro e w10 ⟨rfl, hb⟩
  have b10 := b9.trans (hb.mono b9.size)
  clear hb b9
  go_wp2_with fail
  have HR := Lib.hid (rowA2 (w := w10) (aI_in w10 (n := 7) ⟨by decide, by decide⟩) (aI_in w10 (n := 0) ⟨by decide, by decide⟩) #[.int .i64 3, .string ⟨#[]⟩, .int .i64 7, .slice none 0 0, .int .i64 3, .string ⟨#[]⟩, .int .i64 0, .slice none 0 0] rfl)
  have ba := b10.alloc b10.size (.cells #[.int .i64 3, .string ⟨#[]⟩, .int .i64 7, .slice none 0 0, .int .i64 3, .string ⟨#[]⟩, .int .i64 0, .slice none 0 0] 25)
  generalize w10.alloc _ = wa at *
  refine (ref_Comp1 _ _ _ _ _).mono ?_; rintro e w11 ⟨rfl, hb⟩
  have HE := Lib.hid (ua_two ⟨#[47, 47]⟩ (aI 7) (aI 0) (by unfold maxLen; decide) (by decide +kernel) _ _ av_2 w11 (HR.out.on hb))
  have b11 := ba.trans (hb.mono ba.size)
  clear hb b10 ba HR
  go_wp2_with fail
  refine HE.out.mono ?_; rintro e w12 ⟨rfl, hb⟩
  have b12 := b11.trans (hb.mono b11.size)
  clear hb b11 HE
  go_wp2_with fail
  refine (ref_Var1 _ _).mono ?_; rintro e w13 ⟨rfl, hb⟩
  have b13 := b12.trans (hb.mono b12.size)
  clear hb b12
  go_wp2_with fail
  refine (ref_Int1 _ _).mono ?_; rintro e w14 ⟨rfl, hb⟩
  have b14 := b13.trans (hb.mono b13.size)
  clear hb b13
  go_wp2_with fail
  have HR := Lib.hid (rowA2 (w := w14) (aV_in w14) (aI_in w14 (n := 1) ⟨by decide, by decide⟩) #[.int .i64 1, .string ⟨#[]⟩, .int .i64 0, .slice none 0 0, .int .i64 3, .string ⟨#[]⟩, .int .i64 1, .slice none 0 0] rfl)
  have ba := b14.alloc b14.size (.cells #[.int .i64 1, .string ⟨#[]⟩, .int .i64 0, .slice none 0 0, .int .i64 3, .string ⟨#[]⟩, .int .i64 1, .slice none 0 0] 25)
  generalize w14.alloc _ = wa at *
  refine (ref_Comp1 _ _ _ _ _).mono ?_; rintro e w15 ⟨rfl, hb⟩
  have HE := Lib.hid (ua_two ⟨#[43]⟩ aV (aI 1) (by unfold maxLen; decide) (by decide +kernel) _ _ av_3 w15 (HR.out.on hb))
  have b15 := ba.trans (hb.mono ba.size)
  clear hb b14 ba HR
  go_wp2_with fail
  refine HE.out.mono ?_; rintro e w16 ⟨rfl, hb⟩
  have b16 := b15.trans (hb.mono b15.size)
  clear hb b15 HE
  go_wp2_with fail
  refine (ref_Atom1 _ _).mono ?_; rintro e w17 ⟨rfl, hb⟩
  have b17 := b16.trans (hb.mono b16.size)
  clear hb b16
  go_wp2_with fail
  refine (ref_Var1 _ _).mono ?_; rintro e w18 ⟨rfl, hb⟩
  have b18 := b17.trans (hb.mono b17.size)
  clear hb b17
  go_wp2_with fail
  have HR := Lib.hid (rowA2 (w := w18) (aA_in w18) (aV_in w18) #[.int .i64 2, .string ⟨#[97]⟩, .int .i64 0, .slice none 0 0, .int .i64 1, .string ⟨#[]⟩, .int .i64 0, .slice none 0 0] rfl)
  have ba := b18.alloc b18.size (.cells #[.int .i64 2, .string ⟨#[97]⟩, .int .i64 0, .slice none 0 0, .int .i64 1, .string ⟨#[]⟩, .int .i64 0, .slice none 0 0] 25)
  generalize w18.alloc _ = wa at *
  refine (ref_Comp1 _ _ _ _ _).mono ?_; rintro e w19 ⟨rfl, hb⟩
  have HE := Lib.hid (ua_two ⟨#[43]⟩ aA aV (by unfold maxLen; decide) (by decide +kernel) _ _ av_4 w19 (HR.out.on hb))
  have b19 := ba.trans (hb.mono ba.size)
  clear hb b18 ba HR
  go_wp2_with fail
  refine HE.out.mono ?_; rintro e w20 ⟨rfl, hb⟩
  have b20 := b19.trans (hb.mono b19.size)
  clear hb b19 HE
  go_wp2_with fail
  refine (ref_Int1 _ _).mono ?_; rintro e w21 ⟨rfl, hb⟩
  have b21 := b20.trans (hb.mono b20.size)
  clear hb b20
  go_wp2_with fail
  refine (ref_Int1 _ _).mono ?_; rintro e w22 ⟨rfl, hb⟩
  have b22 := b21.trans (hb.mono b21.size)
  clear hb b21
  go_wp2_with fail
  have HE := Lib.hid (ua_Holds [] none 0 ⟨#[60]⟩ (aI 1) (aI 2) none 0 none 0 w22 (Nat.zero_le _) (Nat.le_refl _) (Nat.zero_le _) (fun b hb => by cases hb) (by decide +kernel) (by decide +kernel) (by unfold maxLen; decide) BdsAt.nil (aI_in w22 ⟨by decide, by decide⟩) (aI_in w22 ⟨by decide, by decide⟩))
  rw [av_5] at HE
  unfold tmv aI at HE
  dsimp only [Tm.kind, Tm.name, Tm.n, Tm.args, List.length_nil] at HE
  refine HE.out.mono ?_; rintro e w23 ⟨rfl, hb⟩
  have b23 := b22.trans (hb.mono b22.size)
  clear hb b22 HE
  go_wp2_with fail
  go_ret
  exact ⟨rfl, b23⟩
end Go.Proofs.Ytpmohibhdnmjlaa
