/-
  The walk of the law TermApart.
-/
import Derived.Test.YthfdiclmbbngcaaDoorTermLaws
import Derived.Test.YthfdiclmbbngcaaDoorTermApartM
namespace Go.Proofs.YthfdiclmbbngcaaDoor
open Go.RowKit

/-- What the text, the order and sameness tell of two terms that may be: they are the same by all of them, or by none. -/
theorem apart_facts {A B : Tm} (mA : A.may = true) (mB : B.may = true) (nA : A.n64) (nB : B.n64) :
    (A.cmp B = 0 ∧ A.same B = true ∧ B.cmp A = 0 ∧ (⟨A.txt.toArray⟩ : ByteArray) = ⟨B.txt.toArray⟩) ∨
    ((A.cmp B = 1 ∨ A.cmp B = -1) ∧ B.cmp A = -A.cmp B ∧ A.same B = false ∧ (⟨A.txt.toArray⟩ : ByteArray) ≠ ⟨B.txt.toArray⟩) := by
  have h1 := cmp_range mA mB
  have h2 := cmp_turn mA mB
  by_cases h : A.cmp B = 0
  · have e := cmp_zero mA mB h
    exact .inl ⟨h, Tm.same_true e, by omega, by rw [e]⟩
  · refine .inr ⟨by omega, h2, Tm.same_false (fun e => h (by rw [e]; exact cmp_self mB)), fun e => h ?_⟩
    have e1 : A.txt = B.txt := by
      injection e with e
      injection e with e
    rw [txt_apart mA mB nA nB e1]; exact cmp_self mB

set_option maxRecDepth 100000 in
set_option maxHeartbeats 4000000 in
theorem walk_TermApart (A : Tm) (B : Tm) (ad : Option Addr) (bd : Option Addr) (ca : Nat) (cb : Nat) (w : World) (hA : TmIn w A ad ca) (hB : TmIn w B bd cb) (hT : AllT w) (hLive : Lives) :
    Calls Tryd.prog 7 #[tmv A ad ca, tmv B bd cb] w fun e w' => e = .returned (.bool true) ∧ Below w.heap.size w w' := by
  have HB := Lib.hid (fun o0 o1 : Obj => allocs_facts [o0, o1] w)
  have HL := Lib.hid hLive
  have HT := Lib.hid hT
  have HBIG := Lib.hid (fun (w0 : World) (hb : Below w.heap.size w w0) (g : Nat) (hg : g = w0.heap.size) => law_big [A, B] (some ⟨g, 0, none⟩) 2 (w0.alloc (.cells #[.int .i64 A.kind, .string A.name, .int .i64 A.n, .slice ad A.args.length ca, .int .i64 B.kind, .string B.name, .int .i64 B.n, .slice bd B.args.length cb] 24)) (Nat.le_refl 2) (by decide) (row2 hA hB hb g hg))
  have HXA := Lib.hid (fun hM W (h : Below w.heap.size w W) => term_Text A ad ca W hM (hT.on h) (hA.on h))
  have HXB := Lib.hid (fun hM W (h : Below w.heap.size w W) => term_Text B bd cb W hM (hT.on h) (hB.on h))
  have HSM := Lib.hid (fun h1 h2 W (h : Below w.heap.size w W) => term_Same A B ad bd ca cb W h1 h2 (hA.on h) (hB.on h))
  have HAB := Lib.hid (fun hM m1 m2 W (h : Below w.heap.size w W) => term_Compare A B ad bd ca cb W hM m1 m2 (hA.on h) (hB.on h))
  have HBA := Lib.hid (fun hM m1 m2 W (h : Below w.heap.size w W) => term_Compare B A bd ad cb ca W hM m1 m2 (hB.on h) (hA.on h))
  have HF := Lib.hid (fun m1 m2 => apart_facts (A := A) (B := B) m1 m2 ((Tm.n64_eq A).2 ⟨hA.n, hA.args.n64⟩) ((Tm.n64_eq B).2 ⟨hB.n, hB.args.n64⟩))
  clear hA hB hT hLive
  unfold tmv at *
  go_enter Tryd.func7, Tryd.ntmps7
  go_wp2_with fail
  refine (HL.out _ (HT.out.on (HB.out _ _).2.1)).mono ?_; rintro e w1 ⟨rfl, hb1⟩
  obtain ⟨hbw1, hsz1, hx0, hx1⟩ := boxes2 hb1
  have HKEEP : Hid (∀ W, Below w1.heap.size w1 W → W.cell? ⟨w.heap.size, 0, none⟩ = some (.int .i64 A.kind) ∧ W.cell? ⟨w.heap.size, 1, none⟩ = some (.string A.name) ∧ W.cell? ⟨w.heap.size, 2, none⟩ = some (.int .i64 A.n) ∧ W.cell? ⟨w.heap.size, 3, none⟩ = some (.slice ad A.args.length ca) ∧ W.cell? ⟨w.heap.size + 1, 0, none⟩ = some (.int .i64 B.kind) ∧ W.cell? ⟨w.heap.size + 1, 1, none⟩ = some (.string B.name) ∧ W.cell? ⟨w.heap.size + 1, 2, none⟩ = some (.int .i64 B.n) ∧ W.cell? ⟨w.heap.size + 1, 3, none⟩ = some (.slice bd B.args.length cb)) := Lib.hid (fun W hb => by
    obtain ⟨m00, m01, m02, m03⟩ := cellx4 ((hb.block (w.heap.size) (by omega)).trans hx0)
    obtain ⟨m10, m11, m12, m13⟩ := cellx4 ((hb.block (w.heap.size + 1) (by omega)).trans hx1)
    exact ⟨m00, m01, m02, m03, m10, m11, m12, m13⟩)
  have HST : Hid (∀ W W', Below w1.heap.size w1 W → Below W.heap.size W W' → Below w1.heap.size w1 W') := Lib.hid (fun W W' h h' => h.trans (h'.mono h.size))
  have HSW : Hid (∀ W, Below w1.heap.size w1 W → Below w.heap.size w W) := Lib.hid (fun W h => hbw1.trans (h.mono hbw1.size))
  have hK1 := HKEEP.out _ (Below.refl _ w1)
  clear hb1 hx0 hx1
  obtain ⟨aa0, aa1, aa2, aa3, bb0, bb1, bb2, bb3⟩ := hK1
  go_wp2_with fail
  refine (HBIG.out w1 hbw1 _ rfl).mono ?_; rintro e w2 ⟨rfl, hb2⟩
  have b0 : Below w1.heap.size w1 w2 := ((Below.refl _ w1).alloc (Nat.le_refl _) _).trans (hb2.mono (by simp))
  clear hb2 aa0 aa1 aa2 aa3 bb0 bb1 bb2 bb3
  cases hbg : bigL [A, B] with
  | true =>
    obtain ⟨aa0, aa1, aa2, aa3, bb0, bb1, bb2, bb3⟩ := HKEEP.out _ b0
    go_wp2_with fail
    go_ret
    exact ⟨rfl, HSW.out _ b0⟩
  | false =>
    have hMA : A.size ≤ 1000000 := by have := bigL_mem hbg (.head _); omega
    have hMB : B.size ≤ 1000000 := by have := bigL_mem hbg (.tail _ (.head _)); omega
    clear hbg
    obtain ⟨aa0, aa1, aa2, aa3, bb0, bb1, bb2, bb3⟩ := HKEEP.out _ b0
    by_cases ka : A.chk = 0
    · have HXA' := Lib.hid (HXA.out hMA)
      rw [if_pos ka, ka] at HXA'
      by_cases kb : B.chk = 0
      · have HXB' := Lib.hid (HXB.out hMB)
        rw [if_pos kb, kb] at HXB'
        have HAB' := Lib.hid (HAB.out hMA (chk_may ka) (chk_may kb))
        have HBA' := Lib.hid (HBA.out hMB (chk_may kb) (chk_may ka))
        have HSM' := Lib.hid (HSM.out hMA hMB)
        have hF := HF.out (chk_may ka) (chk_may kb)
        clear ka kb HXA HXB HAB HBA HSM HF
        generalize A.cmp B = x at *
        generalize B.cmp A = y at *
        generalize A.same B = e at *
        generalize (⟨A.txt.toArray⟩ : ByteArray) = sA at *
        generalize (⟨B.txt.toArray⟩ : ByteArray) = sB at *
        rcases hF with ⟨rfl, rfl, rfl, rfl⟩ | ⟨hx, rfl, rfl, hs⟩
        · go_wp2_with fail
          refine (HXA'.out _ (HSW.out _ b0)).mono ?_; rintro e v1 ⟨rfl, d1⟩
          have b1 := HST.out _ _ b0 d1
          clear d1 aa0 aa1 aa2 aa3 bb0 bb1 bb2 bb3
          obtain ⟨aa0, aa1, aa2, aa3, bb0, bb1, bb2, bb3⟩ := HKEEP.out _ b1
          go_wp2_with fail
          refine (HXB'.out _ (HSW.out _ b1)).mono ?_; rintro e v2 ⟨rfl, d2⟩
          have b2 := HST.out _ _ b1 d2
          clear d2 aa0 aa1 aa2 aa3 bb0 bb1 bb2 bb3
          obtain ⟨aa0, aa1, aa2, aa3, bb0, bb1, bb2, bb3⟩ := HKEEP.out _ b2
          go_wp2_with fail
          refine (HAB'.out _ (HSW.out _ b2)).mono ?_; rintro e v3 ⟨rfl, d3⟩
          have b3 := HST.out _ _ b2 d3
          clear d3 aa0 aa1 aa2 aa3 bb0 bb1 bb2 bb3
          obtain ⟨aa0, aa1, aa2, aa3, bb0, bb1, bb2, bb3⟩ := HKEEP.out _ b3
          go_wp2_with fail
          refine (HSM'.out _ (HSW.out _ b3)).mono ?_; rintro e v4 ⟨rfl, d4⟩
          have b4 := HST.out _ _ b3 d4
          clear d4 aa0 aa1 aa2 aa3 bb0 bb1 bb2 bb3
          obtain ⟨aa0, aa1, aa2, aa3, bb0, bb1, bb2, bb3⟩ := HKEEP.out _ b4
          go_wp2_with fail
          refine (HBA'.out _ (HSW.out _ b4)).mono ?_; rintro e v5 ⟨rfl, d5⟩
          have b5 := HST.out _ _ b4 d5
          clear d5 aa0 aa1 aa2 aa3 bb0 bb1 bb2 bb3
          obtain ⟨aa0, aa1, aa2, aa3, bb0, bb1, bb2, bb3⟩ := HKEEP.out _ b5
          go_wp2_with fail
          go_ret
          exact ⟨rfl, HSW.out _ b5⟩
        · have hs1 : (sA.toList == sB.toList) = false := by
            rw [beq_eq_false_iff_ne]
            intro q1
            rw [Lib.toList_data, Lib.toList_data] at q1
            exact hs (ByteArray.ext (Array.toList_inj.mp q1))
          clear hs
          rcases hx with rfl | rfl
          · go_wp2_with fail
            refine (HXA'.out _ (HSW.out _ b0)).mono ?_; rintro e v1 ⟨rfl, d1⟩
            have b1 := HST.out _ _ b0 d1
            clear d1 aa0 aa1 aa2 aa3 bb0 bb1 bb2 bb3
            obtain ⟨aa0, aa1, aa2, aa3, bb0, bb1, bb2, bb3⟩ := HKEEP.out _ b1
            go_wp2_with fail
            refine (HXB'.out _ (HSW.out _ b1)).mono ?_; rintro e v2 ⟨rfl, d2⟩
            have b2 := HST.out _ _ b1 d2
            clear d2 aa0 aa1 aa2 aa3 bb0 bb1 bb2 bb3
            obtain ⟨aa0, aa1, aa2, aa3, bb0, bb1, bb2, bb3⟩ := HKEEP.out _ b2
            go_wp2_with fail
            refine (HAB'.out _ (HSW.out _ b2)).mono ?_; rintro e v3 ⟨rfl, d3⟩
            have b3 := HST.out _ _ b2 d3
            clear d3 aa0 aa1 aa2 aa3 bb0 bb1 bb2 bb3
            obtain ⟨aa0, aa1, aa2, aa3, bb0, bb1, bb2, bb3⟩ := HKEEP.out _ b3
            go_wp2_with fail
            refine (HSM'.out _ (HSW.out _ b3)).mono ?_; rintro e v4 ⟨rfl, d4⟩
            have b4 := HST.out _ _ b3 d4
            clear d4 aa0 aa1 aa2 aa3 bb0 bb1 bb2 bb3
            obtain ⟨aa0, aa1, aa2, aa3, bb0, bb1, bb2, bb3⟩ := HKEEP.out _ b4
            go_wp2_with fail
            refine (HBA'.out _ (HSW.out _ b4)).mono ?_; rintro e v5 ⟨rfl, d5⟩
            have b5 := HST.out _ _ b4 d5
            clear d5 aa0 aa1 aa2 aa3 bb0 bb1 bb2 bb3
            obtain ⟨aa0, aa1, aa2, aa3, bb0, bb1, bb2, bb3⟩ := HKEEP.out _ b5
            go_wp2_with fail
            go_ret
            exact ⟨rfl, HSW.out _ b5⟩
          · go_wp2_with fail
            refine (HXA'.out _ (HSW.out _ b0)).mono ?_; rintro e v1 ⟨rfl, d1⟩
            have b1 := HST.out _ _ b0 d1
            clear d1 aa0 aa1 aa2 aa3 bb0 bb1 bb2 bb3
            obtain ⟨aa0, aa1, aa2, aa3, bb0, bb1, bb2, bb3⟩ := HKEEP.out _ b1
            go_wp2_with fail
            refine (HXB'.out _ (HSW.out _ b1)).mono ?_; rintro e v2 ⟨rfl, d2⟩
            have b2 := HST.out _ _ b1 d2
            clear d2 aa0 aa1 aa2 aa3 bb0 bb1 bb2 bb3
            obtain ⟨aa0, aa1, aa2, aa3, bb0, bb1, bb2, bb3⟩ := HKEEP.out _ b2
            go_wp2_with fail
            refine (HAB'.out _ (HSW.out _ b2)).mono ?_; rintro e v3 ⟨rfl, d3⟩
            have b3 := HST.out _ _ b2 d3
            clear d3 aa0 aa1 aa2 aa3 bb0 bb1 bb2 bb3
            obtain ⟨aa0, aa1, aa2, aa3, bb0, bb1, bb2, bb3⟩ := HKEEP.out _ b3
            go_wp2_with fail
            refine (HSM'.out _ (HSW.out _ b3)).mono ?_; rintro e v4 ⟨rfl, d4⟩
            have b4 := HST.out _ _ b3 d4
            clear d4 aa0 aa1 aa2 aa3 bb0 bb1 bb2 bb3
            obtain ⟨aa0, aa1, aa2, aa3, bb0, bb1, bb2, bb3⟩ := HKEEP.out _ b4
            go_wp2_with fail
            refine (HBA'.out _ (HSW.out _ b4)).mono ?_; rintro e v5 ⟨rfl, d5⟩
            have b5 := HST.out _ _ b4 d5
            clear d5 aa0 aa1 aa2 aa3 bb0 bb1 bb2 bb3
            obtain ⟨aa0, aa1, aa2, aa3, bb0, bb1, bb2, bb3⟩ := HKEEP.out _ b5
            go_wp2_with fail
            go_ret
            exact ⟨rfl, HSW.out _ b5⟩
      · have eb : (B.chk != 0) = true := by simpa using kb
        have HXB' := Lib.hid (HXB.out hMB)
        rw [if_neg kb] at HXB'
        clear kb ka HXA HXB HAB HBA HSM HF
        generalize B.chk = kbb at *
        generalize (⟨A.txt.toArray⟩ : ByteArray) = sA at *
        generalize (⟨([] : List UInt8).toArray⟩ : ByteArray) = sB at *
        go_wp2_with fail
        refine (HXA'.out _ (HSW.out _ b0)).mono ?_; rintro e v1 ⟨rfl, d1⟩
        have b1 := HST.out _ _ b0 d1
        clear d1 aa0 aa1 aa2 aa3 bb0 bb1 bb2 bb3
        obtain ⟨aa0, aa1, aa2, aa3, bb0, bb1, bb2, bb3⟩ := HKEEP.out _ b1
        go_wp2_with fail
        refine (HXB'.out _ (HSW.out _ b1)).mono ?_; rintro e v2 ⟨rfl, d2⟩
        have b2 := HST.out _ _ b1 d2
        clear d2 aa0 aa1 aa2 aa3 bb0 bb1 bb2 bb3
        obtain ⟨aa0, aa1, aa2, aa3, bb0, bb1, bb2, bb3⟩ := HKEEP.out _ b2
        go_wp2_with fail
        go_ret
        exact ⟨rfl, HSW.out _ b2⟩
    · have ea : (A.chk != 0) = true := by simpa using ka
      have HXA' := Lib.hid (HXA.out hMA)
      rw [if_neg ka] at HXA'
      have HXB' := Lib.hid (HXB.out hMB)
      clear ka HXA HXB HAB HBA HSM HF
      generalize A.chk = kaa at *
      generalize (⟨([] : List UInt8).toArray⟩ : ByteArray) = sA at *
      generalize (⟨(if B.chk = 0 then B.txt else []).toArray⟩ : ByteArray) = sB at *
      generalize B.chk = kbb at *
      go_wp2_with fail
      refine (HXA'.out _ (HSW.out _ b0)).mono ?_; rintro e v1 ⟨rfl, d1⟩
      have b1 := HST.out _ _ b0 d1
      clear d1 aa0 aa1 aa2 aa3 bb0 bb1 bb2 bb3
      obtain ⟨aa0, aa1, aa2, aa3, bb0, bb1, bb2, bb3⟩ := HKEEP.out _ b1
      go_wp2_with fail
      refine (HXB'.out _ (HSW.out _ b1)).mono ?_; rintro e v2 ⟨rfl, d2⟩
      have b2 := HST.out _ _ b1 d2
      clear d2 aa0 aa1 aa2 aa3 bb0 bb1 bb2 bb3
      obtain ⟨aa0, aa1, aa2, aa3, bb0, bb1, bb2, bb3⟩ := HKEEP.out _ b2
      go_wp2_with fail
      go_ret
      exact ⟨rfl, HSW.out _ b2⟩
end Go.Proofs.YthfdiclmbbngcaaDoor
