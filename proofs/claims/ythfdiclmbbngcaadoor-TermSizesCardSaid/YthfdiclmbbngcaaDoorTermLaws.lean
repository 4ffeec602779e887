/-
  Joined texts: TermLawA, TermLawB, TermLaw2, TermLawC, TermLawD, TermLawE.
-/
import Derived.Test.YthfdiclmbbngcaaDoorTermDev
import Derived.Test.YthfdiclmbbngcaaDoorTermBig

/-
  The walk of the law TermChecks.
-/
namespace Go.Proofs.YthfdiclmbbngcaaDoor
open Go.RowKit

/-- What the laws' helper live must answer. -/
def Lives : Prop := ∀ w, AllT w → Calls Tryd.prog 12 #[] w fun e w' => e = .returned (.bool true) ∧ Below w.heap.size w w'
/-- A row of one term, just laid. -/
theorem row1 {w w0 : World} {T : Tm} {ad : Option Addr} {cap : Nat} (h : TmIn w T ad cap) (hb : Below w.heap.size w w0) (g : Nat) (hg : g = w0.heap.size) :
    TArgs (w0.alloc (.cells #[.int .i64 T.kind, .string T.name, .int .i64 T.n, .slice ad T.args.length cap] 24)) (some ⟨g, 0, none⟩) [T] := by
  subst hg
  rw [T.eta]
  exact .cons _ _ _ _ _ _ _ ad cap (World.cell?_alloc_at _ _ _ _ rfl) (World.cell?_alloc_at _ _ _ _ rfl) (World.cell?_alloc_at _ _ _ _ rfl) (World.cell?_alloc_at _ _ _ _ rfl) h.kind h.n h.name h.len h.cap (h.args.on (hb.alloc hb.size _)) (.nil _)
theorem below_step {w w1 w2 : World} (h1 : Below w.heap.size w w1) (h2 : Below w1.heap.size w1 w2) : Below w.heap.size w w2 := h1.trans (h2.mono h1.size)

set_option maxRecDepth 100000 in
set_option maxHeartbeats 4000000 in
theorem walk_TermChecks (T : Tm) (ad : Option Addr) (cap : Nat) (w : World) (hin : TmIn w T ad cap) (hT : AllT w) (hLive : Lives) :
    Calls Tryd.prog 3 #[tmv T ad cap] w fun e w' => e = .returned (.bool true) ∧ Below w.heap.size w w' := by
  have HB := Lib.hid (fun o : Obj => (Below.refl w.heap.size w).alloc (Nat.le_refl _) o)
  have HL := Lib.hid hLive
  have HT := Lib.hid hT
  have HI := Lib.hid hin
  have HBIG := Lib.hid (fun (w0 : World) (hb : Below w.heap.size w w0) (g : Nat) (hg : g = w0.heap.size) => law_big [T] (some ⟨g, 0, none⟩) 1 (w0.alloc (.cells #[.int .i64 T.kind, .string T.name, .int .i64 T.n, .slice ad T.args.length cap] 24)) (Nat.le_refl 1) (by decide) (row1 hin hb g hg))
  have HC1 := Lib.hid (fun hM W (h : Below w.heap.size w W) => term_Check T ad cap W hM (hT.on h).u (hin.on h))
  have HC2 := Lib.hid (fun hM W (h : Below w.heap.size w W) => ref_TermCheck T ad cap W hM (hT.on h).u (hin.on h))
  have HD1 := Lib.hid (fun hM W (h : Below w.heap.size w W) => term_Deep T ad cap W hM (hin.on h))
  have HD2 := Lib.hid (fun hM W (h : Below w.heap.size w W) => ref_Deep T.size T ad cap W (Nat.le_refl _) hM (hin.on h))
  have HS1 := Lib.hid (fun hM W (h : Below w.heap.size w W) => term_Size T ad cap W hM (hin.on h))
  have HS2 := Lib.hid (fun hM W (h : Below w.heap.size w W) => ref_Size T.size T ad cap W (Nat.le_refl _) hM (hin.on h))
  clear hin hT hLive
  unfold tmv at *
  go_enter Tryd.func3, Tryd.ntmps3
  go_wp2_with fail
  refine (HL.out _ (HT.out.on (HB.out _))).mono ?_; rintro e w1 ⟨rfl, hb1⟩
  have hbw1 := below_step (HB.out _) hb1
  obtain ⟨hc, hf⟩ := bcell_alloc hb1
  have HKEEP : Hid (∀ W, Below w1.heap.size w1 W → Below w1.heap.size w1 W ∧ W.cell? ⟨w.heap.size, 0, none⟩ = some (.int .i64 T.kind) ∧ W.cell? ⟨w.heap.size, 1, none⟩ = some (.string T.name) ∧ W.cell? ⟨w.heap.size, 2, none⟩ = some (.int .i64 T.n) ∧ W.cell? ⟨w.heap.size, 3, none⟩ = some (.slice ad T.args.length cap)) := by
    have hlt : w.heap.size < w1.heap.size := by have := hb1.size; rw [World.size_alloc] at this; omega
    exact Lib.hid (fun W hb => ⟨hb, (hb.cell (p := ⟨w.heap.size, 0, none⟩) hlt).trans (hc 0), (hb.cell (p := ⟨w.heap.size, 1, none⟩) hlt).trans (hc 1), (hb.cell (p := ⟨w.heap.size, 2, none⟩) hlt).trans (hc 2), (hb.cell (p := ⟨w.heap.size, 3, none⟩) hlt).trans (hc 3)⟩)
  clear hb1
  go_wp2_with fail
  refine (HBIG.out w1 hbw1 _ rfl).mono ?_; rintro e w2 ⟨rfl, hb2⟩
  have hw12 : Below w1.heap.size w1 w2 := ((Below.refl _ w1).alloc (Nat.le_refl _) _).trans (hb2.mono (by simp))
  clear hc hf hb2
  cases hbg : bigL [T] with
  | true =>
    have hbw2 := below_step hbw1 hw12
    go_wp2_with fail
    go_ret
    exact ⟨rfl, hbw2⟩
  | false =>
    have hM : T.size ≤ 1000000 := by have := bigL_one T hbg; omega
    clear hbg
    go_wp2_with fail
    have HST : Hid (∀ W W', Below w1.heap.size w1 W → Below W.heap.size W W' → Below w1.heap.size w1 W') := Lib.hid (fun W W' h h' => h.trans (h'.mono h.size))
    have HSW : Hid (∀ W, Below w1.heap.size w1 W → Below w.heap.size w W) := Lib.hid (fun W h => below_step hbw1 h)
    have hD0 : Below w1.heap.size w1 w2.drew := hw12.drew
    have hK0 := HKEEP.out _ hw12
    have eC : (T.chk == T.chk) = true := by simp
    have eD : (((T.deep : Nat) : Int) == ((T.deep : Nat) : Int)) = true := by simp
    have eS : (((T.size : Nat) : Int) == ((T.size : Nat) : Int)) = true := by simp
    clear hw12
    go_region_held3 (fun W => Below w1.heap.size w1 W ∧ W.cell? ⟨w.heap.size, 0, none⟩ = some (.int .i64 T.kind) ∧ W.cell? ⟨w.heap.size, 1, none⟩ = some (.string T.name) ∧ W.cell? ⟨w.heap.size, 2, none⟩ = some (.int .i64 T.n) ∧ W.cell? ⟨w.heap.size, 3, none⟩ = some (.slice ad T.args.length cap))
      (first | exact HKEEP.out _ hD0 | exact HKEEP.out _ b6 | exact HKEEP.out _ b5 | exact HKEEP.out _ b4 | exact HKEEP.out _ b3 | exact HKEEP.out _ b2 | exact HKEEP.out _ b1)
      (first
        | (go_at_call 14; (with_reducible refine (HC1.out hM _ (HSW.out _ hD0)).mono ?_); rintro e v1 ⟨rfl, c1⟩; have b1 := HST.out _ _ hD0 c1)
        | (go_at_call 15; (with_reducible refine (HC2.out hM _ (HSW.out _ b1)).mono ?_); rintro e v2 ⟨rfl, c2⟩; have b2 := HST.out _ _ b1 c2)
        | (go_at_call 16; (with_reducible refine (HD1.out hM _ (HSW.out _ b2)).mono ?_); rintro e v3 ⟨rfl, c3⟩; have b3 := HST.out _ _ b2 c3)
        | (go_at_call 17; (with_reducible refine (HD2.out hM _ (HSW.out _ b3)).mono ?_); rintro e v4 ⟨rfl, c4⟩; have b4 := HST.out _ _ b3 c4)
        | (go_at_call 18; (with_reducible refine (HS1.out hM _ (HSW.out _ b4)).mono ?_); rintro e v5 ⟨rfl, c5⟩; have b5 := HST.out _ _ b4 c5)
        | (go_at_call 19; (with_reducible refine (HS2.out hM _ (HSW.out _ b5)).mono ?_); rintro e v6 ⟨rfl, c6⟩; have b6 := HST.out _ _ b5 c6))
    all_goals
      go_wp2_with fail
      go_ret
      exact ⟨rfl, HSW.out _ b6⟩
end Go.Proofs.YthfdiclmbbngcaaDoor

/-
  The walk of the law TermTexts.
-/
namespace Go.Proofs.YthfdiclmbbngcaaDoor
open Go.RowKit

set_option maxRecDepth 100000 in
set_option maxHeartbeats 4000000 in
theorem walk_TermTexts (T : Tm) (ad : Option Addr) (cap : Nat) (w : World) (hin : TmIn w T ad cap) (hT : AllT w) (hLive : Lives) :
    Calls Tryd.prog 6 #[tmv T ad cap] w fun e w' => e = .returned (.bool true) ∧ Below w.heap.size w w' := by
  have HB := Lib.hid (fun o : Obj => (Below.refl w.heap.size w).alloc (Nat.le_refl _) o)
  have HL := Lib.hid hLive
  have HT := Lib.hid hT
  have HBIG := Lib.hid (fun (w0 : World) (hb : Below w.heap.size w w0) (g : Nat) (hg : g = w0.heap.size) => law_big [T] (some ⟨g, 0, none⟩) 1 (w0.alloc (.cells #[.int .i64 T.kind, .string T.name, .int .i64 T.n, .slice ad T.args.length cap] 24)) (Nat.le_refl 1) (by decide) (row1 hin hb g hg))
  have HC1 := Lib.hid (fun hM W (h : Below w.heap.size w W) => term_Text T ad cap W hM (hT.on h) (hin.on h))
  have HC2 := Lib.hid (fun hM W (h : Below w.heap.size w W) => ref_TermText T ad cap W hM (hT.on h).u (hin.on h))
  clear hin hT hLive
  generalize (if T.chk = 0 then T.txt else []) = tx at *
  generalize T.chk = ck at *
  unfold tmv at *
  go_enter Tryd.func6, Tryd.ntmps6
  go_wp2_with fail
  refine (HL.out _ (HT.out.on (HB.out _))).mono ?_; rintro e w1 ⟨rfl, hb1⟩
  have hbw1 := below_step (HB.out _) hb1
  obtain ⟨hc, hf⟩ := bcell_alloc hb1
  have hlt : w.heap.size < w1.heap.size := by have := hb1.size; rw [World.size_alloc] at this; omega
  have HKEEP : Hid (∀ W, Below w1.heap.size w1 W → W.cell? ⟨w.heap.size, 0, none⟩ = some (.int .i64 T.kind) ∧ W.cell? ⟨w.heap.size, 1, none⟩ = some (.string T.name) ∧ W.cell? ⟨w.heap.size, 2, none⟩ = some (.int .i64 T.n) ∧ W.cell? ⟨w.heap.size, 3, none⟩ = some (.slice ad T.args.length cap)) := by
    exact Lib.hid (fun W hb => ⟨(hb.cell (p := ⟨w.heap.size, 0, none⟩) hlt).trans (hc 0), (hb.cell (p := ⟨w.heap.size, 1, none⟩) hlt).trans (hc 1), (hb.cell (p := ⟨w.heap.size, 2, none⟩) hlt).trans (hc 2), (hb.cell (p := ⟨w.heap.size, 3, none⟩) hlt).trans (hc 3)⟩)
  clear hb1
  go_wp2_with fail
  refine (HBIG.out w1 hbw1 _ rfl).mono ?_; rintro e w2 ⟨rfl, hb2⟩
  have hw12 : Below w1.heap.size w1 w2 := ((Below.refl _ w1).alloc (Nat.le_refl _) _).trans (hb2.mono (by simp))
  have hbw2 := below_step hbw1 hw12
  clear hc hf hb2
  cases hbg : bigL [T] with
  | true =>
    go_wp2_with fail
    go_ret
    exact ⟨rfl, hbw2⟩
  | false =>
    have hM : T.size ≤ 1000000 := by have := bigL_one T hbg; omega
    obtain ⟨d0, d1, d2, d3⟩ := HKEEP.out _ hw12
    clear hbg
    go_wp2_with fail
    refine (HC1.out hM _ hbw2).mono ?_; rintro e w3 ⟨rfl, hb3⟩
    have hw13 := hw12.trans (hb3.mono hw12.size)
    have hbw3 := below_step hbw1 hw13
    obtain ⟨e0, e1, e2, e3⟩ := HKEEP.out _ hw13
    clear hb3 d0 d1 d2 d3
    go_wp2_with fail
    refine (HC2.out hM _ hbw3).mono ?_; rintro e w4 ⟨rfl, hb4⟩
    have hbw4 := below_step hbw3 hb4
    clear hb4 e0 e1 e2 e3
    go_wp2_with fail
    go_ret
    exact ⟨rfl, hbw4⟩
end Go.Proofs.YthfdiclmbbngcaaDoor

/-
  What the laws over two and three terms share: rows of two and three terms, just laid; their boxes.
-/
namespace Go.Proofs.YthfdiclmbbngcaaDoor
open Go.RowKit

theorem row2 {w w0 : World} {A B : Tm} {ad bd : Option Addr} {ca cb : Nat} (hA : TmIn w A ad ca) (hB : TmIn w B bd cb) (hb : Below w.heap.size w w0) (g : Nat) (hg : g = w0.heap.size) :
    TArgs (w0.alloc (.cells #[.int .i64 A.kind, .string A.name, .int .i64 A.n, .slice ad A.args.length ca, .int .i64 B.kind, .string B.name, .int .i64 B.n, .slice bd B.args.length cb] 24)) (some ⟨g, 0, none⟩) [A, B] := by
  subst hg
  have h1 := hA.args.on (hb.alloc hb.size (.cells #[.int .i64 A.kind, .string A.name, .int .i64 A.n, .slice ad A.args.length ca, .int .i64 B.kind, .string B.name, .int .i64 B.n, .slice bd B.args.length cb] 24))
  have h2 := hB.args.on (hb.alloc hb.size (.cells #[.int .i64 A.kind, .string A.name, .int .i64 A.n, .slice ad A.args.length ca, .int .i64 B.kind, .string B.name, .int .i64 B.n, .slice bd B.args.length cb] 24))
  rw [A.eta, B.eta]
  exact .cons _ _ _ _ _ _ _ ad ca (World.cell?_alloc_at _ _ _ _ rfl) (World.cell?_alloc_at _ _ _ _ rfl) (World.cell?_alloc_at _ _ _ _ rfl) (World.cell?_alloc_at _ _ _ _ rfl) hA.kind hA.n hA.name hA.len hA.cap h1
    (.cons _ _ _ _ _ _ _ bd cb (World.cell?_alloc_at _ _ _ _ rfl) (World.cell?_alloc_at _ _ _ _ rfl) (World.cell?_alloc_at _ _ _ _ rfl) (World.cell?_alloc_at _ _ _ _ rfl) hB.kind hB.n hB.name hB.len hB.cap h2 (.nil _))
theorem row3' {w w0 : World} {A B C : Tm} {ad bd cd : Option Addr} {ca cb cc : Nat} (hA : TmIn w A ad ca) (hB : TmIn w B bd cb) (hC : TmIn w C cd cc) (hb : Below w.heap.size w w0) (g : Nat) (hg : g = w0.heap.size) :
    TArgs (w0.alloc (.cells #[.int .i64 A.kind, .string A.name, .int .i64 A.n, .slice ad A.args.length ca, .int .i64 B.kind, .string B.name, .int .i64 B.n, .slice bd B.args.length cb, .int .i64 C.kind, .string C.name, .int .i64 C.n, .slice cd C.args.length cc] 24)) (some ⟨g, 0, none⟩) [A, B, C] := by
  subst hg
  have h1 := hA.args.on (hb.alloc hb.size (.cells #[.int .i64 A.kind, .string A.name, .int .i64 A.n, .slice ad A.args.length ca, .int .i64 B.kind, .string B.name, .int .i64 B.n, .slice bd B.args.length cb, .int .i64 C.kind, .string C.name, .int .i64 C.n, .slice cd C.args.length cc] 24))
  have h2 := hB.args.on (hb.alloc hb.size (.cells #[.int .i64 A.kind, .string A.name, .int .i64 A.n, .slice ad A.args.length ca, .int .i64 B.kind, .string B.name, .int .i64 B.n, .slice bd B.args.length cb, .int .i64 C.kind, .string C.name, .int .i64 C.n, .slice cd C.args.length cc] 24))
  have h3 := hC.args.on (hb.alloc hb.size (.cells #[.int .i64 A.kind, .string A.name, .int .i64 A.n, .slice ad A.args.length ca, .int .i64 B.kind, .string B.name, .int .i64 B.n, .slice bd B.args.length cb, .int .i64 C.kind, .string C.name, .int .i64 C.n, .slice cd C.args.length cc] 24))
  rw [A.eta, B.eta, C.eta]
  exact .cons _ _ _ _ _ _ _ ad ca (World.cell?_alloc_at _ _ _ _ rfl) (World.cell?_alloc_at _ _ _ _ rfl) (World.cell?_alloc_at _ _ _ _ rfl) (World.cell?_alloc_at _ _ _ _ rfl) hA.kind hA.n hA.name hA.len hA.cap h1
    (.cons _ _ _ _ _ _ _ bd cb (World.cell?_alloc_at _ _ _ _ rfl) (World.cell?_alloc_at _ _ _ _ rfl) (World.cell?_alloc_at _ _ _ _ rfl) (World.cell?_alloc_at _ _ _ _ rfl) hB.kind hB.n hB.name hB.len hB.cap h2
      (.cons _ _ _ _ _ _ _ cd cc (World.cell?_alloc_at _ _ _ _ rfl) (World.cell?_alloc_at _ _ _ _ rfl) (World.cell?_alloc_at _ _ _ _ rfl) (World.cell?_alloc_at _ _ _ _ rfl) hC.kind hC.n hC.name hC.len hC.cap h3 (.nil _)))
/-- The boxes of two and three terms, behind whatever leaves what is old. -/
theorem boxes2 {w w1 : World} {o1 o2 : Obj} (hb : Below ((w.alloc o1).alloc o2).heap.size ((w.alloc o1).alloc o2) w1) : Below w.heap.size w w1 ∧ w.heap.size + 2 ≤ w1.heap.size ∧ w1.heap[w.heap.size]? = some o1 ∧ w1.heap[w.heap.size + 1]? = some o2 := by
  obtain ⟨h1, h2, h3⟩ := allocs_facts [o1, o2] w
  have hs := hb.size
  have e : ((w.alloc o1).alloc o2).heap.size = w.heap.size + 2 := by simp
  rw [e] at hs hb
  exact ⟨h2.trans (hb.mono (by omega)), hs, (hb.block _ (by omega)).trans (h3 0 o1 rfl), (hb.block _ (by omega)).trans (h3 1 o2 rfl)⟩
theorem boxes3 {w w1 : World} {o1 o2 o3 : Obj} (hb : Below (((w.alloc o1).alloc o2).alloc o3).heap.size (((w.alloc o1).alloc o2).alloc o3) w1) : Below w.heap.size w w1 ∧ w.heap.size + 3 ≤ w1.heap.size ∧ w1.heap[w.heap.size]? = some o1 ∧ w1.heap[w.heap.size + 1]? = some o2 ∧ w1.heap[w.heap.size + 2]? = some o3 := by
  obtain ⟨h1, h2, h3⟩ := allocs_facts [o1, o2, o3] w
  have hs := hb.size
  have e : (((w.alloc o1).alloc o2).alloc o3).heap.size = w.heap.size + 3 := by simp
  rw [e] at hs hb
  exact ⟨h2.trans (hb.mono (by omega)), hs, (hb.block _ (by omega)).trans (h3 0 o1 rfl), (hb.block _ (by omega)).trans (h3 1 o2 rfl), (hb.block _ (by omega)).trans (h3 2 o3 rfl)⟩
end Go.Proofs.YthfdiclmbbngcaaDoor

/-
  The walk of the law TermOrders.
-/
namespace Go.Proofs.YthfdiclmbbngcaaDoor
open Go.RowKit

theorem chk_may {T : Tm} (h : T.chk = 0) : T.may = true := by
  unfold Tm.chk at h
  cases e : T.may with
  | true => rfl
  | false => rw [e] at h; cases h

set_option maxRecDepth 100000 in
set_option maxHeartbeats 2000000 in
theorem walk_TermOrders (A : Tm) (B : Tm) (C : Tm) (ad : Option Addr) (bd : Option Addr) (cd : Option Addr) (ca : Nat) (cb : Nat) (cc : Nat)  (w : World) (hA : TmIn w A ad ca) (hB : TmIn w B bd cb) (hC : TmIn w C cd cc) (hT : AllT w) (hLive : Lives) :
    Calls Tryd.prog 8 #[tmv A ad ca, tmv B bd cb, tmv C cd cc] w fun e w' => e = .returned (.bool true) ∧ Below w.heap.size w w' := by
  have HB := Lib.hid (fun o0 o1 o2 : Obj => allocs_facts [o0, o1, o2] w)
  have HL := Lib.hid hLive
  have HT := Lib.hid hT
  have HBIG := Lib.hid (fun (w0 : World) (hb : Below w.heap.size w w0) (g : Nat) (hg : g = w0.heap.size) => law_big [A, B, C] (some ⟨g, 0, none⟩) 3 (w0.alloc (.cells #[.int .i64 A.kind, .string A.name, .int .i64 A.n, .slice ad A.args.length ca, .int .i64 B.kind, .string B.name, .int .i64 B.n, .slice bd B.args.length cb, .int .i64 C.kind, .string C.name, .int .i64 C.n, .slice cd C.args.length cc] 24)) (Nat.le_refl 3) (by decide) (row3' hA hB hC hb g hg))
  have HKA := Lib.hid (fun hM W (h : Below w.heap.size w W) => term_Check A ad ca W hM (hT.on h).u (hA.on h))
  have HKB := Lib.hid (fun hM W (h : Below w.heap.size w W) => term_Check B bd cb W hM (hT.on h).u (hB.on h))
  have HKC := Lib.hid (fun hM W (h : Below w.heap.size w W) => term_Check C cd cc W hM (hT.on h).u (hC.on h))
  have HAB := Lib.hid (fun hM m1 m2 W (h : Below w.heap.size w W) => term_Compare A B ad bd ca cb W hM m1 m2 (hA.on h) (hB.on h))
  have HBC := Lib.hid (fun hM m1 m2 W (h : Below w.heap.size w W) => term_Compare B C bd cd cb cc W hM m1 m2 (hB.on h) (hC.on h))
  have HAC := Lib.hid (fun hM m1 m2 W (h : Below w.heap.size w W) => term_Compare A C ad cd ca cc W hM m1 m2 (hA.on h) (hC.on h))
  clear hA hB hC hT hLive
  unfold tmv at *
  go_enter Tryd.func8, Tryd.ntmps8
  go_wp2_with fail
  refine (HL.out _ (HT.out.on (HB.out _ _ _).2.1)).mono ?_; rintro e w1 ⟨rfl, hb1⟩
  obtain ⟨hbw1, hsz1, hx0, hx1, hx2⟩ := boxes3 hb1
  have HKEEP : Hid (∀ W, Below w1.heap.size w1 W → W.cell? ⟨w.heap.size, 0, none⟩ = some (.int .i64 A.kind) ∧ W.cell? ⟨w.heap.size, 1, none⟩ = some (.string A.name) ∧ W.cell? ⟨w.heap.size, 2, none⟩ = some (.int .i64 A.n) ∧ W.cell? ⟨w.heap.size, 3, none⟩ = some (.slice ad A.args.length ca) ∧ W.cell? ⟨w.heap.size + 1, 0, none⟩ = some (.int .i64 B.kind) ∧ W.cell? ⟨w.heap.size + 1, 1, none⟩ = some (.string B.name) ∧ W.cell? ⟨w.heap.size + 1, 2, none⟩ = some (.int .i64 B.n) ∧ W.cell? ⟨w.heap.size + 1, 3, none⟩ = some (.slice bd B.args.length cb) ∧ W.cell? ⟨w.heap.size + 2, 0, none⟩ = some (.int .i64 C.kind) ∧ W.cell? ⟨w.heap.size + 2, 1, none⟩ = some (.string C.name) ∧ W.cell? ⟨w.heap.size + 2, 2, none⟩ = some (.int .i64 C.n) ∧ W.cell? ⟨w.heap.size + 2, 3, none⟩ = some (.slice cd C.args.length cc)) := Lib.hid (fun W hb => by
    obtain ⟨m00, m01, m02, m03⟩ := cellx4 ((hb.block (w.heap.size) (by omega)).trans hx0)
    obtain ⟨m10, m11, m12, m13⟩ := cellx4 ((hb.block (w.heap.size + 1) (by omega)).trans hx1)
    obtain ⟨m20, m21, m22, m23⟩ := cellx4 ((hb.block (w.heap.size + 2) (by omega)).trans hx2)
    exact ⟨m00, m01, m02, m03, m10, m11, m12, m13, m20, m21, m22, m23⟩)
  have HST : Hid (∀ W W', Below w1.heap.size w1 W → Below W.heap.size W W' → Below w1.heap.size w1 W') := Lib.hid (fun W W' h h' => h.trans (h'.mono h.size))
  have HSW : Hid (∀ W, Below w1.heap.size w1 W → Below w.heap.size w W) := Lib.hid (fun W h => hbw1.trans (h.mono hbw1.size))
  have hK1 := HKEEP.out _ (Below.refl _ w1)
  clear hb1 hx0 hx1 hx2
  obtain ⟨aa0, aa1, aa2, aa3, bb0, bb1, bb2, bb3, cc0, cc1, cc2, cc3⟩ := hK1
  go_wp2_with fail
  refine (HBIG.out w1 hbw1 _ rfl).mono ?_; rintro e w2 ⟨rfl, hb2⟩
  have b0 : Below w1.heap.size w1 w2 := ((Below.refl _ w1).alloc (Nat.le_refl _) _).trans (hb2.mono (by simp))
  clear hb2 aa0 aa1 aa2 aa3 bb0 bb1 bb2 bb3 cc0 cc1 cc2 cc3
  cases hbg : bigL [A, B, C] with
  | true =>
    obtain ⟨aa0, aa1, aa2, aa3, bb0, bb1, bb2, bb3, cc0, cc1, cc2, cc3⟩ := HKEEP.out _ b0
    go_wp2_with fail
    go_ret
    exact ⟨rfl, HSW.out _ b0⟩
  | false =>
    have hMA : A.size ≤ 1000000 := by have := bigL_mem hbg (.head _); omega
    have hMB : B.size ≤ 1000000 := by have := bigL_mem hbg (.tail _ (.head _)); omega
    have hMC : C.size ≤ 1000000 := by have := bigL_mem hbg (.tail _ (.tail _ (.head _))); omega
    clear hbg
    obtain ⟨aa0, aa1, aa2, aa3, bb0, bb1, bb2, bb3, cc0, cc1, cc2, cc3⟩ := HKEEP.out _ b0
    by_cases ka : A.chk = 0
    · have mA := chk_may ka
      have HKA' := Lib.hid (HKA.out hMA)
      rw [ka] at HKA'
      by_cases kb : B.chk = 0
      · have mB := chk_may kb
        have HKB' := Lib.hid (HKB.out hMB)
        rw [kb] at HKB'
        by_cases kc : C.chk = 0
        · have mC := chk_may kc
          have HKC' := Lib.hid (HKC.out hMC)
          rw [kc] at HKC'
          have HAB' := Lib.hid (HAB.out hMA mA mB)
          have HBC' := Lib.hid (HBC.out hMB mB mC)
          have HAC' := Lib.hid (HAC.out hMA mA mC)
          have hgo : Hid (A.cmp B ≤ 0 → B.cmp C ≤ 0 → A.cmp C ≤ 0) := Lib.hid (fun h1 h2 => cmp_goes mA mB mC h1 h2)
          clear ka kb kc mA mB mC HKA HKB HKC HAB HBC HAC
          generalize A.cmp B = x1 at *
          generalize B.cmp C = x2 at *
          generalize A.cmp C = x3 at *
          by_cases p1 : 0 < x1
          · go_wp2_with fail
            refine (HKA'.out _ (HSW.out _ b0)).mono ?_; rintro e v1 ⟨rfl, d1⟩
            have b1 := HST.out _ _ b0 d1
            clear d1 aa0 aa1 aa2 aa3 bb0 bb1 bb2 bb3 cc0 cc1 cc2 cc3
            obtain ⟨aa0, aa1, aa2, aa3, bb0, bb1, bb2, bb3, cc0, cc1, cc2, cc3⟩ := HKEEP.out _ b1
            go_wp2_with fail
            refine (HKB'.out _ (HSW.out _ b1)).mono ?_; rintro e v2 ⟨rfl, d2⟩
            have b2 := HST.out _ _ b1 d2
            clear d2 aa0 aa1 aa2 aa3 bb0 bb1 bb2 bb3 cc0 cc1 cc2 cc3
            obtain ⟨aa0, aa1, aa2, aa3, bb0, bb1, bb2, bb3, cc0, cc1, cc2, cc3⟩ := HKEEP.out _ b2
            go_wp2_with fail
            refine (HKC'.out _ (HSW.out _ b2)).mono ?_; rintro e v3 ⟨rfl, d3⟩
            have b3 := HST.out _ _ b2 d3
            clear d3 aa0 aa1 aa2 aa3 bb0 bb1 bb2 bb3 cc0 cc1 cc2 cc3
            obtain ⟨aa0, aa1, aa2, aa3, bb0, bb1, bb2, bb3, cc0, cc1, cc2, cc3⟩ := HKEEP.out _ b3
            go_wp2_with fail
            refine (HAB'.out _ (HSW.out _ b3)).mono ?_; rintro e v4 ⟨rfl, d4⟩
            have b4 := HST.out _ _ b3 d4
            clear d4 aa0 aa1 aa2 aa3 bb0 bb1 bb2 bb3 cc0 cc1 cc2 cc3
            obtain ⟨aa0, aa1, aa2, aa3, bb0, bb1, bb2, bb3, cc0, cc1, cc2, cc3⟩ := HKEEP.out _ b4
            go_wp2_with fail
            go_ret
            exact ⟨rfl, HSW.out _ b4⟩
          · by_cases p2 : 0 < x2
            · go_wp2_with fail
              refine (HKA'.out _ (HSW.out _ b0)).mono ?_; rintro e v1 ⟨rfl, d1⟩
              have b1 := HST.out _ _ b0 d1
              clear d1 aa0 aa1 aa2 aa3 bb0 bb1 bb2 bb3 cc0 cc1 cc2 cc3
              obtain ⟨aa0, aa1, aa2, aa3, bb0, bb1, bb2, bb3, cc0, cc1, cc2, cc3⟩ := HKEEP.out _ b1
              go_wp2_with fail
              refine (HKB'.out _ (HSW.out _ b1)).mono ?_; rintro e v2 ⟨rfl, d2⟩
              have b2 := HST.out _ _ b1 d2
              clear d2 aa0 aa1 aa2 aa3 bb0 bb1 bb2 bb3 cc0 cc1 cc2 cc3
              obtain ⟨aa0, aa1, aa2, aa3, bb0, bb1, bb2, bb3, cc0, cc1, cc2, cc3⟩ := HKEEP.out _ b2
              go_wp2_with fail
              refine (HKC'.out _ (HSW.out _ b2)).mono ?_; rintro e v3 ⟨rfl, d3⟩
              have b3 := HST.out _ _ b2 d3
              clear d3 aa0 aa1 aa2 aa3 bb0 bb1 bb2 bb3 cc0 cc1 cc2 cc3
              obtain ⟨aa0, aa1, aa2, aa3, bb0, bb1, bb2, bb3, cc0, cc1, cc2, cc3⟩ := HKEEP.out _ b3
              go_wp2_with fail
              refine (HAB'.out _ (HSW.out _ b3)).mono ?_; rintro e v4 ⟨rfl, d4⟩
              have b4 := HST.out _ _ b3 d4
              clear d4 aa0 aa1 aa2 aa3 bb0 bb1 bb2 bb3 cc0 cc1 cc2 cc3
              obtain ⟨aa0, aa1, aa2, aa3, bb0, bb1, bb2, bb3, cc0, cc1, cc2, cc3⟩ := HKEEP.out _ b4
              go_wp2_with fail
              refine (HBC'.out _ (HSW.out _ b4)).mono ?_; rintro e v5 ⟨rfl, d5⟩
              have b5 := HST.out _ _ b4 d5
              clear d5 aa0 aa1 aa2 aa3 bb0 bb1 bb2 bb3 cc0 cc1 cc2 cc3
              obtain ⟨aa0, aa1, aa2, aa3, bb0, bb1, bb2, bb3, cc0, cc1, cc2, cc3⟩ := HKEEP.out _ b5
              go_wp2_with fail
              go_ret
              exact ⟨rfl, HSW.out _ b5⟩
            · have p3 : x3 ≤ 0 := hgo.out (by omega) (by omega)
              go_wp2_with fail
              refine (HKA'.out _ (HSW.out _ b0)).mono ?_; rintro e v1 ⟨rfl, d1⟩
              have b1 := HST.out _ _ b0 d1
              clear d1 aa0 aa1 aa2 aa3 bb0 bb1 bb2 bb3 cc0 cc1 cc2 cc3
              obtain ⟨aa0, aa1, aa2, aa3, bb0, bb1, bb2, bb3, cc0, cc1, cc2, cc3⟩ := HKEEP.out _ b1
              go_wp2_with fail
              refine (HKB'.out _ (HSW.out _ b1)).mono ?_; rintro e v2 ⟨rfl, d2⟩
              have b2 := HST.out _ _ b1 d2
              clear d2 aa0 aa1 aa2 aa3 bb0 bb1 bb2 bb3 cc0 cc1 cc2 cc3
              obtain ⟨aa0, aa1, aa2, aa3, bb0, bb1, bb2, bb3, cc0, cc1, cc2, cc3⟩ := HKEEP.out _ b2
              go_wp2_with fail
              refine (HKC'.out _ (HSW.out _ b2)).mono ?_; rintro e v3 ⟨rfl, d3⟩
              have b3 := HST.out _ _ b2 d3
              clear d3 aa0 aa1 aa2 aa3 bb0 bb1 bb2 bb3 cc0 cc1 cc2 cc3
              obtain ⟨aa0, aa1, aa2, aa3, bb0, bb1, bb2, bb3, cc0, cc1, cc2, cc3⟩ := HKEEP.out _ b3
              go_wp2_with fail
              refine (HAB'.out _ (HSW.out _ b3)).mono ?_; rintro e v4 ⟨rfl, d4⟩
              have b4 := HST.out _ _ b3 d4
              clear d4 aa0 aa1 aa2 aa3 bb0 bb1 bb2 bb3 cc0 cc1 cc2 cc3
              obtain ⟨aa0, aa1, aa2, aa3, bb0, bb1, bb2, bb3, cc0, cc1, cc2, cc3⟩ := HKEEP.out _ b4
              go_wp2_with fail
              refine (HBC'.out _ (HSW.out _ b4)).mono ?_; rintro e v5 ⟨rfl, d5⟩
              have b5 := HST.out _ _ b4 d5
              clear d5 aa0 aa1 aa2 aa3 bb0 bb1 bb2 bb3 cc0 cc1 cc2 cc3
              obtain ⟨aa0, aa1, aa2, aa3, bb0, bb1, bb2, bb3, cc0, cc1, cc2, cc3⟩ := HKEEP.out _ b5
              go_wp2_with fail
              refine (HAC'.out _ (HSW.out _ b5)).mono ?_; rintro e v6 ⟨rfl, d6⟩
              have b6 := HST.out _ _ b5 d6
              clear d6 aa0 aa1 aa2 aa3 bb0 bb1 bb2 bb3 cc0 cc1 cc2 cc3
              obtain ⟨aa0, aa1, aa2, aa3, bb0, bb1, bb2, bb3, cc0, cc1, cc2, cc3⟩ := HKEEP.out _ b6
              go_wp2_with fail
              go_ret
              exact ⟨by first | rfl | (show Ending.returned (.bool (decide (x3 ≤ 0))) = _; rw [decide_eq_true p3]), HSW.out _ b6⟩
        · have ec : (C.chk != 0) = true := by simpa using kc
          have HKC' := Lib.hid (HKC.out hMC)
          generalize C.chk = kcc at *
          clear ka kb kc mA mB HKA HKB HKC HAB HBC HAC
          go_wp2_with fail
          refine (HKA'.out _ (HSW.out _ b0)).mono ?_; rintro e v1 ⟨rfl, d1⟩
          have b1 := HST.out _ _ b0 d1
          clear d1 aa0 aa1 aa2 aa3 bb0 bb1 bb2 bb3 cc0 cc1 cc2 cc3
          obtain ⟨aa0, aa1, aa2, aa3, bb0, bb1, bb2, bb3, cc0, cc1, cc2, cc3⟩ := HKEEP.out _ b1
          go_wp2_with fail
          refine (HKB'.out _ (HSW.out _ b1)).mono ?_; rintro e v2 ⟨rfl, d2⟩
          have b2 := HST.out _ _ b1 d2
          clear d2 aa0 aa1 aa2 aa3 bb0 bb1 bb2 bb3 cc0 cc1 cc2 cc3
          obtain ⟨aa0, aa1, aa2, aa3, bb0, bb1, bb2, bb3, cc0, cc1, cc2, cc3⟩ := HKEEP.out _ b2
          go_wp2_with fail
          refine (HKC'.out _ (HSW.out _ b2)).mono ?_; rintro e v3 ⟨rfl, d3⟩
          have b3 := HST.out _ _ b2 d3
          clear d3 aa0 aa1 aa2 aa3 bb0 bb1 bb2 bb3 cc0 cc1 cc2 cc3
          obtain ⟨aa0, aa1, aa2, aa3, bb0, bb1, bb2, bb3, cc0, cc1, cc2, cc3⟩ := HKEEP.out _ b3
          go_wp2_with fail
          go_ret
          exact ⟨rfl, HSW.out _ b3⟩
      · have eb : (B.chk != 0) = true := by simpa using kb
        have HKB' := Lib.hid (HKB.out hMB)
        generalize B.chk = kbb at *
        clear ka kb mA HKA HKB HKC HAB HBC HAC
        go_wp2_with fail
        refine (HKA'.out _ (HSW.out _ b0)).mono ?_; rintro e v1 ⟨rfl, d1⟩
        have b1 := HST.out _ _ b0 d1
        clear d1 aa0 aa1 aa2 aa3 bb0 bb1 bb2 bb3 cc0 cc1 cc2 cc3
        obtain ⟨aa0, aa1, aa2, aa3, bb0, bb1, bb2, bb3, cc0, cc1, cc2, cc3⟩ := HKEEP.out _ b1
        go_wp2_with fail
        refine (HKB'.out _ (HSW.out _ b1)).mono ?_; rintro e v2 ⟨rfl, d2⟩
        have b2 := HST.out _ _ b1 d2
        clear d2 aa0 aa1 aa2 aa3 bb0 bb1 bb2 bb3 cc0 cc1 cc2 cc3
        obtain ⟨aa0, aa1, aa2, aa3, bb0, bb1, bb2, bb3, cc0, cc1, cc2, cc3⟩ := HKEEP.out _ b2
        go_wp2_with fail
        go_ret
        exact ⟨rfl, HSW.out _ b2⟩
    · have ea : (A.chk != 0) = true := by simpa using ka
      have HKA' := Lib.hid (HKA.out hMA)
      generalize A.chk = kaa at *
      clear ka HKA HKB HKC HAB HBC HAC
      go_wp2_with fail
      refine (HKA'.out _ (HSW.out _ b0)).mono ?_; rintro e v1 ⟨rfl, d1⟩
      have b1 := HST.out _ _ b0 d1
      clear d1 aa0 aa1 aa2 aa3 bb0 bb1 bb2 bb3 cc0 cc1 cc2 cc3
      obtain ⟨aa0, aa1, aa2, aa3, bb0, bb1, bb2, bb3, cc0, cc1, cc2, cc3⟩ := HKEEP.out _ b1
      go_wp2_with fail
      go_ret
      exact ⟨rfl, HSW.out _ b1⟩
end Go.Proofs.YthfdiclmbbngcaaDoor

/-
  The walk of the law TermSames.
-/
namespace Go.Proofs.YthfdiclmbbngcaaDoor
open Go.RowKit

set_option maxRecDepth 100000 in
set_option maxHeartbeats 2000000 in
theorem walk_TermSames (A : Tm) (B : Tm) (ad : Option Addr) (bd : Option Addr) (ca : Nat) (cb : Nat)  (w : World) (hA : TmIn w A ad ca) (hB : TmIn w B bd cb) (hT : AllT w) (hLive : Lives) :
    Calls Tryd.prog 4 #[tmv A ad ca, tmv B bd cb] w fun e w' => e = .returned (.bool true) ∧ Below w.heap.size w w' := by
  have HB := Lib.hid (fun o0 o1 : Obj => allocs_facts [o0, o1] w)
  have HL := Lib.hid hLive
  have HT := Lib.hid hT
  have HBIG := Lib.hid (fun (w0 : World) (hb : Below w.heap.size w w0) (g : Nat) (hg : g = w0.heap.size) => law_big [A, B] (some ⟨g, 0, none⟩) 2 (w0.alloc (.cells #[.int .i64 A.kind, .string A.name, .int .i64 A.n, .slice ad A.args.length ca, .int .i64 B.kind, .string B.name, .int .i64 B.n, .slice bd B.args.length cb] 24)) (Nat.le_refl 2) (by decide) (row2 hA hB hb g hg))
  have HS1 := Lib.hid (fun h1 h2 W (h : Below w.heap.size w W) => term_Same A B ad bd ca cb W h1 h2 (hA.on h) (hB.on h))
  have HS2 := Lib.hid (fun hM W (h : Below w.heap.size w W) => ref_Same A.size A B ad bd ca cb W (Nat.le_refl _) hM (hA.on h) (hB.on h))
  have HV1 := Lib.hid (fun h1 h2 W (h : Below w.heap.size w W) => term_Variant A B ad bd ca cb W h1 h2 (hA.on h) (hB.on h))
  have HV2 := Lib.hid (fun h1 h2 W (h : Below w.heap.size w W) => ref_Variant A B ad bd ca cb W h1 h2 (hA.on h) (hB.on h))
  have HKA := Lib.hid (fun hM W (h : Below w.heap.size w W) => ref_TermCheck A ad ca W hM (hT.on h).u (hA.on h))
  have HKB := Lib.hid (fun hM W (h : Below w.heap.size w W) => ref_TermCheck B bd cb W hM (hT.on h).u (hB.on h))
  have HC1 := Lib.hid (fun hM m1 m2 W (h : Below w.heap.size w W) => term_Compare A B ad bd ca cb W hM m1 m2 (hA.on h) (hB.on h))
  have HCZ := Lib.hid (fun hM W (h : Below w.heap.size w W) => term_Cmpz A B ad bd ca cb W hM (hA.on h) (hB.on h))
  have HC2 := Lib.hid (fun hM W (h : Below w.heap.size w W) => ref_Compare A.size A B ad bd ca cb W (Nat.le_refl _) hM (hA.on h) (hB.on h))
  clear hA hB hT hLive
  unfold tmv at *
  go_enter Tryd.func4, Tryd.ntmps4
  go_wp2_with fail
  refine (HL.out _ (HT.out.on (HB.out _ _).2.1)).mono ?_; rintro e w1 ⟨rfl, hb1⟩
  obtain ⟨hbw1, hsz1, hx0, hx1⟩ := boxes2 hb1
  have HKEEP : Hid (∀ W, Below w1.heap.size w1 W → W.cell? ⟨w.heap.size, 0, none⟩ = some (.int .i64 A.kind) ∧ W.cell? ⟨w.heap.size, 1, none⟩ = some (.string A.name) ∧ W.cell? ⟨w.heap.size, 2, none⟩ = some (.int .i64 A.n) ∧ W.cell? ⟨w.heap.size, 3, none⟩ = some (.slice ad A.args.length ca) ∧ W.cell? ⟨w.heap.size + 1, 0, none⟩ = some (.int .i64 B.kind) ∧ W.cell? ⟨w.heap.size + 1, 1, none⟩ = some (.string B.name) ∧ W.cell? ⟨w.heap.size + 1, 2, none⟩ = some (.int .i64 B.n) ∧ W.cell? ⟨w.heap.size + 1, 3, none⟩ = some (.slice bd B.args.length cb)) := Lib.hid (fun W hb => by
    obtain ⟨m00, m01, m02, m03⟩ := cellx4 ((hb.block (w.heap.size) (by omega)).trans hx0)
    obtain ⟨m10, m11, m12, m13⟩ := cellx4 ((hb.block (w.heap.size + 1) (by omega)).trans hx1)
    exact ⟨m00, m01, m02, m03, m10, m11, m12, m13⟩)
  have HST : Hid (∀ W W', Below w1.heap.size w1 W → Below W.heap.size W W' → Below w1.heap.size w1 W') := Lib.hid (fun W W' h h' => h.trans (h'.mono h.size))
  have HSW : Hid (∀ W, Below w1.heap.size w1 W → Below w.heap.size w W) := Lib.hid (fun W h => hbw1.trans (h.mono hbw1.size))
  have hK1 := HKEEP.out _ (Below.refl _ w1)
  clear hb1 hx0 hx1
  obtain ⟨aa0, aa1, aa2, aa3, bb0, bb1, bb2, bb3⟩ := hK1
  go_wp2_with fail
  refine (HBIG.out w1 hbw1 _ rfl).mono ?_; rintro e w2 ⟨rfl, hb2⟩
  have b0 : Below w1.heap.size w1 w2 := ((Below.refl _ w1).alloc (Nat.le_refl _) _).trans (hb2.mono (by simp))
  clear hb2 aa0 aa1 aa2 aa3 bb0 bb1 bb2 bb3
  cases hbg : bigL [A, B] with
  | true =>
    obtain ⟨aa0, aa1, aa2, aa3, bb0, bb1, bb2, bb3⟩ := HKEEP.out _ b0
    go_wp2_with fail
    go_ret
    exact ⟨rfl, HSW.out _ b0⟩
  | false =>
    have hMA : A.size ≤ 1000000 := by have := bigL_mem hbg (.head _); omega
    have hMB : B.size ≤ 1000000 := by have := bigL_mem hbg (.tail _ (.head _)); omega
    clear hbg
    have HKP : Hid (∀ W, Below w1.heap.size w1 W → Below w1.heap.size w1 W ∧ W.cell? ⟨w.heap.size, 0, none⟩ = some (.int .i64 A.kind) ∧ W.cell? ⟨w.heap.size, 1, none⟩ = some (.string A.name) ∧ W.cell? ⟨w.heap.size, 2, none⟩ = some (.int .i64 A.n) ∧ W.cell? ⟨w.heap.size, 3, none⟩ = some (.slice ad A.args.length ca) ∧ W.cell? ⟨w.heap.size + 1, 0, none⟩ = some (.int .i64 B.kind) ∧ W.cell? ⟨w.heap.size + 1, 1, none⟩ = some (.string B.name) ∧ W.cell? ⟨w.heap.size + 1, 2, none⟩ = some (.int .i64 B.n) ∧ W.cell? ⟨w.heap.size + 1, 3, none⟩ = some (.slice bd B.args.length cb)) := Lib.hid (fun W h => ⟨h, HKEEP.out W h⟩)
    have hD0 : Below w1.heap.size w1 w2.drew := b0.drew
    have hK0 := HKEEP.out _ b0
    have eS : (A.same B == A.same B) = true := by simp
    have eV : (A.variant B == A.variant B) = true := by simp
    go_wp2_with fail
    go_region_held3 (fun W => Below w1.heap.size w1 W ∧ W.cell? ⟨w.heap.size, 0, none⟩ = some (.int .i64 A.kind) ∧ W.cell? ⟨w.heap.size, 1, none⟩ = some (.string A.name) ∧ W.cell? ⟨w.heap.size, 2, none⟩ = some (.int .i64 A.n) ∧ W.cell? ⟨w.heap.size, 3, none⟩ = some (.slice ad A.args.length ca) ∧ W.cell? ⟨w.heap.size + 1, 0, none⟩ = some (.int .i64 B.kind) ∧ W.cell? ⟨w.heap.size + 1, 1, none⟩ = some (.string B.name) ∧ W.cell? ⟨w.heap.size + 1, 2, none⟩ = some (.int .i64 B.n) ∧ W.cell? ⟨w.heap.size + 1, 3, none⟩ = some (.slice bd B.args.length cb))
      (first | exact HKP.out _ hD0 | exact HKP.out _ b4 | exact HKP.out _ b3 | exact HKP.out _ b2 | exact HKP.out _ b1)
      (first
        | (go_at_call 20; (with_reducible refine (HS1.out hMA hMB _ (HSW.out _ hD0)).mono ?_); rintro e v1 ⟨rfl, d1⟩; have b1 := HST.out _ _ hD0 d1)
        | (go_at_call 21; (with_reducible refine (HS2.out hMA _ (HSW.out _ b1)).mono ?_); rintro e v2 ⟨rfl, d2⟩; have b2 := HST.out _ _ b1 d2)
        | (go_at_call 22; (with_reducible refine (HV1.out hMA hMB _ (HSW.out _ b2)).mono ?_); rintro e v3 ⟨rfl, d3⟩; have b3 := HST.out _ _ b2 d3)
        | (go_at_call 23; (with_reducible refine (HV2.out hMA hMB _ (HSW.out _ b3)).mono ?_); rintro e v4 ⟨rfl, d4⟩; have b4 := HST.out _ _ b3 d4))
    clear d1 d2 d3 d4 hK0 eS eV HS1 HS2 HV1 HV2
    obtain ⟨aa0, aa1, aa2, aa3, bb0, bb1, bb2, bb3⟩ := HKEEP.out _ b4
    by_cases ka : A.chk = 0
    · have HKA' := Lib.hid (HKA.out hMA)
      rw [ka] at HKA'
      by_cases kb : B.chk = 0
      · have HKB' := Lib.hid (HKB.out hMB)
        rw [kb] at HKB'
        have HC1' := Lib.hid (HC1.out hMA (chk_may ka) (chk_may kb))
        have eC : (A.cmp B == A.cmp B) = true := by simp
        clear ka kb HKA HKB HC1 HCZ
        go_wp2_with fail
        refine (HKA'.out _ (HSW.out _ b4)).mono ?_; rintro e v5 ⟨rfl, d5⟩
        have b5 := HST.out _ _ b4 d5
        clear d5 aa0 aa1 aa2 aa3 bb0 bb1 bb2 bb3
        obtain ⟨aa0, aa1, aa2, aa3, bb0, bb1, bb2, bb3⟩ := HKEEP.out _ b5
        go_wp2_with fail
        refine (HKB'.out _ (HSW.out _ b5)).mono ?_; rintro e v6 ⟨rfl, d6⟩
        have b6 := HST.out _ _ b5 d6
        clear d6 aa0 aa1 aa2 aa3 bb0 bb1 bb2 bb3
        obtain ⟨aa0, aa1, aa2, aa3, bb0, bb1, bb2, bb3⟩ := HKEEP.out _ b6
        go_wp2_with fail
        have hD6 : Below w1.heap.size w1 v6.drew := b6.drew
        go_region_held3 (fun W => Below w1.heap.size w1 W ∧ W.cell? ⟨w.heap.size, 0, none⟩ = some (.int .i64 A.kind) ∧ W.cell? ⟨w.heap.size, 1, none⟩ = some (.string A.name) ∧ W.cell? ⟨w.heap.size, 2, none⟩ = some (.int .i64 A.n) ∧ W.cell? ⟨w.heap.size, 3, none⟩ = some (.slice ad A.args.length ca) ∧ W.cell? ⟨w.heap.size + 1, 0, none⟩ = some (.int .i64 B.kind) ∧ W.cell? ⟨w.heap.size + 1, 1, none⟩ = some (.string B.name) ∧ W.cell? ⟨w.heap.size + 1, 2, none⟩ = some (.int .i64 B.n) ∧ W.cell? ⟨w.heap.size + 1, 3, none⟩ = some (.slice bd B.args.length cb))
          (first | exact HKP.out _ hD6 | exact HKP.out _ b8 | exact HKP.out _ b7)
          (first
            | (go_at_call 24; (with_reducible refine (HC1'.out _ (HSW.out _ hD6)).mono ?_); rintro e v7 ⟨rfl, d7⟩; have b7 := HST.out _ _ hD6 d7)
            | (go_at_call 25; (with_reducible refine (HC2.out hMA _ (HSW.out _ b7)).mono ?_); rintro e v8 ⟨rfl, d8⟩; have b8 := HST.out _ _ b7 d8))
        all_goals
          go_wp2_with fail
          go_ret
          exact ⟨rfl, HSW.out _ b8⟩
      · have eb : (B.chk == 0) = false := by simpa using kb
        have HKB' := Lib.hid (HKB.out hMB)
        have HCZ' := Lib.hid (HCZ.out hMA)
        generalize B.chk = kbb at *
        clear ka kb HKA HKB HC1 HCZ HC2
        go_wp2_with fail
        refine (HKA'.out _ (HSW.out _ b4)).mono ?_; rintro e v5 ⟨rfl, d5⟩
        have b5 := HST.out _ _ b4 d5
        clear d5 aa0 aa1 aa2 aa3 bb0 bb1 bb2 bb3
        obtain ⟨aa0, aa1, aa2, aa3, bb0, bb1, bb2, bb3⟩ := HKEEP.out _ b5
        go_wp2_with fail
        refine (HKB'.out _ (HSW.out _ b5)).mono ?_; rintro e v6 ⟨rfl, d6⟩
        have b6 := HST.out _ _ b5 d6
        clear d6 aa0 aa1 aa2 aa3 bb0 bb1 bb2 bb3
        obtain ⟨aa0, aa1, aa2, aa3, bb0, bb1, bb2, bb3⟩ := HKEEP.out _ b6
        go_wp2_with fail
        refine (HCZ'.out _ (HSW.out _ b6)).mono ?_; rintro e v7 ⟨rfl, d7⟩
        have b7 := HST.out _ _ b6 d7
        clear d7 aa0 aa1 aa2 aa3 bb0 bb1 bb2 bb3
        obtain ⟨aa0, aa1, aa2, aa3, bb0, bb1, bb2, bb3⟩ := HKEEP.out _ b7
        go_wp2_with fail
        go_ret
        exact ⟨rfl, HSW.out _ b7⟩
    · have ea : (A.chk == 0) = false := by simpa using ka
      have HKA' := Lib.hid (HKA.out hMA)
      have HCZ' := Lib.hid (HCZ.out hMA)
      generalize A.chk = kaa at *
      clear ka HKA HKB HC1 HCZ HC2
      go_wp2_with fail
      refine (HKA'.out _ (HSW.out _ b4)).mono ?_; rintro e v5 ⟨rfl, d5⟩
      have b5 := HST.out _ _ b4 d5
      clear d5 aa0 aa1 aa2 aa3 bb0 bb1 bb2 bb3
      obtain ⟨aa0, aa1, aa2, aa3, bb0, bb1, bb2, bb3⟩ := HKEEP.out _ b5
      go_wp2_with fail
      refine (HCZ'.out _ (HSW.out _ b5)).mono ?_; rintro e v6 ⟨rfl, d6⟩
      have b6 := HST.out _ _ b5 d6
      clear d6 aa0 aa1 aa2 aa3 bb0 bb1 bb2 bb3
      obtain ⟨aa0, aa1, aa2, aa3, bb0, bb1, bb2, bb3⟩ := HKEEP.out _ b6
      go_wp2_with fail
      go_ret
      exact ⟨rfl, HSW.out _ b6⟩
end Go.Proofs.YthfdiclmbbngcaaDoor

/-
  The walk of the law TermTurns.
-/
namespace Go.Proofs.YthfdiclmbbngcaaDoor
open Go.RowKit

theorem made_in {B : Nat} {w w' : World} {t : Tm} {ad : Option Addr} {cap : Nat} (h : TmP w (fun b => B ≤ b) t ad cap) (hb : Below w.heap.size w w') : TmIn w' t ad cap := h.toIn.on hb

set_option maxRecDepth 100000 in
set_option maxHeartbeats 2000000 in
theorem walk_TermTurns (A : Tm) (B : Tm) (C : Tm) (ad : Option Addr) (bd : Option Addr) (cd : Option Addr) (ca : Nat) (cb : Nat) (cc : Nat) (by_ : Int) (_hby : In64 by_) (w : World) (hA : TmIn w A ad ca) (hB : TmIn w B bd cb) (hC : TmIn w C cd cc) (hT : AllT w) (hLive : Lives) :
    Calls Tryd.prog 9 #[tmv A ad ca, tmv B bd cb, tmv C cd cc, .int .i64 by_] w fun e w' => e = .returned (.bool true) ∧ Below w.heap.size w w' := by
  have HB := Lib.hid (fun o0 o1 o2 : Obj => allocs_facts [o0, o1, o2] w)
  have HL := Lib.hid hLive
  have HT := Lib.hid hT
  have HBIG := Lib.hid (fun (w0 : World) (hb : Below w.heap.size w w0) (g : Nat) (hg : g = w0.heap.size) => law_big [A, B, C] (some ⟨g, 0, none⟩) 3 (w0.alloc (.cells #[.int .i64 A.kind, .string A.name, .int .i64 A.n, .slice ad A.args.length ca, .int .i64 B.kind, .string B.name, .int .i64 B.n, .slice bd B.args.length cb, .int .i64 C.kind, .string C.name, .int .i64 C.n, .slice cd C.args.length cc] 24)) (Nat.le_refl 3) (by decide) (row3' hA hB hC hb g hg))
  have HAB := Lib.hid (fun h1 h2 W (h : Below w.heap.size w W) => term_Variant A B ad bd ca cb W h1 h2 (hA.on h) (hB.on h))
  have HBA := Lib.hid (fun h1 h2 W (h : Below w.heap.size w W) => term_Variant B A bd ad cb ca W h1 h2 (hB.on h) (hA.on h))
  have HBC := Lib.hid (fun h1 h2 W (h : Below w.heap.size w W) => term_Variant B C bd cd cb cc W h1 h2 (hB.on h) (hC.on h))
  have HAC := Lib.hid (fun h1 h2 W (h : Below w.heap.size w W) => term_Variant A C ad cd ca cc W h1 h2 (hA.on h) (hC.on h))
  have HSH := Lib.hid (fun hM W (h : Below w.heap.size w W) => term_Shift by_ A ad ca W hM (hA.on h))
  have HCP := Lib.hid (fun hM W (h : Below w.heap.size w W) => term_Copy A ad ca W hM (hA.on h))
  have n64A := (Tm.n64_eq A).2 ⟨hA.n, hA.args.n64⟩
  have HVS := Lib.hid (fun h1 h2 sd cs W (h : Below w.heap.size w W) (hs : TmIn W (A.shift by_) sd cs) => term_Variant A (A.shift by_) ad sd ca cs W h1 h2 (hA.on h) hs)
  rw [variant_shift A by_ n64A] at HVS
  have HSB := Lib.hid (fun h1 sd cs W (hs : TmIn W (A.shift by_) sd cs) => term_Shift (wrap64 (-by_)) (A.shift by_) sd cs W h1 hs)
  rw [Tm.shift_back by_ (wrap64 (-by_)) rfl A n64A] at HSB
  have hshs := (Tm.shift_size by_ A).1
  obtain ⟨nb, hnb⟩ : ∃ nb, wrap64 (-by_) = nb := ⟨_, rfl⟩
  rw [hnb] at HSB
  have hnb' : IntKind.i64.wrap (-by_) = nb := by rw [← hnb]; exact IntWalk.i64_left _
  clear hnb
  clear hA hB hC hT hLive n64A
  rw [← variant_turn A B] at HBA
  have hgo : Hid (A.variant B = true → B.variant C = true → A.variant C = true) := Lib.hid (fun h1 h2 => variant_goes h1 h2)
  generalize A.variant B = xAB at *
  generalize B.variant C = xBC at *
  generalize A.variant C = xAC at *
  unfold tmv at *
  have HSM := Lib.hid (fun h1 h2 sd cs ud cu W (hs : TmIn W A sd cs) (hu : TmIn W A ud cu) => term_Same A A sd ud cs cu W h1 h2 hs hu)
  rw [Tm.same_true rfl] at HSM
  go_enter Tryd.func9, Tryd.ntmps9
  go_wp2_with fail
  refine (HL.out _ (HT.out.on (HB.out _ _ _).2.1)).mono ?_; rintro e w1 ⟨rfl, hb1⟩
  obtain ⟨hbw1, hsz1, hx0, hx1, hx2⟩ := boxes3 hb1
  have HKEEP : Hid (∀ W, Below w1.heap.size w1 W → W.cell? ⟨w.heap.size, 0, none⟩ = some (.int .i64 A.kind) ∧ W.cell? ⟨w.heap.size, 1, none⟩ = some (.string A.name) ∧ W.cell? ⟨w.heap.size, 2, none⟩ = some (.int .i64 A.n) ∧ W.cell? ⟨w.heap.size, 3, none⟩ = some (.slice ad A.args.length ca) ∧ W.cell? ⟨w.heap.size + 1, 0, none⟩ = some (.int .i64 B.kind) ∧ W.cell? ⟨w.heap.size + 1, 1, none⟩ = some (.string B.name) ∧ W.cell? ⟨w.heap.size + 1, 2, none⟩ = some (.int .i64 B.n) ∧ W.cell? ⟨w.heap.size + 1, 3, none⟩ = some (.slice bd B.args.length cb) ∧ W.cell? ⟨w.heap.size + 2, 0, none⟩ = some (.int .i64 C.kind) ∧ W.cell? ⟨w.heap.size + 2, 1, none⟩ = some (.string C.name) ∧ W.cell? ⟨w.heap.size + 2, 2, none⟩ = some (.int .i64 C.n) ∧ W.cell? ⟨w.heap.size + 2, 3, none⟩ = some (.slice cd C.args.length cc)) := Lib.hid (fun W hb => by
    obtain ⟨m00, m01, m02, m03⟩ := cellx4 ((hb.block (w.heap.size) (by omega)).trans hx0)
    obtain ⟨m10, m11, m12, m13⟩ := cellx4 ((hb.block (w.heap.size + 1) (by omega)).trans hx1)
    obtain ⟨m20, m21, m22, m23⟩ := cellx4 ((hb.block (w.heap.size + 2) (by omega)).trans hx2)
    exact ⟨m00, m01, m02, m03, m10, m11, m12, m13, m20, m21, m22, m23⟩)
  have HST : Hid (∀ W W', Below w1.heap.size w1 W → Below W.heap.size W W' → Below w1.heap.size w1 W') := Lib.hid (fun W W' h h' => h.trans (h'.mono h.size))
  have HSW : Hid (∀ W, Below w1.heap.size w1 W → Below w.heap.size w W) := Lib.hid (fun W h => hbw1.trans (h.mono hbw1.size))
  have hK1 := HKEEP.out _ (Below.refl _ w1)
  clear hb1 hx0 hx1 hx2
  obtain ⟨aa0, aa1, aa2, aa3, bb0, bb1, bb2, bb3, cc0, cc1, cc2, cc3⟩ := hK1
  go_wp2_with fail
  refine (HBIG.out w1 hbw1 _ rfl).mono ?_; rintro e w2 ⟨rfl, hb2⟩
  have b0 : Below w1.heap.size w1 w2 := ((Below.refl _ w1).alloc (Nat.le_refl _) _).trans (hb2.mono (by simp))
  clear hb2 aa0 aa1 aa2 aa3 bb0 bb1 bb2 bb3 cc0 cc1 cc2 cc3
  cases hbg : bigL [A, B, C] with
  | true =>
    obtain ⟨aa0, aa1, aa2, aa3, bb0, bb1, bb2, bb3, cc0, cc1, cc2, cc3⟩ := HKEEP.out _ b0
    go_wp2_with fail
    go_ret
    exact ⟨rfl, HSW.out _ b0⟩
  | false =>
    have hMA : A.size ≤ 1000000 := by have := bigL_mem hbg (.head _); omega
    have hMB : B.size ≤ 1000000 := by have := bigL_mem hbg (.tail _ (.head _)); omega
    have hMC : C.size ≤ 1000000 := by have := bigL_mem hbg (.tail _ (.tail _ (.head _))); omega
    have hMS : (A.shift by_).size ≤ 1000000 := by rw [hshs]; exact hMA
    clear hbg hshs
    obtain ⟨aa0, aa1, aa2, aa3, bb0, bb1, bb2, bb3, cc0, cc1, cc2, cc3⟩ := HKEEP.out _ b0
    go_wp2_with fail
    refine (HSH.out hMA _ (HSW.out _ b0)).mono ?_; rintro e v1 ⟨sd, cs, rfl, hsp, d1⟩
    have b1 := HST.out _ _ b0 d1
    clear d1 aa0 aa1 aa2 aa3 bb0 bb1 bb2 bb3 cc0 cc1 cc2 cc3
    obtain ⟨aa0, aa1, aa2, aa3, bb0, bb1, bb2, bb3, cc0, cc1, cc2, cc3⟩ := HKEEP.out _ b1
    unfold tmv
    generalize hS : A.shift by_ = S at *
    clear hS
    go_wp2_with fail
    generalize hv2 : v1.alloc _ = v2
    have hb12 : Below v1.heap.size v1 v2 := by rw [← hv2]; exact (Below.refl _ v1).alloc (Nat.le_refl _) _
    have hx2 : v2.heap[v1.heap.size]? = some (.cells #[.int .i64 S.kind, .string S.name, .int .i64 S.n, .slice sd S.args.length cs] 24 (0, 0)) := by rw [← hv2]; exact heap_alloc_new _ _
    have hs2 : v1.heap.size < v2.heap.size := by rw [← hv2]; simp
    have b2 := HST.out _ _ b1 hb12
    have HKP : Hid (∀ W, Below v2.heap.size v2 W → Below v2.heap.size v2 W ∧ (W.cell? ⟨w.heap.size, 0, none⟩ = some (.int .i64 A.kind) ∧ W.cell? ⟨w.heap.size, 1, none⟩ = some (.string A.name) ∧ W.cell? ⟨w.heap.size, 2, none⟩ = some (.int .i64 A.n) ∧ W.cell? ⟨w.heap.size, 3, none⟩ = some (.slice ad A.args.length ca) ∧ W.cell? ⟨w.heap.size + 1, 0, none⟩ = some (.int .i64 B.kind) ∧ W.cell? ⟨w.heap.size + 1, 1, none⟩ = some (.string B.name) ∧ W.cell? ⟨w.heap.size + 1, 2, none⟩ = some (.int .i64 B.n) ∧ W.cell? ⟨w.heap.size + 1, 3, none⟩ = some (.slice bd B.args.length cb) ∧ W.cell? ⟨w.heap.size + 2, 0, none⟩ = some (.int .i64 C.kind) ∧ W.cell? ⟨w.heap.size + 2, 1, none⟩ = some (.string C.name) ∧ W.cell? ⟨w.heap.size + 2, 2, none⟩ = some (.int .i64 C.n) ∧ W.cell? ⟨w.heap.size + 2, 3, none⟩ = some (.slice cd C.args.length cc)) ∧ W.cell? ⟨v1.heap.size, 0, none⟩ = some (.int .i64 S.kind) ∧ W.cell? ⟨v1.heap.size, 1, none⟩ = some (.string S.name) ∧ W.cell? ⟨v1.heap.size, 2, none⟩ = some (.int .i64 S.n) ∧ W.cell? ⟨v1.heap.size, 3, none⟩ = some (.slice sd S.args.length cs)) := Lib.hid (fun W h => ⟨h, HKEEP.out W (HST.out _ _ b2 h), cellx4 ((h.block _ hs2).trans hx2)⟩)
    have HST2 : Hid (∀ W W', Below v2.heap.size v2 W → Below W.heap.size W W' → Below v2.heap.size v2 W') := Lib.hid (fun W W' h h' => h.trans (h'.mono h.size))
    have HSW2 : Hid (∀ W, Below v2.heap.size v2 W → Below w.heap.size w W) := Lib.hid (fun W h => HSW.out W (HST.out _ _ b2 h))
    have HSS : Hid (∀ W, Below v2.heap.size v2 W → TmIn W S sd cs) := Lib.hid (fun W h => (hsp.toIn.on hb12).on h)
    have hD0 : Below v2.heap.size v2 v2.drew := (Below.refl _ v2).drew
    have hK0 := HKP.out _ (Below.refl _ v2)
    have eV : (xAB != xAB) = false := by simp
    clear hv2 hb12 hx2 hsp aa0 aa1 aa2 aa3 bb0 bb1 bb2 bb3 cc0 cc1 cc2 cc3
    go_region_held3 (fun W => Below v2.heap.size v2 W ∧ (W.cell? ⟨w.heap.size, 0, none⟩ = some (.int .i64 A.kind) ∧ W.cell? ⟨w.heap.size, 1, none⟩ = some (.string A.name) ∧ W.cell? ⟨w.heap.size, 2, none⟩ = some (.int .i64 A.n) ∧ W.cell? ⟨w.heap.size, 3, none⟩ = some (.slice ad A.args.length ca) ∧ W.cell? ⟨w.heap.size + 1, 0, none⟩ = some (.int .i64 B.kind) ∧ W.cell? ⟨w.heap.size + 1, 1, none⟩ = some (.string B.name) ∧ W.cell? ⟨w.heap.size + 1, 2, none⟩ = some (.int .i64 B.n) ∧ W.cell? ⟨w.heap.size + 1, 3, none⟩ = some (.slice bd B.args.length cb) ∧ W.cell? ⟨w.heap.size + 2, 0, none⟩ = some (.int .i64 C.kind) ∧ W.cell? ⟨w.heap.size + 2, 1, none⟩ = some (.string C.name) ∧ W.cell? ⟨w.heap.size + 2, 2, none⟩ = some (.int .i64 C.n) ∧ W.cell? ⟨w.heap.size + 2, 3, none⟩ = some (.slice cd C.args.length cc)) ∧ W.cell? ⟨v1.heap.size, 0, none⟩ = some (.int .i64 S.kind) ∧ W.cell? ⟨v1.heap.size, 1, none⟩ = some (.string S.name) ∧ W.cell? ⟨v1.heap.size, 2, none⟩ = some (.int .i64 S.n) ∧ W.cell? ⟨v1.heap.size, 3, none⟩ = some (.slice sd S.args.length cs))
      (first | exact HKP.out _ hD0 | exact HKP.out _ g6 | exact HKP.out _ g5 | exact HKP.out _ g4 | exact HKP.out _ g3 | exact HKP.out _ g2 | exact HKP.out _ g1)
      (first
        | (go_at_call 22; (with_reducible refine (HBA.out hMB hMA _ (HSW2.out _ g5)).mono ?_); rintro e u6 ⟨rfl, d6⟩; have g6 := HST2.out _ _ g5 d6)
        | (go_at_call 22; (with_reducible refine (HAB.out hMA hMB _ (HSW2.out _ g4)).mono ?_); rintro e u5 ⟨rfl, d5⟩; have g5 := HST2.out _ _ g4 d5)
        | (go_at_call 20; (refine (HSM.out hMA hMA _ _ _ _ _ (tp2.toIn.on d3) tp3.toIn).mono ?_); rintro e u4 ⟨rfl, d4⟩; have g4 := HST2.out _ _ g3 d4)
        | (go_at_call 26; (with_reducible refine (HCP.out hMA _ (HSW2.out _ g2)).mono ?_); rintro e u3 ⟨ad3, cap3, rfl, tp3, d3⟩; have g3 := HST2.out _ _ g2 d3)
        | (go_at_call 27; (with_reducible refine (HSB.out hMS _ _ _ (HSS.out _ g1)).mono ?_); rintro e u2 ⟨ad2, cap2, rfl, tp2, d2⟩; have g2 := HST2.out _ _ g1 d2)
        | (go_at_call 22; (with_reducible refine (HVS.out hMA hMS _ _ _ (HSW2.out _ hD0) (HSS.out _ hD0)).mono ?_); rintro e u1 ⟨rfl, d1⟩; have g1 := HST2.out _ _ hD0 d1))
    have b6 := HST.out _ _ b2 g6
    have HAB' := Lib.hid (HAB.out hMA hMB)
    have HBC' := Lib.hid (HBC.out hMB hMC)
    have HAC' := Lib.hid (HAC.out hMA hMC)
    clear HAB HBA HBC HAC HSM HSB HVS HSS HKP
    obtain ⟨aa0, aa1, aa2, aa3, bb0, bb1, bb2, bb3, cc0, cc1, cc2, cc3⟩ := HKEEP.out _ b6
    cases xAB with
    | false =>
      go_wp2_with fail
      refine (HAB'.out _ (HSW.out _ b6)).mono ?_; rintro e v7 ⟨rfl, d7⟩
      have b7 := HST.out _ _ b6 d7
      clear d7 aa0 aa1 aa2 aa3 bb0 bb1 bb2 bb3 cc0 cc1 cc2 cc3
      obtain ⟨aa0, aa1, aa2, aa3, bb0, bb1, bb2, bb3, cc0, cc1, cc2, cc3⟩ := HKEEP.out _ b7
      go_wp2_with fail
      go_ret
      exact ⟨rfl, HSW.out _ b7⟩
    | true =>
      cases xBC with
      | false =>
        go_wp2_with fail
        refine (HAB'.out _ (HSW.out _ b6)).mono ?_; rintro e v7 ⟨rfl, d7⟩
        have b7 := HST.out _ _ b6 d7
        clear d7 aa0 aa1 aa2 aa3 bb0 bb1 bb2 bb3 cc0 cc1 cc2 cc3
        obtain ⟨aa0, aa1, aa2, aa3, bb0, bb1, bb2, bb3, cc0, cc1, cc2, cc3⟩ := HKEEP.out _ b7
        go_wp2_with fail
        refine (HBC'.out _ (HSW.out _ b7)).mono ?_; rintro e v8 ⟨rfl, d8⟩
        have b8 := HST.out _ _ b7 d8
        clear d8 aa0 aa1 aa2 aa3 bb0 bb1 bb2 bb3 cc0 cc1 cc2 cc3
        obtain ⟨aa0, aa1, aa2, aa3, bb0, bb1, bb2, bb3, cc0, cc1, cc2, cc3⟩ := HKEEP.out _ b8
        go_wp2_with fail
        go_ret
        exact ⟨rfl, HSW.out _ b8⟩
      | true =>
        have e3 : xAC = true := hgo.out rfl rfl
        subst e3
        go_wp2_with fail
        refine (HAB'.out _ (HSW.out _ b6)).mono ?_; rintro e v7 ⟨rfl, d7⟩
        have b7 := HST.out _ _ b6 d7
        clear d7 aa0 aa1 aa2 aa3 bb0 bb1 bb2 bb3 cc0 cc1 cc2 cc3
        obtain ⟨aa0, aa1, aa2, aa3, bb0, bb1, bb2, bb3, cc0, cc1, cc2, cc3⟩ := HKEEP.out _ b7
        go_wp2_with fail
        refine (HBC'.out _ (HSW.out _ b7)).mono ?_; rintro e v8 ⟨rfl, d8⟩
        have b8 := HST.out _ _ b7 d8
        clear d8 aa0 aa1 aa2 aa3 bb0 bb1 bb2 bb3 cc0 cc1 cc2 cc3
        obtain ⟨aa0, aa1, aa2, aa3, bb0, bb1, bb2, bb3, cc0, cc1, cc2, cc3⟩ := HKEEP.out _ b8
        go_wp2_with fail
        refine (HAC'.out _ (HSW.out _ b8)).mono ?_; rintro e v9 ⟨rfl, d9⟩
        have b9 := HST.out _ _ b8 d9
        clear d9 aa0 aa1 aa2 aa3 bb0 bb1 bb2 bb3 cc0 cc1 cc2 cc3
        obtain ⟨aa0, aa1, aa2, aa3, bb0, bb1, bb2, bb3, cc0, cc1, cc2, cc3⟩ := HKEEP.out _ b9
        go_wp2_with fail
        go_ret
        exact ⟨rfl, HSW.out _ b9⟩
end Go.Proofs.YthfdiclmbbngcaaDoor
