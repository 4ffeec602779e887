/-
  The chapter's examples for package write hold (spinneylaw07.live).
-/
import Derived.Test.YtdjejbgokamjeaaDoorWriteI
import Derived.Test.YtdjejbgokamjeaaDoorTermMk
import Derived.Deep.RegionHeld3
namespace Go.Proofs.YtdjejbgokamjeaaDoor
open Go.RowKit

def nI (n : Int) : Tm := .mk 3 ⟨#[]⟩ n []
def nA (s : ByteArray) : Tm := .mk 2 s 0 []
def nC (s : ByteArray) (l : List Tm) : Tm := .mk 4 s 0 l
def exP : Tm := nC ⟨#[43]⟩ [nI 1, nI 2]
def exA : Tm := nC ⟨#[42]⟩ [exP, nI 3]
def exB : Tm := nC ⟨#[45]⟩ [nA ⟨#[45]⟩, nI 1]
def exC : Tm := nC ⟨#[46]⟩ [nA ⟨#[97]⟩, .mk 1 ⟨#[]⟩ 0 []]
theorem exA_chk : exA.chk = 0 := by decide +kernel
theorem exA_txt : exA.writeText = [40, 49, 32, 43, 32, 50, 41, 32, 42, 32, 51] := by decide +kernel
theorem exB_chk : exB.chk = 0 := by decide +kernel
theorem exB_txt : exB.writeText = [40, 45, 41, 32, 45, 32, 49] := by decide +kernel
theorem exC_chk : exC.chk = 0 := by decide +kernel
theorem exC_txt : exC.writeText = [91, 97, 124, 95, 48, 93] := by decide +kernel
theorem exD_chk : (nA ⟨#[43]⟩).chk = 0 := by decide +kernel
theorem exD_txt : (nA ⟨#[43]⟩).writeClause = [43, 32, 46, 10] := by decide +kernel
theorem lvI (w : World) (n : Int) (h0 : -1000 ≤ n) (h1 : n ≤ 1000) : TmIn w (nI n) none 0 := leaf_in w (in64_small (by decide) (by decide)) (in64_small h0 h1) (by decide)
theorem lvN (w : World) (s : ByteArray) (hs : s.size ≤ maxLen) : TmIn w (nA s) none 0 := leaf_in w (in64_small (by decide) (by decide)) (in64_small (by decide) (by decide)) hs
/-- Two terms in a row that was just laid. -/
theorem row2 {w : World} {a b : Tm} {ada adb : Option Addr} {ca cb : Nat} (ha : TmIn w a ada ca) (hb : TmIn w b adb cb) (C : Array Value) (hC : C = (tcells a ada ca ++ tcells b adb cb).toArray) (g : Nat) (hg : g = w.heap.size) :
    TArgs (w.alloc (.cells C 24)) (some ⟨g, 0, none⟩) [a, b] := by
  subst hC hg
  have hba : Below w.heap.size w (w.alloc (.cells (tcells a ada ca ++ tcells b adb cb).toArray 24)) := (Below.refl _ w).alloc (Nat.le_refl _) _
  have hcell : ∀ i, (w.alloc (.cells (tcells a ada ca ++ tcells b adb cb).toArray 24)).cell? ⟨w.heap.size, i, none⟩ = (tcells a ada ca ++ tcells b adb cb).toArray[i]? := fun i => World.cell?_alloc_at _ _ _ _ rfl
  rw [a.eta, b.eta]
  refine .cons _ _ _ _ _ _ _ ada ca (hcell 0) (hcell 1) (hcell 2) (hcell 3) ha.kind ha.n ha.name ha.len ha.cap (ha.args.on hba) ?_
  exact .cons _ _ _ _ _ _ _ adb cb (hcell 4) (hcell 5) (hcell 6) (hcell 7) hb.kind hb.n hb.name hb.len hb.cap (hb.args.on hba) (.nil _)

set_option maxRecDepth 100000 in
set_option maxHeartbeats 4000000 in
theorem write_live (w : World) (hT : AllT w) :
    Calls Tryd.prog 5 #[] w fun e w' => e = .returned (.bool true) ∧ Below w.heap.size w w' := by
  have HT := Lib.hid hT
  clear hT
  have cA : ∀ W g, AllT W → TArgs W (some ⟨g, 0, none⟩) [exP, nI 3] → Calls Tryd.prog 7 #[.agg #[.int .i64 4, .string ⟨#[42]⟩, .int .i64 0, .slice (some ⟨g, 0, none⟩) 2 2]] W fun e w' => e = .returned (.tuple #[.string ⟨#[40, 49, 32, 43, 32, 50, 41, 32, 42, 32, 51]⟩, .int .i64 0]) ∧ Below W.heap.size W w' := fun W g hT h => by
    have h1 := write_Text exA (some ⟨g, 0, none⟩) 2 W (by decide) hT (comp_in (ts := [exP, nI 3]) (by decide) (Nat.le_refl 2) (by decide) h (Below.refl _ W))
    rw [exA_chk, exA_txt] at h1
    exact h1
  have cB : ∀ W g, AllT W → TArgs W (some ⟨g, 0, none⟩) [nA ⟨#[45]⟩, nI 1] → Calls Tryd.prog 7 #[.agg #[.int .i64 4, .string ⟨#[45]⟩, .int .i64 0, .slice (some ⟨g, 0, none⟩) 2 2]] W fun e w' => e = .returned (.tuple #[.string ⟨#[40, 45, 41, 32, 45, 32, 49]⟩, .int .i64 0]) ∧ Below W.heap.size W w' := fun W g hT h => by
    have h1 := write_Text exB (some ⟨g, 0, none⟩) 2 W (by decide) hT (comp_in (ts := [nA ⟨#[45]⟩, nI 1]) (by decide) (Nat.le_refl 2) (by decide) h (Below.refl _ W))
    rw [exB_chk, exB_txt] at h1
    exact h1
  have cC : ∀ W g, AllT W → TArgs W (some ⟨g, 0, none⟩) [nA ⟨#[97]⟩, .mk 1 ⟨#[]⟩ 0 []] → Calls Tryd.prog 7 #[.agg #[.int .i64 4, .string ⟨#[46]⟩, .int .i64 0, .slice (some ⟨g, 0, none⟩) 2 2]] W fun e w' => e = .returned (.tuple #[.string ⟨#[91, 97, 124, 95, 48, 93]⟩, .int .i64 0]) ∧ Below W.heap.size W w' := fun W g hT h => by
    have h1 := write_Text exC (some ⟨g, 0, none⟩) 2 W (by decide) hT (comp_in (ts := [nA ⟨#[97]⟩, .mk 1 ⟨#[]⟩ 0 []]) (by decide) (Nat.le_refl 2) (by decide) h (Below.refl _ W))
    rw [exC_chk, exC_txt] at h1
    exact h1
  have cD : ∀ W, AllT W → Calls Tryd.prog 9 #[.agg #[.int .i64 2, .string ⟨#[43]⟩, .int .i64 0, .slice none 0 0]] W fun e w' => e = .returned (.tuple #[.string ⟨#[43, 32, 46, 10]⟩, .int .i64 0]) ∧ Below W.heap.size W w' := fun W hT => by
    have h1 := write_Clause (nA ⟨#[43]⟩) none 0 W (by decide) hT (lvN W _ (by decide))
    rw [exD_chk, exD_txt] at h1
    exact h1
  have HCA := Lib.hid cA
  have HCB := Lib.hid cB
  have HCC := Lib.hid cC
  have HCD := Lib.hid cD
  clear cA cB cC cD
  go_enter Tryd.func5, Tryd.ntmps5
  go_wp2_with fail
  refine (ref_Int1 _ _).mono ?_; rintro e w1 ⟨rfl, hb1⟩
  go_wp2_with fail
  generalize hw0 : w1.alloc _ = w0
  have hw0b : Below w.heap.size w w0 := by rw [← hw0]; exact hb1.alloc hb1.size _
  have hw0s : w0.heap.size = w1.heap.size + 1 := by rw [← hw0]; simp
  have hx : w0.heap[w1.heap.size]? = some (.cells #[.int .i64 3, .string ⟨#[]⟩, .int .i64 1, .slice none 0 0] 24 (0, 0)) := by rw [← hw0]; exact heap_alloc_new w1 _
  have HKEEP : Hid (∀ W, Below w0.heap.size w0 W → Below w0.heap.size w0 W ∧ W.cell? ⟨w1.heap.size, 0, none⟩ = some (.int .i64 3) ∧ W.cell? ⟨w1.heap.size, 1, none⟩ = some (.string ⟨#[]⟩) ∧ W.cell? ⟨w1.heap.size, 2, none⟩ = some (.int .i64 1) ∧ W.cell? ⟨w1.heap.size, 3, none⟩ = some (.slice none 0 0)) :=
    Lib.hid (fun W hb => ⟨hb, cellx4 ((hb.block w1.heap.size (by omega)).trans hx)⟩)
  have HST : Hid (∀ W W', Below w0.heap.size w0 W → Below W.heap.size W W' → Below w0.heap.size w0 W') := Lib.hid (fun W W' h h' => h.trans (h'.mono h.size))
  have HSW : Hid (∀ W, Below w0.heap.size w0 W → Below w.heap.size w W) := Lib.hid (fun W h => hw0b.trans (h.mono hw0b.size))
  have HTB : Hid (∀ W, Below w0.heap.size w0 W → AllT W) := Lib.hid (fun W h => HT.out.on (HSW.out W h))
  have hD0 : Below w0.heap.size w0 w0.drew := (Below.refl _ w0).drew
  have hK0 := HKEEP.out _ (Below.refl _ w0)
  clear hw0 hx hb1
  go_region_held3 (fun W => Below w0.heap.size w0 W ∧ W.cell? ⟨w1.heap.size, 0, none⟩ = some (.int .i64 3) ∧ W.cell? ⟨w1.heap.size, 1, none⟩ = some (.string ⟨#[]⟩) ∧ W.cell? ⟨w1.heap.size, 2, none⟩ = some (.int .i64 1) ∧ W.cell? ⟨w1.heap.size, 3, none⟩ = some (.slice none 0 0))
    (first | exact HKEEP.out _ hD0 | exact HKEEP.out _ b5 | exact HKEEP.out _ b4 | exact HKEEP.out _ (b3.alloc b3.size _) | exact HKEEP.out _ b3 | exact HKEEP.out _ b2 | exact HKEEP.out _ (b1.alloc b1.size _) | exact HKEEP.out _ b1)
    (first
      | (go_at_call 7; (refine (HCA.out _ _ (HTB.out _ b4) ((row2 (comp_in (by decide) (Nat.le_refl 2) (by decide) ((row2 (lvI v1 1 (by decide) (by decide)) (lvI v1 2 (by decide) (by decide)) _ rfl _ rfl).on c2) c3) (lvI _ 3 (by decide) (by decide)) _ rfl _ rfl).on c4)).mono ?_); rintro e v5 ⟨rfl, c5⟩; have b5 := HST.out _ _ b4 c5)
      | (go_at_call 14; have _h := c3; (with_reducible refine (ref_Comp1 _ _ _ _ _).mono ?_); rintro e v4 ⟨rfl, c4⟩; have b4 := HST.out _ _ (b3.alloc b3.size _) c4)
      | (go_at_call 13; have _h := c2; (with_reducible refine (ref_Int1 _ _).mono ?_); rintro e v3 ⟨rfl, c3⟩; have b3 := HST.out _ _ b2 c3)
      | (go_at_call 14; (with_reducible refine (ref_Comp1 _ _ _ _ _).mono ?_); rintro e v2 ⟨rfl, c2⟩; have b2 := HST.out _ _ (b1.alloc b1.size _) c2)
      | (go_at_call 13; (with_reducible refine (ref_Int1 _ _).mono ?_); rintro e v1 ⟨rfl, c1⟩; have b1 := HST.out _ _ hD0 c1))
  all_goals
    go_wp2_with fail
    have hD5 : Below w0.heap.size w0 v5.drew := b5.drew
    have hK5 := HKEEP.out _ b5
    clear b1 b2 b3 b4 c1 c2 c3 c4 c5 hK0 hD0
    go_region_held3 (fun W => Below w0.heap.size w0 W ∧ W.cell? ⟨w1.heap.size, 0, none⟩ = some (.int .i64 3) ∧ W.cell? ⟨w1.heap.size, 1, none⟩ = some (.string ⟨#[]⟩) ∧ W.cell? ⟨w1.heap.size, 2, none⟩ = some (.int .i64 1) ∧ W.cell? ⟨w1.heap.size, 3, none⟩ = some (.slice none 0 0))
      (first | exact HKEEP.out _ hD5 | exact HKEEP.out _ b8 | exact HKEEP.out _ b7 | exact HKEEP.out _ (b6.alloc b6.size _) | exact HKEEP.out _ b6 | exact HKEEP.out _ b5)
      (first
        | (go_at_call 7; (refine (HCB.out _ _ (HTB.out _ b7) ((row2 (lvN v6 ⟨#[45]⟩ (by decide)) (lvI v6 1 (by decide) (by decide)) _ rfl _ rfl).on c7)).mono ?_); rintro e v8 ⟨rfl, c8⟩; have b8 := HST.out _ _ b7 c8)
        | (go_at_call 14; have _h := c6; (with_reducible refine (ref_Comp1 _ _ _ _ _).mono ?_); rintro e v7 ⟨rfl, c7⟩; have b7 := HST.out _ _ (b6.alloc b6.size _) c7)
        | (go_at_call 15; (with_reducible refine (ref_Atom1 _ _).mono ?_); rintro e v6 ⟨rfl, c6⟩; have b6 := HST.out _ _ hD5 c6))
  all_goals
    clear hK5 hD5
    go_wp2_with fail
    refine (ref_Atom1 _ _).mono ?_; rintro e v9 ⟨rfl, c9⟩
    have b9 := HST.out _ _ b8 c9
    go_wp2_with fail
    refine (ref_Var1 _ _).mono ?_; rintro e v10 ⟨rfl, c10⟩
    have b10 := HST.out _ _ b9 c10
    go_wp2_with fail
    refine (ref_Comp1 _ _ _ _ _).mono ?_; rintro e v11 ⟨rfl, c11⟩
    have b11 := HST.out _ _ (b10.alloc b10.size _) c11
    go_wp2_with fail
    refine (HCC.out _ _ (HTB.out _ b11) ((row2 (lvN v10 ⟨#[97]⟩ (by decide)) (leaf_in v10 (k := 1) (n := 0) (s := ⟨#[]⟩) (in64_small (by decide) (by decide)) (in64_small (by decide) (by decide)) (by decide)) _ rfl _ rfl).on c11)).mono ?_; rintro e v12 ⟨rfl, c12⟩
    have b12 := HST.out _ _ b11 c12
    go_wp2_with fail
    refine (ref_Atom1 _ _).mono ?_; rintro e v13 ⟨rfl, c13⟩
    have b13 := HST.out _ _ b12 c13
    go_wp2_with fail
    refine (HCD.out _ (HTB.out _ b13)).mono ?_; rintro e v14 ⟨rfl, c14⟩
    have b14 := HST.out _ _ b13 c14
    go_wp2_with fail
    go_ret
    exact ⟨rfl, HSW.out _ b14⟩
end Go.Proofs.YtdjejbgokamjeaaDoor
