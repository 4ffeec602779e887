/-
  The contract of the laws' helper live for term: the chapter's examples.
-/
import Derived.Test.YthfdiclmbbngcaaDoorTermDev
namespace Go.Proofs.YthfdiclmbbngcaaDoor
open Go.RowKit

def tX : Tm := .mk 1 ⟨#[]⟩ 0 []
def tY : Tm := .mk 1 ⟨#[]⟩ 1 []
def tAb : Tm := .mk 2 ⟨#[65, 32, 98]⟩ 0 []
def tM1 : Tm := .mk 3 ⟨#[]⟩ (-1) []
def tOne : Tm := .mk 3 ⟨#[]⟩ 1 []
def tA : Tm := .mk 2 ⟨#[97]⟩ 0 []
def tF (l : List Tm) : Tm := .mk 4 ⟨#[102]⟩ 0 l
theorem lvX (w : World) : TmIn w tX none 0 := leaf_in w (in64_small (by decide) (by decide)) (in64_small (by decide) (by decide)) (by decide)
theorem lvY (w : World) : TmIn w tY none 0 := leaf_in w (in64_small (by decide) (by decide)) (in64_small (by decide) (by decide)) (by decide)
theorem lvAb (w : World) : TmIn w tAb none 0 := leaf_in w (in64_small (by decide) (by decide)) (in64_small (by decide) (by decide)) (by decide)
theorem lvM1 (w : World) : TmIn w tM1 none 0 := leaf_in w (in64_small (by decide) (by decide)) (in64_small (by decide) (by decide)) (by decide)
theorem lvOne (w : World) : TmIn w tOne none 0 := leaf_in w (in64_small (by decide) (by decide)) (in64_small (by decide) (by decide)) (by decide)
theorem lvA (w : World) : TmIn w tA none 0 := leaf_in w (in64_small (by decide) (by decide)) (in64_small (by decide) (by decide)) (by decide)
theorem lvF {w : World} {l : List Tm} {ad : Option Addr} (hl : l.length = 3) (h : TArgs w ad l) : TmIn w (tF l) ad 3 :=
  ⟨in64_small (x := 4) (by decide) (by decide), in64_small (x := 0) (by decide) (by decide), (by decide : (⟨#[102]⟩ : ByteArray).size ≤ maxLen), by show l.length ≤ 3; omega, by decide, h⟩
theorem ex_chk : (tF [tX, tAb, tM1]).chk = 0 := by decide +kernel
theorem ex_txt : (tF [tX, tAb, tM1]).txt = [102, 40, 95, 48, 44, 39, 65, 32, 98, 39, 44, 45, 49, 41] := by decide +kernel
theorem ex_var : (tF [tX, tY, tX]).variant (tF [tY, tX, tY]) = true := by
  refine variant_true (by rfl) ?_
  intro i k hk hi
  have hi3 : i < 3 := hi
  have hp : (tF [tX, tY, tX]).places = [0, 1, 0] := by rfl
  have hq : (tF [tY, tX, tY]).places = [1, 0, 1] := by rfl
  rw [hp, hq]
  have h : (i = 1 ∧ k = 0) ∨ (i = 2 ∧ k = 0) ∨ (i = 2 ∧ k = 1) := by omega
  rcases h with ⟨rfl, rfl⟩ | ⟨rfl, rfl⟩ | ⟨rfl, rfl⟩ <;> decide
theorem ex_not : (tF [tX, tY, tX]).variant (tF [tX, tY, tY]) = false := by
  refine variant_pairs fun h => ?_
  have h1 := h 2 0 (by decide) (by show 2 < 3; decide)
  rw [show (tF [tX, tY, tX]).places = [0, 1, 0] from rfl, show (tF [tX, tY, tY]).places = [0, 1, 1] from rfl] at h1
  exact absurd (h1.1 rfl) (by decide)
theorem ex_cmp : tOne.cmp tA = -1 := by
  rw [Tm.cmp_eq, if_pos (by decide)]
  rfl

set_option maxRecDepth 100000 in
set_option maxHeartbeats 8000000 in
theorem term_live (w : World) (hT : AllT w) :
    Calls Tryd.prog 12 #[] w fun e w' => e = .returned (.bool true) ∧ Below w.heap.size w w' := by
  have HT := Lib.hid hT
  clear hT
  have cT : ∀ W g, AllT W → TArgs W (some ⟨g, 0, none⟩) [tX, tAb, tM1] → Calls Tryd.prog 33 #[.agg #[.int .i64 4, .string ⟨#[102]⟩, .int .i64 0, .slice (some ⟨g, 0, none⟩) 3 3]] W fun e w' => e = .returned (.tuple #[.string ⟨#[102, 40, 95, 48, 44, 39, 65, 32, 98, 39, 44, 45, 49, 41]⟩, .int .i64 0]) ∧ Below W.heap.size W w' := fun W g hT h => by
    have h1 := term_Text (tF [tX, tAb, tM1]) (some ⟨g, 0, none⟩) 3 W (by decide) hT (lvF rfl h)
    rw [ex_chk, if_pos rfl, ex_txt] at h1
    exact h1
  have cV : ∀ W g h, TArgs W (some ⟨g, 0, none⟩) [tX, tY, tX] → TArgs W (some ⟨h, 0, none⟩) [tY, tX, tY] → Calls Tryd.prog 22 #[.agg #[.int .i64 4, .string ⟨#[102]⟩, .int .i64 0, .slice (some ⟨g, 0, none⟩) 3 3], .agg #[.int .i64 4, .string ⟨#[102]⟩, .int .i64 0, .slice (some ⟨h, 0, none⟩) 3 3]] W fun e w' => e = .returned (.bool true) ∧ Below W.heap.size W w' := fun W g h h1 h2 => by
    have h3 := term_Variant (tF [tX, tY, tX]) (tF [tY, tX, tY]) (some ⟨g, 0, none⟩) (some ⟨h, 0, none⟩) 3 3 W (by decide) (by decide) (lvF rfl h1) (lvF rfl h2)
    rw [ex_var] at h3
    exact h3
  have cN : ∀ W g h, TArgs W (some ⟨g, 0, none⟩) [tX, tY, tX] → TArgs W (some ⟨h, 0, none⟩) [tX, tY, tY] → Calls Tryd.prog 22 #[.agg #[.int .i64 4, .string ⟨#[102]⟩, .int .i64 0, .slice (some ⟨g, 0, none⟩) 3 3], .agg #[.int .i64 4, .string ⟨#[102]⟩, .int .i64 0, .slice (some ⟨h, 0, none⟩) 3 3]] W fun e w' => e = .returned (.bool false) ∧ Below W.heap.size W w' := fun W g h h1 h2 => by
    have h3 := term_Variant (tF [tX, tY, tX]) (tF [tX, tY, tY]) (some ⟨g, 0, none⟩) (some ⟨h, 0, none⟩) 3 3 W (by decide) (by decide) (lvF rfl h1) (lvF rfl h2)
    rw [ex_not] at h3
    exact h3
  have cO : ∀ W, Calls Tryd.prog 24 #[.agg #[.int .i64 3, .string ⟨#[]⟩, .int .i64 1, .slice none 0 0], .agg #[.int .i64 2, .string ⟨#[97]⟩, .int .i64 0, .slice none 0 0]] W fun e w' => e = .returned (.int .i64 (-1)) ∧ Below W.heap.size W w' := fun W => by
    have h3 := term_Compare tOne tA none none 0 0 W (by decide) (by decide +kernel) (by decide +kernel) (lvOne W) (lvA W)
    rw [ex_cmp] at h3
    exact h3
  have cP : ∀ W, Calls Tryd.prog 26 #[.agg #[.int .i64 1, .string ⟨#[]⟩, .int .i64 0, .slice none 0 0]] W (MadeTerm W.heap.size W tX) := fun W => term_Copy tX none 0 W (by decide) (lvX W)
  have cS : ∀ W ad cap, TmIn W tX ad cap → Calls Tryd.prog 20 #[tmv tX ad cap, .agg #[.int .i64 1, .string ⟨#[]⟩, .int .i64 0, .slice none 0 0]] W fun e w' => e = .returned (.bool true) ∧ Below W.heap.size W w' := fun W ad cap h => by
    have h3 := term_Same tX tX ad none cap 0 W (by decide) (by decide) h (lvX W)
    rw [Tm.same_true rfl] at h3
    exact h3
  have HCT := Lib.hid cT
  have HV := Lib.hid cV
  have HN := Lib.hid cN
  have HO := Lib.hid cO
  have HP := Lib.hid cP
  have HS := Lib.hid cS
  have al1 : Hid (∀ (W : World) (o : Obj), Below W.heap.size W (W.alloc o)) := Lib.hid (fun W o => (Below.refl _ W).alloc (Nat.le_refl _) o)
  have drw : Hid (∀ (W : World), Below W.heap.size W W.drew) := Lib.hid (fun W => (Below.refl _ W).drew)
  clear cT cV cN cO cP cS
  go_enter Tryd.func12, Tryd.ntmps12
  go_wp2_with fail
  refine (ref_Var1 _ _).mono ?_; rintro e w1 ⟨rfl, hb1⟩
  go_wp2_with fail
  refine (ref_Var1 _ _).mono ?_; rintro e w2 ⟨rfl, hb2⟩
  have hbw2 := (hb1.alloc hb1.size _).trans (hb2.mono (by rw [World.size_alloc]; have := hb1.size; omega))
  obtain ⟨hc, hf⟩ := bcell_alloc hb2
  have hs12 := hb2.size
  rw [World.size_alloc] at hs12
  go_wp2_with fail
  generalize hw0 : w2.alloc _ = w0
  have hw0b : Below w.heap.size w w0 := by rw [← hw0]; exact hbw2.alloc hbw2.size _
  have hw0s : w0.heap.size = w2.heap.size + 1 := by rw [← hw0]; simp
  have hx : ∀ i, w0.cell? ⟨w1.heap.size, i, none⟩ = (#[.int .i64 1, .string ⟨#[]⟩, .int .i64 0, .slice none 0 0] : Array Value)[i]? := fun i => by rw [← hw0, World.cell?_alloc_past _ _ _ (by omega), hc]
  have hy : ∀ i, w0.cell? ⟨w2.heap.size, i, none⟩ = (#[.int .i64 1, .string ⟨#[]⟩, .int .i64 1, .slice none 0 0] : Array Value)[i]? := fun i => by rw [← hw0]; exact World.cell?_alloc_at _ _ _ _ rfl
  have HKEEP : Hid (∀ W, Below w0.heap.size w0 W → Below w0.heap.size w0 W ∧ W.cell? ⟨w1.heap.size, 0, none⟩ = some (.int .i64 1) ∧ W.cell? ⟨w1.heap.size, 1, none⟩ = some (.string ⟨#[]⟩) ∧ W.cell? ⟨w1.heap.size, 2, none⟩ = some (.int .i64 0) ∧ W.cell? ⟨w1.heap.size, 3, none⟩ = some (.slice none 0 0) ∧
      W.cell? ⟨w2.heap.size, 0, none⟩ = some (.int .i64 1) ∧ W.cell? ⟨w2.heap.size, 1, none⟩ = some (.string ⟨#[]⟩) ∧ W.cell? ⟨w2.heap.size, 2, none⟩ = some (.int .i64 1) ∧ W.cell? ⟨w2.heap.size, 3, none⟩ = some (.slice none 0 0)) :=
    Lib.hid (fun W hb => ⟨hb, (hb.cell (p := ⟨w1.heap.size, 0, none⟩) (by show w1.heap.size < _; omega)).trans (hx 0), (hb.cell (p := ⟨w1.heap.size, 1, none⟩) (by show w1.heap.size < _; omega)).trans (hx 1), (hb.cell (p := ⟨w1.heap.size, 2, none⟩) (by show w1.heap.size < _; omega)).trans (hx 2), (hb.cell (p := ⟨w1.heap.size, 3, none⟩) (by show w1.heap.size < _; omega)).trans (hx 3),
      (hb.cell (p := ⟨w2.heap.size, 0, none⟩) (by show w2.heap.size < _; omega)).trans (hy 0), (hb.cell (p := ⟨w2.heap.size, 1, none⟩) (by show w2.heap.size < _; omega)).trans (hy 1), (hb.cell (p := ⟨w2.heap.size, 2, none⟩) (by show w2.heap.size < _; omega)).trans (hy 2), (hb.cell (p := ⟨w2.heap.size, 3, none⟩) (by show w2.heap.size < _; omega)).trans (hy 3)⟩)
  have HST : Hid (∀ W W', Below w0.heap.size w0 W → Below W.heap.size W W' → Below w0.heap.size w0 W') := Lib.hid (fun W W' h h' => h.trans (h'.mono h.size))
  have HSW : Hid (∀ W, Below w0.heap.size w0 W → Below w.heap.size w W) := Lib.hid (fun W h => hw0b.trans (h.mono hw0b.size))
  have HTB : Hid (∀ W, Below w0.heap.size w0 W → AllT W) := Lib.hid (fun W h => HT.out.on (HSW.out W h))
  have hD0 : Below w0.heap.size w0 w0.drew := (Below.refl _ w0).drew
  have hK0 := HKEEP.out _ (Below.refl _ w0)
  clear hw0 hx hy hc hf hb1 hb2 hbw2
  go_region_held3 (fun W => Below w0.heap.size w0 W ∧ W.cell? ⟨w1.heap.size, 0, none⟩ = some (.int .i64 1) ∧ W.cell? ⟨w1.heap.size, 1, none⟩ = some (.string ⟨#[]⟩) ∧ W.cell? ⟨w1.heap.size, 2, none⟩ = some (.int .i64 0) ∧ W.cell? ⟨w1.heap.size, 3, none⟩ = some (.slice none 0 0) ∧
      W.cell? ⟨w2.heap.size, 0, none⟩ = some (.int .i64 1) ∧ W.cell? ⟨w2.heap.size, 1, none⟩ = some (.string ⟨#[]⟩) ∧ W.cell? ⟨w2.heap.size, 2, none⟩ = some (.int .i64 1) ∧ W.cell? ⟨w2.heap.size, 3, none⟩ = some (.slice none 0 0))
    (first | exact HKEEP.out _ hD0 | exact HKEEP.out _ b4 | exact HKEEP.out _ b3 | exact HKEEP.out _ (b2.alloc b2.size _) | exact HKEEP.out _ b2 | exact HKEEP.out _ b1)
    (first
      | (go_at_call 37; (with_reducible refine (ref_Atom1 _ _).mono ?_); rintro e v1 ⟨rfl, c1⟩; have b1 := HST.out _ _ hD0 c1)
      | (go_at_call 38; (with_reducible refine (ref_Int1 _ _).mono ?_); rintro e v2 ⟨rfl, c2⟩; have b2 := HST.out _ _ b1 c2)
      | (go_at_call 35; (with_reducible refine (ref_Comp1 _ _ _ _ _).mono ?_); rintro e v3 ⟨rfl, c3⟩; have b3 := HST.out _ _ (b2.alloc b2.size _) c3)
      | (go_at_call 33; (with_reducible refine (HCT.out _ _ (HTB.out _ b3) ((row3 (lvX _) (lvAb _) (lvM1 _) rfl rfl rfl _ rfl).on c3)).mono ?_); rintro e v4 ⟨rfl, c4⟩; have b4 := HST.out _ _ b3 c4))
  go_wp2_with fail
  have hD4 : Below w0.heap.size w0 v4.drew := b4.drew
  have hK4 := HKEEP.out _ b4
  clear b1 b2 b3 c1 c2 c3 c4 hK0 hD0 HCT HTB
  go_region_held3 (fun W => Below w0.heap.size w0 W ∧ W.cell? ⟨w1.heap.size, 0, none⟩ = some (.int .i64 1) ∧ W.cell? ⟨w1.heap.size, 1, none⟩ = some (.string ⟨#[]⟩) ∧ W.cell? ⟨w1.heap.size, 2, none⟩ = some (.int .i64 0) ∧ W.cell? ⟨w1.heap.size, 3, none⟩ = some (.slice none 0 0) ∧
      W.cell? ⟨w2.heap.size, 0, none⟩ = some (.int .i64 1) ∧ W.cell? ⟨w2.heap.size, 1, none⟩ = some (.string ⟨#[]⟩) ∧ W.cell? ⟨w2.heap.size, 2, none⟩ = some (.int .i64 1) ∧ W.cell? ⟨w2.heap.size, 3, none⟩ = some (.slice none 0 0))
    (first | exact HKEEP.out _ b15 | exact HKEEP.out _ b14 | exact HKEEP.out _ b13 | exact HKEEP.out _ b12 | exact HKEEP.out _ b11 | exact HKEEP.out _ b10 | exact HKEEP.out _ b9 | exact HKEEP.out _ (b8.alloc b8.size _) | exact HKEEP.out _ b8 | exact HKEEP.out _ ((b7.alloc b7.size _).alloc (by first | exact (b7.alloc b7.size _).size) _) | exact HKEEP.out _ (b7.alloc b7.size _) | exact HKEEP.out _ b7 | exact HKEEP.out _ b6 | exact HKEEP.out _ (b5.alloc b5.size _) | exact HKEEP.out _ b5 | exact HKEEP.out _ ((hD4.alloc hD4.size _).alloc (by first | exact (hD4.alloc hD4.size _).size) _) | exact HKEEP.out _ (hD4.alloc hD4.size _) | exact HKEEP.out _ hD4)
    (first
      | (go_at_call 20; (refine (HS.out _ _ _ tp14.toIn).mono ?_); rintro e v15 ⟨rfl, c15⟩; have b15 := HST.out _ _ b14 c15)
      | (go_at_call 26; (with_reducible refine (HP.out _).mono ?_); rintro e v14 ⟨ad14, cap14, rfl, tp14, c14⟩; have b14 := HST.out _ _ b13 c14)
      | (go_at_call 24; (with_reducible refine (HO.out _).mono ?_); rintro e v13 ⟨rfl, c13⟩; have b13 := HST.out _ _ b12 c13)
      | (go_at_call 37; (with_reducible refine (ref_Atom1 _ _).mono ?_); rintro e v12 ⟨rfl, c12⟩; have b12 := HST.out _ _ b11 c12)
      | (go_at_call 38; (with_reducible refine (ref_Int1 _ _).mono ?_); rintro e v11 ⟨rfl, c11⟩; have b11 := HST.out _ _ b10 c11)
      | (go_at_call 22; (first | (refine (HN.out _ _ _ (((((row3g (lvX _) (lvY _) (lvX _) rfl rfl rfl _ rfl _ (by simp))).on c8).on (al1.out _ _)).on c9) ((row3g (lvX _) (lvY _) (lvY _) rfl rfl rfl _ rfl _ (by simp)).on c9)).mono ?_) | (refine (HN.out _ _ _ (((((row3g (lvX _) (lvY _) (lvX _) rfl rfl rfl _ rfl _ (by simp)).on (al1.out _ _))).on c8).on c9) ((((row3g (lvX _) (lvY _) (lvY _) rfl rfl rfl _ rfl _ (by simp))).on c8).on c9)).mono ?_) | (refine (HN.out _ _ _ ((((row3g (lvX _) (lvY _) (lvX _) rfl rfl rfl _ rfl _ (by simp))).on c8).on c9) (((((row3g (lvX _) (lvY _) (lvY _) rfl rfl rfl _ rfl _ (by simp)).on (al1.out _ _))).on c8).on c9)).mono ?_)); rintro e v10 ⟨rfl, c10⟩; have b10 := HST.out _ _ b9 c10)
      | (go_at_call 35; have _h := c8; (with_reducible refine (ref_Comp1 _ _ _ _ _).mono ?_); rintro e v9 ⟨rfl, c9⟩; have b9 := HST.out _ _ (by first | exact (b8.alloc b8.size _) | exact b8) c9)
      | (go_at_call 35; have _h := c7; (with_reducible refine (ref_Comp1 _ _ _ _ _).mono ?_); rintro e v8 ⟨rfl, c8⟩; have b8 := HST.out _ _ (by first | exact (b7.alloc b7.size _) | exact ((b7.alloc b7.size _).alloc (by first | exact (b7.alloc b7.size _).size) _)) c8)
      | (go_at_call 22; (first | (refine (HV.out _ _ _ (((((row3g (lvX _) (lvY _) (lvX _) rfl rfl rfl _ rfl _ (by simp)).on (drw.out _)).on c5).on (al1.out _ _)).on c6) ((row3g (lvY _) (lvX _) (lvY _) rfl rfl rfl _ rfl _ (by simp)).on c6)).mono ?_) | (refine (HV.out _ _ _ (((((row3g (lvX _) (lvY _) (lvX _) rfl rfl rfl _ rfl _ (by simp)).on (al1.out _ _)).on (drw.out _)).on c5).on c6) ((((row3g (lvY _) (lvX _) (lvY _) rfl rfl rfl _ rfl _ (by simp)).on (drw.out _)).on c5).on c6)).mono ?_) | (refine (HV.out _ _ _ ((((row3g (lvX _) (lvY _) (lvX _) rfl rfl rfl _ rfl _ (by simp)).on (drw.out _)).on c5).on c6) (((((row3g (lvY _) (lvX _) (lvY _) rfl rfl rfl _ rfl _ (by simp)).on (al1.out _ _)).on (drw.out _)).on c5).on c6)).mono ?_)); rintro e v7 ⟨rfl, c7⟩; have b7 := HST.out _ _ b6 c7)
      | (go_at_call 35; have _h := c5; (with_reducible refine (ref_Comp1 _ _ _ _ _).mono ?_); rintro e v6 ⟨rfl, c6⟩; have b6 := HST.out _ _ (by first | exact (b5.alloc b5.size _) | exact b5) c6)
      | (go_at_call 35; (with_reducible refine (ref_Comp1 _ _ _ _ _).mono ?_); rintro e v5 ⟨rfl, c5⟩; have b5 := HST.out _ _ (by first | exact (hD4.alloc hD4.size _) | exact ((hD4.alloc hD4.size _).alloc (by first | exact (hD4.alloc hD4.size _).size) _)) c5))
  all_goals
    go_wp2_with fail
    go_ret
    exact ⟨rfl, HSW.out _ b15⟩
end Go.Proofs.YthfdiclmbbngcaaDoor
