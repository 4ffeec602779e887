/-
  The contract of the laws' helper live for unify: the chapter's examples (over the contracts of Unify and Compare).
-/
import Derived.Test.YtlpmofmhcnclhaaUniPJP
import Derived.Test.YtlpmofmhcnclhaaUniC
import Derived.Test.YtlpmofmhcnclhaaUniG
import Derived.Test.YtlpmofmhcnclhaaTermMk
import Derived.Deep.RegionHeld3
import Derived.Deep.DeepCutAuto
namespace Go.Proofs.Ytlpmofmhcnclhaa
open Go.RowKit

def uvX : Tm := .mk 1 ⟨#[]⟩ 0 []
def uvY : Tm := .mk 1 ⟨#[]⟩ 1 []
def uvA : Tm := .mk 2 ⟨#[97]⟩ 0 []
def uvB : Tm := .mk 2 ⟨#[98]⟩ 0 []
def uvI : Tm := .mk 3 ⟨#[]⟩ 1 []
def uvF (t u : Tm) : Tm := .mk 4 ⟨#[102]⟩ 0 [t, u]
def uvF1 (t : Tm) : Tm := .mk 4 ⟨#[102]⟩ 0 [t]
def uvG1 (t : Tm) : Tm := .mk 4 ⟨#[103]⟩ 0 [t]
theorem uv_1 : (uni [] 0 [(uvF uvX uvB, uvF uvA uvY)]).1 = some [(0, uvA), (1, uvB)] ∧ (uni [] 0 [(uvF uvX uvB, uvF uvA uvY)]).2.1 = 0 := ⟨by kernel_rfl, by kernel_rfl⟩
theorem uv_2 : (uni [] 0 [(uvX, uvF1 uvX)]).1 = some [(0, uvF1 uvX)] ∧ (uni [] 0 [(uvX, uvF1 uvX)]).2.1 = 0 := ⟨by kernel_rfl, by kernel_rfl⟩
theorem uv_3 : (uni [] 0 [(uvF1 uvA, uvG1 uvA)]).1 = none ∧ (uni [] 0 [(uvF1 uvA, uvG1 uvA)]).2.1 = 0 := ⟨by kernel_rfl, by kernel_rfl⟩
theorem uv_4 : (cmpr [] 0 [(uvI, uvA)]).1 = -1 ∧ (cmpr [] 0 [(uvI, uvA)]).2.1 = 0 := ⟨by kernel_rfl, by kernel_rfl⟩
theorem leafU (w : World) {k n : Int} {s : ByteArray} (hk : In64 k) (hn : In64 n) (hs : s.size ≤ maxLen) : TmIn w (.mk k s n []) none 0 := ⟨hk, hn, hs, Nat.le_refl _, Nat.zero_le _, .nil _⟩
theorem uvX_in (w : World) : TmIn w uvX none 0 := leafU w ⟨by decide, by decide⟩ ⟨by decide, by decide⟩ (by unfold maxLen; decide)
theorem uvY_in (w : World) : TmIn w uvY none 0 := leafU w ⟨by decide, by decide⟩ ⟨by decide, by decide⟩ (by unfold maxLen; decide)
theorem uvA_in (w : World) : TmIn w uvA none 0 := leafU w ⟨by decide, by decide⟩ ⟨by decide, by decide⟩ (by unfold maxLen; decide)
theorem uvF1_in {w : World} {t : Tm} {ad : Option Addr} (h : TArgs w ad [t]) : TmIn w (uvF1 t) ad 1 := ⟨in64_small (x := 4) (by decide) (by decide), in64_small (x := 0) (by decide) (by decide), by show (⟨#[102]⟩ : ByteArray).size ≤ maxLen; unfold maxLen; decide, Nat.le_refl _, by unfold maxLen; decide, h⟩
theorem uvF_in {w : World} {t u : Tm} {ad : Option Addr} (h : TArgs w ad [t, u]) : TmIn w (uvF t u) ad 2 := ⟨in64_small (x := 4) (by decide) (by decide), in64_small (x := 0) (by decide) (by decide), by show (⟨#[102]⟩ : ByteArray).size ≤ maxLen; unfold maxLen; decide, Nat.le_refl _, by unfold maxLen; decide, h⟩
theorem rowU1 {w : World} {A : Tm} {ad : Option Addr} {ca : Nat} (hA : TmIn w A ad ca) (C : Array Value) (hC : C = (tcells A ad ca).toArray) : TArgs (w.alloc (.cells C 25)) (some ⟨w.heap.size, 0, none⟩) [A] := by
  subst hC
  have h1 := hA.args.on ((Below.refl _ w).alloc (Nat.le_refl _) (.cells (tcells A ad ca).toArray 25))
  rw [A.eta]
  exact .cons _ _ _ _ _ _ _ ad ca (World.cell?_alloc_at _ _ _ _ rfl) (World.cell?_alloc_at _ _ _ _ rfl) (World.cell?_alloc_at _ _ _ _ rfl) (World.cell?_alloc_at _ _ _ _ rfl) hA.kind hA.n hA.name hA.len hA.cap h1 (.nil _)
theorem rowU2 {w : World} {A B : Tm} {ad bd : Option Addr} {ca cb : Nat} (hA : TmIn w A ad ca) (hB : TmIn w B bd cb) (C : Array Value) (hC : C = (tcells A ad ca ++ tcells B bd cb).toArray) : TArgs (w.alloc (.cells C 25)) (some ⟨w.heap.size, 0, none⟩) [A, B] := by
  subst hC
  have h1 := hA.args.on ((Below.refl _ w).alloc (Nat.le_refl _) (.cells (tcells A ad ca ++ tcells B bd cb).toArray 25))
  have h2 := hB.args.on ((Below.refl _ w).alloc (Nat.le_refl _) (.cells (tcells A ad ca ++ tcells B bd cb).toArray 25))
  rw [A.eta, B.eta]
  exact .cons _ _ _ _ _ _ _ ad ca (World.cell?_alloc_at _ _ _ _ rfl) (World.cell?_alloc_at _ _ _ _ rfl) (World.cell?_alloc_at _ _ _ _ rfl) (World.cell?_alloc_at _ _ _ _ rfl) hA.kind hA.n hA.name hA.len hA.cap h1
    (.cons _ _ _ _ _ _ _ bd cb (World.cell?_alloc_at _ _ _ _ rfl) (World.cell?_alloc_at _ _ _ _ rfl) (World.cell?_alloc_at _ _ _ _ rfl) (World.cell?_alloc_at _ _ _ _ rfl) hB.kind hB.n hB.name hB.len hB.cap h2 (.nil _))
def bcellsU (b : Int × Tm) (ad : Option Addr) (cap : Nat) : List Value := [.int .i64 b.1, .int .i64 b.2.kind, .string b.2.name, .int .i64 b.2.n, .slice ad b.2.args.length cap]
theorem bdsU1 {w : World} {i : Int} {A : Tm} {ad : Option Addr} {ca : Nat} (hi : In64 i) (hA : TmIn w A ad ca) (C : Array Value) (hC : C = (bcellsU (i, A) ad ca).toArray) : BdsAt (w.alloc (.cells C 34)) (fun b => b < (w.alloc (.cells C 34)).heap.size) (some ⟨w.heap.size, 0, none⟩) [(i, A)] := by
  subst hC
  intro k hk
  match k, hk with
  | 0, _ => exact ⟨w.heap.size, 0, ad, ca, rfl, by simp, hi, (hA.on ((Below.refl _ w).alloc (Nat.le_refl _) _)).inP, World.cell?_alloc_at _ _ _ _ rfl, World.cell?_alloc_at _ _ _ _ rfl, World.cell?_alloc_at _ _ _ _ rfl, World.cell?_alloc_at _ _ _ _ rfl, World.cell?_alloc_at _ _ _ _ rfl⟩
theorem bdsU2 {w : World} {i j : Int} {A B : Tm} {ad bd : Option Addr} {ca cb : Nat} (hi : In64 i) (hj : In64 j) (hA : TmIn w A ad ca) (hB : TmIn w B bd cb) (C : Array Value) (hC : C = (bcellsU (i, A) ad ca ++ bcellsU (j, B) bd cb).toArray) : BdsAt (w.alloc (.cells C 34)) (fun b => b < (w.alloc (.cells C 34)).heap.size) (some ⟨w.heap.size, 0, none⟩) [(i, A), (j, B)] := by
  subst hC
  intro k hk
  match k, hk with
  | 0, _ => exact ⟨w.heap.size, 0, ad, ca, rfl, by simp, hi, (hA.on ((Below.refl _ w).alloc (Nat.le_refl _) _)).inP, World.cell?_alloc_at _ _ _ _ rfl, World.cell?_alloc_at _ _ _ _ rfl, World.cell?_alloc_at _ _ _ _ rfl, World.cell?_alloc_at _ _ _ _ rfl, World.cell?_alloc_at _ _ _ _ rfl⟩
  | 1, _ => exact ⟨w.heap.size, 0, bd, cb, rfl, by simp, hj, (hB.on ((Below.refl _ w).alloc (Nat.le_refl _) _)).inP, World.cell?_alloc_at _ _ _ _ rfl, World.cell?_alloc_at _ _ _ _ rfl, World.cell?_alloc_at _ _ _ _ rfl, World.cell?_alloc_at _ _ _ _ rfl, World.cell?_alloc_at _ _ _ _ rfl⟩

theorem uvB_in (w : World) : TmIn w uvB none 0 := leafU w ⟨by decide, by decide⟩ ⟨by decide, by decide⟩ (by unfold maxLen; decide)
theorem uvI_in (w : World) : TmIn w uvI none 0 := leafU w ⟨by decide, by decide⟩ ⟨by decide, by decide⟩ (by unfold maxLen; decide)
theorem uvG1_in {w : World} {t : Tm} {ad : Option Addr} (h : TArgs w ad [t]) : TmIn w (uvG1 t) ad 1 := ⟨in64_small (x := 4) (by decide) (by decide), in64_small (x := 0) (by decide) (by decide), by show (⟨#[103]⟩ : ByteArray).size ≤ maxLen; unfold maxLen; decide, Nat.le_refl _, by unfold maxLen; decide, h⟩
theorem uv_U1 (ra rb : Option Addr) (W : World) (hx : TArgs W ra [uvX, uvB]) (hy : TArgs W rb [uvA, uvY]) :
    Calls Try.prog 7 #[.slice none 0 0, .agg #[.int .i64 4, .string ⟨#[102]⟩, .int .i64 0, .slice ra 2 2], .agg #[.int .i64 4, .string ⟨#[102]⟩, .int .i64 0, .slice rb 2 2]] W fun e w' => ∃ ba bc, e = .returned (.tuple #[.slice ba 2 bc, .bool true, .int .i64 0]) ∧ BdsAt w' (fun b => b < w'.heap.size) ba [(0, uvA), (1, uvB)] ∧ Below W.heap.size W w' := by
  have h := ub_Unify [] none 0 (uvF uvX uvB) (uvF uvA uvY) ra 2 rb 2 W (by decide) (Nat.le_refl _) (by unfold maxLen; decide) (fun b hb => by cases hb) (by decide +kernel) (by decide +kernel) BdsAt.nil (uvF_in hx) (uvF_in hy)
  rw [uv_1.1, uv_1.2] at h
  refine Calls.mono h ?_
  rintro e w' ⟨v, rfl, ho, hb⟩
  obtain ⟨ba, bc, rfl, _, _, hba⟩ := ho.at
  exact ⟨ba, bc, rfl, hba, hb⟩
theorem uv_U2 (ra : Option Addr) (W : World) (hy : TArgs W ra [uvX]) :
    Calls Try.prog 7 #[.slice none 0 0, .agg #[.int .i64 1, .string ⟨#[]⟩, .int .i64 0, .slice none 0 0], .agg #[.int .i64 4, .string ⟨#[102]⟩, .int .i64 0, .slice ra 1 1]] W fun e w' => ∃ ba bc, e = .returned (.tuple #[.slice ba 1 bc, .bool true, .int .i64 0]) ∧ Below W.heap.size W w' := by
  have h := ub_Unify [] none 0 uvX (uvF1 uvX) none 0 ra 1 W (by decide) (Nat.le_refl _) (by unfold maxLen; decide) (fun b hb => by cases hb) (by decide +kernel) (by decide +kernel) BdsAt.nil (uvX_in W) (uvF1_in hy)
  rw [uv_2.1, uv_2.2] at h
  refine Calls.mono h ?_
  rintro e w' ⟨v, rfl, ho, hb⟩
  obtain ⟨ba, bc, rfl, _, _, hba⟩ := ho.at
  exact ⟨ba, bc, rfl, hb⟩
theorem uv_U3 (ra rb : Option Addr) (W : World) (hx : TArgs W ra [uvA]) (hy : TArgs W rb [uvA]) :
    Calls Try.prog 7 #[.slice none 0 0, .agg #[.int .i64 4, .string ⟨#[102]⟩, .int .i64 0, .slice ra 1 1], .agg #[.int .i64 4, .string ⟨#[103]⟩, .int .i64 0, .slice rb 1 1]] W fun e w' => ∃ ba bc, e = .returned (.tuple #[.slice ba 0 bc, .bool false, .int .i64 0]) ∧ Below W.heap.size W w' := by
  have h := ub_Unify [] none 0 (uvF1 uvA) (uvG1 uvA) ra 1 rb 1 W (by decide) (Nat.le_refl _) (by unfold maxLen; decide) (fun b hb => by cases hb) (by decide +kernel) (by decide +kernel) BdsAt.nil (uvF1_in hx) (uvG1_in hy)
  rw [uv_3.1, uv_3.2] at h
  refine Calls.mono h ?_
  rintro e w' ⟨v, rfl, ho, hb⟩
  obtain ⟨ba, bc, rfl, _, _, hba⟩ := ho.at
  exact ⟨ba, bc, rfl, hb⟩
theorem uv_C (W : World) :
    Calls Try.prog 14 #[.slice none 0 0, .agg #[.int .i64 3, .string ⟨#[]⟩, .int .i64 1, .slice none 0 0], .agg #[.int .i64 2, .string ⟨#[97]⟩, .int .i64 0, .slice none 0 0]] W fun e w' => e = .returned (.tuple #[.int .i64 (-1), .int .i64 0]) ∧ Below W.heap.size W w' := by
  have h := ub_Compare [] none 0 uvI uvA none 0 none 0 W (by decide) (Nat.le_refl _) (by unfold maxLen; decide) (fun b hb => by cases hb) (by decide +kernel) (by decide +kernel) BdsAt.nil (uvI_in W) (uvA_in W) (fun b hb => by cases hb) (by kernel_rfl) (by kernel_rfl)
  rw [uv_4.1, uv_4.2] at h
  exact h
theorem fold_worldUw {S : World → Prop} {P : Program} {C : Code} {Q : Exit → Act → World → Prop} {a : Act} {w : World} (h : S w) (k : ∀ w', S w' → C.wp P Q a w') : C.wp P Q a w := k w h
theorem fold_worldU {S : World → Prop} {Q : Exit → Act → World → Prop} {e : Exit} {a : Act} {w : World} (h : S w) (k : ∀ w', S w' → Q e a w') : Q e a w := k w h
set_option linter.unusedSimpArgs false in
set_option maxRecDepth 100000 in
set_option maxHeartbeats 8000000 in
theorem uni_liveL (w : World) :
    Calls Try.prog 5 #[] w fun e w' => e = .returned (.bool true) ∧ Below w.heap.size w w' := by
  go_enter Try.func5, Try.ntmps5
  go_wp2_with fail
  refine (ref_Var1 _ _).mono ?_; rintro e w1 ⟨rfl, hb1⟩
  go_upto_region 2 with fail
  generalize hw : w1.alloc (.cells #[.int .i64 1, .string ⟨#[]⟩, .int .i64 0, .slice none 0 0] 25) = w2
  have HX : Hid (w2.heap[w1.heap.size]? = some (.cells #[.int .i64 1, .string ⟨#[]⟩, .int .i64 0, .slice none 0 0] 25 (0, 0))) := Lib.hid (by rw [← hw]; exact alloc_new w1 _)
  have hb2 : Below w1.heap.size w1 w2 := by rw [← hw]; exact (Below.refl _ _).alloc (Nat.le_refl _) _
  have HB2 := Lib.hid (hb1.trans (hb2.mono hb1.size))
  clear hw hb1 hb2
  go_wp2_with fail
  refine (ref_Var1 _ _).mono ?_; rintro e w3 ⟨rfl, hb3⟩
  go_upto_region 3 with fail
  generalize hw : w3.alloc (.cells #[.int .i64 1, .string ⟨#[]⟩, .int .i64 1, .slice none 0 0] 25) = w4
  have HY : Hid (w4.heap[w3.heap.size]? = some (.cells #[.int .i64 1, .string ⟨#[]⟩, .int .i64 1, .slice none 0 0] 25 (0, 0))) := Lib.hid (by rw [← hw]; exact alloc_new w3 _)
  have hb4 : Below w3.heap.size w3 w4 := by rw [← hw]; exact (Below.refl _ _).alloc (Nat.le_refl _) _
  have hb24 := hb3.trans (hb4.mono hb3.size)
  have HX4 := Lib.hid (keptR9 hb24 HX.out)
  have HB4 := Lib.hid (HB2.out.trans (hb24.mono HB2.out.size))
  clear hw hb3 hb4 hb24 HX HB2
  go_wp2_with fail
  refine (ref_Atom1 _ _).mono ?_; rintro e w5 ⟨rfl, hb5⟩
  go_upto_region 4 with fail
  generalize hw : w5.alloc (.cells #[.int .i64 2, .string ⟨#[97]⟩, .int .i64 0, .slice none 0 0] 25) = w6
  have HA : Hid (w6.heap[w5.heap.size]? = some (.cells #[.int .i64 2, .string ⟨#[97]⟩, .int .i64 0, .slice none 0 0] 25 (0, 0))) := Lib.hid (by rw [← hw]; exact alloc_new w5 _)
  have hb6 : Below w5.heap.size w5 w6 := by rw [← hw]; exact (Below.refl _ _).alloc (Nat.le_refl _) _
  have hb46 := hb5.trans (hb6.mono hb5.size)
  have HX6 := Lib.hid (keptR9 hb46 HX4.out)
  have HY6 := Lib.hid (keptR9 hb46 HY.out)
  have HB6 := Lib.hid (HB4.out.trans (hb46.mono HB4.out.size))
  clear hw hb5 hb6 hb46 HX4 HY HB4
  have HK : Hid (∀ W, Below w6.heap.size w6 W → Below w6.heap.size w6 W ∧ W.cell? ⟨w1.heap.size, 0, none⟩ = some (.int .i64 1) ∧ W.cell? ⟨w1.heap.size, 1, none⟩ = some (.string ⟨#[]⟩) ∧ W.cell? ⟨w1.heap.size, 2, none⟩ = some (.int .i64 0) ∧ W.cell? ⟨w1.heap.size, 3, none⟩ = some (.slice none 0 0) ∧ W.cell? ⟨w3.heap.size, 0, none⟩ = some (.int .i64 1) ∧ W.cell? ⟨w3.heap.size, 1, none⟩ = some (.string ⟨#[]⟩) ∧ W.cell? ⟨w3.heap.size, 2, none⟩ = some (.int .i64 1) ∧ W.cell? ⟨w3.heap.size, 3, none⟩ = some (.slice none 0 0) ∧ W.cell? ⟨w5.heap.size, 0, none⟩ = some (.int .i64 2) ∧ W.cell? ⟨w5.heap.size, 1, none⟩ = some (.string ⟨#[97]⟩) ∧ W.cell? ⟨w5.heap.size, 2, none⟩ = some (.int .i64 0) ∧ W.cell? ⟨w5.heap.size, 3, none⟩ = some (.slice none 0 0)) := Lib.hid (fun W h => by
    obtain ⟨x0, x1, x2, x3, _⟩ := cellsT (keptR9 h HX6.out)
    obtain ⟨y0, y1, y2, y3, _⟩ := cellsT (keptR9 h HY6.out)
    obtain ⟨a0, a1, a2, a3, _⟩ := cellsT (keptR9 h HA.out)
    exact ⟨h, x0, x1, x2, x3, y0, y1, y2, y3, a0, a1, a2, a3⟩)
  have bD : Below w6.heap.size w6 w6.drew := (Below.refl _ w6).drew
  have bA : ∀ o : Obj, Below w6.heap.size w6 (w6.alloc o).drew := fun o => ((Below.refl _ w6).alloc (Nat.le_refl _) o).drew
  have bAA : ∀ o o' : Obj, Below w6.heap.size w6 ((w6.alloc o).alloc o').drew := fun o o' => (((Below.refl _ w6).alloc (Nat.le_refl _) o).alloc (by rw [World.size_alloc]; omega) o').drew
  have HR0 := Lib.hid ((rowU2 (uvA_in w6) (uvY_in w6) #[.int .i64 2, .string ⟨#[97]⟩, .int .i64 0, .slice none 0 0, .int .i64 1, .string ⟨#[]⟩, .int .i64 1, .slice none 0 0] rfl).on ((Below.refl _ _).drew))
  have HU := Lib.hid (fun ra rb W hx hy => uv_U1 ra rb W hx hy)
  go_cut [4, 5, 6] (fun s4 s5 s6 wx => ∃ ba bc, s4 = .slice ba 2 bc ∧ s5 = .bool true ∧ s6 = .int .i64 0 ∧ Below w6.heap.size w6 wx ∧ Hid (BdsAt wx (fun b => b < wx.heap.size) ba [(0, uvA), (1, uvB)]))
  case first =>
    go_region_held3 (fun W => Below w6.heap.size w6 W ∧ W.cell? ⟨w1.heap.size, 0, none⟩ = some (.int .i64 1) ∧ W.cell? ⟨w1.heap.size, 1, none⟩ = some (.string ⟨#[]⟩) ∧ W.cell? ⟨w1.heap.size, 2, none⟩ = some (.int .i64 0) ∧ W.cell? ⟨w1.heap.size, 3, none⟩ = some (.slice none 0 0) ∧ W.cell? ⟨w3.heap.size, 0, none⟩ = some (.int .i64 1) ∧ W.cell? ⟨w3.heap.size, 1, none⟩ = some (.string ⟨#[]⟩) ∧ W.cell? ⟨w3.heap.size, 2, none⟩ = some (.int .i64 1) ∧ W.cell? ⟨w3.heap.size, 3, none⟩ = some (.slice none 0 0) ∧ W.cell? ⟨w5.heap.size, 0, none⟩ = some (.int .i64 2) ∧ W.cell? ⟨w5.heap.size, 1, none⟩ = some (.string ⟨#[97]⟩) ∧ W.cell? ⟨w5.heap.size, 2, none⟩ = some (.int .i64 0) ∧ W.cell? ⟨w5.heap.size, 3, none⟩ = some (.slice none 0 0))
      (first | with_reducible exact HK.out _ bD | with_reducible exact HK.out _ (bA _) | with_reducible exact HK.out _ b10 | with_reducible exact HK.out _ b9 | with_reducible exact HK.out _ b8 | with_reducible exact HK.out _ (b8.alloc b8.size _) | with_reducible exact HK.out _ b7 | with_reducible exact HK.out _ (b7.alloc b7.size _) | with_reducible exact HK.out _ ((b7.alloc b7.size _).alloc (b7.alloc b7.size _).size _))
      (first
        | (go_at_call 7; (with_reducible refine (HU.out _ _ _ HXB9.out HAY9.out).mono ?_); rintro e w10 ⟨ba, bc, rfl, hba, hb10⟩; have b10 := b9.trans (hb10.mono b9.size); have HBA := Lib.hid hba; clear hba hb10)
        | (go_at_call 12; (refine (ref_Atom1 _ _).mono ?_); rintro e w7 ⟨rfl, hb7⟩; have b7 := bD.trans (hb7.mono bD.size); have hs7 := b7.size; clear hb7)
        | (go_at_call 12; (refine (ref_Atom1 _ _).mono ?_); rintro e w7 ⟨rfl, hb7⟩; have b7 := (bA _).trans (hb7.mono (bA _).size); have HAY7 := Lib.hid (HR0.out.on hb7); have hs7 := b7.size; clear hb7)
        | (go_at_call 13; (refine (ref_Comp1 _ _ _ _ _).mono ?_); rintro e w9 ⟨rfl, hb9⟩; have HAY9 := Lib.hid (HAY8.out.on hb9); have HXB9 := Lib.hid (HXB8.out.on hb9); have b9 := b8.trans (hb9.mono b8.size); clear hb9)
        | (go_at_call 13; (refine (ref_Comp1 _ _ _ _ _).mono ?_); rintro e w9 ⟨rfl, hb9⟩; have HAY9 := Lib.hid ((rowU2 (w := w8) (uvA_in w8) (uvY_in w8) #[.int .i64 2, .string ⟨#[97]⟩, .int .i64 0, .slice none 0 0, .int .i64 1, .string ⟨#[]⟩, .int .i64 1, .slice none 0 0] rfl).on hb9); have HXB9 := Lib.hid ((HXB8.out.on ((Below.refl _ _).alloc (Nat.le_refl _) _)).on hb9); have b9 := (b8.alloc b8.size _).trans (hb9.mono (b8.alloc b8.size _).size); clear hb9)
        | (go_at_call 13; (refine (ref_Comp1 _ _ _ _ _).mono ?_); rintro e w8 ⟨rfl, hb8⟩; have HXB8 := Lib.hid ((rowU2 (w := w7) (uvX_in w7) (uvB_in w7) #[.int .i64 1, .string ⟨#[]⟩, .int .i64 0, .slice none 0 0, .int .i64 2, .string ⟨#[98]⟩, .int .i64 0, .slice none 0 0] rfl).on hb8); have HAY8 := Lib.hid ((HAY7.out.on ((Below.refl _ _).alloc (Nat.le_refl _) _)).on hb8); have b8 := (b7.alloc b7.size _).trans (hb8.mono (b7.alloc b7.size _).size); have hs8 := b8.size; clear hb8)
        | (go_at_call 13; (refine (ref_Comp1 _ _ _ _ _).mono ?_); rintro e w8 ⟨rfl, hb8⟩; have HXB8 := Lib.hid ((rowU2 (w := w7) (uvX_in w7) (uvB_in w7) #[.int .i64 1, .string ⟨#[]⟩, .int .i64 0, .slice none 0 0, .int .i64 2, .string ⟨#[98]⟩, .int .i64 0, .slice none 0 0] rfl).on hb8); have b8 := (b7.alloc b7.size _).trans (hb8.mono (b7.alloc b7.size _).size); have hs8 := b8.size; clear hb8)
        | (go_at_call 13; (refine (ref_Comp1 _ _ _ _ _).mono ?_); rintro e w8 ⟨rfl, hb8⟩; have HXB8 := Lib.hid (((rowU2 (w := w7) (uvX_in w7) (uvB_in w7) #[.int .i64 1, .string ⟨#[]⟩, .int .i64 0, .slice none 0 0, .int .i64 2, .string ⟨#[98]⟩, .int .i64 0, .slice none 0 0] rfl).on ((Below.refl _ _).alloc (Nat.le_refl _) _)).on hb8); have HAY8 := Lib.hid ((rowU2 (w := w7.alloc (.cells #[.int .i64 1, .string ⟨#[]⟩, .int .i64 0, .slice none 0 0, .int .i64 2, .string ⟨#[98]⟩, .int .i64 0, .slice none 0 0] 25)) (uvA_in _) (uvY_in _) #[.int .i64 2, .string ⟨#[97]⟩, .int .i64 0, .slice none 0 0, .int .i64 1, .string ⟨#[]⟩, .int .i64 1, .slice none 0 0] rfl).on hb8); rw [World.size_alloc] at HAY8; have b8 := ((b7.alloc b7.size _).alloc (b7.alloc b7.size _).size _).trans (hb8.mono ((b7.alloc b7.size _).alloc (b7.alloc b7.size _).size _).size); have hs8 := b8.size; clear hb8)
        | (go_at_call 13; (refine (ref_Comp1 _ _ _ _ _).mono ?_); rintro e w8 ⟨rfl, hb8⟩; have HAY8 := Lib.hid (((rowU2 (w := w7) (uvA_in w7) (uvY_in w7) #[.int .i64 2, .string ⟨#[97]⟩, .int .i64 0, .slice none 0 0, .int .i64 1, .string ⟨#[]⟩, .int .i64 1, .slice none 0 0] rfl).on ((Below.refl _ _).alloc (Nat.le_refl _) _)).on hb8); have HXB8 := Lib.hid ((rowU2 (w := w7.alloc (.cells #[.int .i64 2, .string ⟨#[97]⟩, .int .i64 0, .slice none 0 0, .int .i64 1, .string ⟨#[]⟩, .int .i64 1, .slice none 0 0] 25)) (uvX_in _) (uvB_in _) #[.int .i64 1, .string ⟨#[]⟩, .int .i64 0, .slice none 0 0, .int .i64 2, .string ⟨#[98]⟩, .int .i64 0, .slice none 0 0] rfl).on hb8); rw [World.size_alloc] at HXB8; have b8 := ((b7.alloc b7.size _).alloc (b7.alloc b7.size _).size _).trans (hb8.mono ((b7.alloc b7.size _).alloc (b7.alloc b7.size _).size _).size); have hs8 := b8.size; clear hb8))
    all_goals
      clear HU HR0 HK bA bAA bD
      go_wp2_with fail
      go_meet
      exact ⟨ba, bc, rfl, rfl, rfl, b10, HBA⟩
  case rest =>
    obtain ⟨ba, bc, rfl, rfl, rfl, b10, HBA⟩ := hcut
    obtain ⟨w10, rfl⟩ : ∃ z, z = wc := ⟨_, rfl⟩
    have HX10 := Lib.hid (keptR9 b10 HX6.out)
    have HY10 := Lib.hid (keptR9 b10 HY6.out)
    have HA10 := Lib.hid (keptR9 b10 HA.out)
    have HB10 := Lib.hid (HB6.out.trans (b10.mono HB6.out.size))
    have HD10 := HBA
    clear HU HR0 HK bA bAA bD b10 HX6 HY6 HA HB6 HBA
    go_upto_region 5 with fail
    have HK : Hid (∀ W, Below w10.heap.size w10 W → Below w10.heap.size w10 W ∧ W.cell? ⟨w1.heap.size, 0, none⟩ = some (.int .i64 1) ∧ W.cell? ⟨w1.heap.size, 1, none⟩ = some (.string ⟨#[]⟩) ∧ W.cell? ⟨w1.heap.size, 2, none⟩ = some (.int .i64 0) ∧ W.cell? ⟨w1.heap.size, 3, none⟩ = some (.slice none 0 0) ∧ W.cell? ⟨w3.heap.size, 0, none⟩ = some (.int .i64 1) ∧ W.cell? ⟨w3.heap.size, 1, none⟩ = some (.string ⟨#[]⟩) ∧ W.cell? ⟨w3.heap.size, 2, none⟩ = some (.int .i64 1) ∧ W.cell? ⟨w3.heap.size, 3, none⟩ = some (.slice none 0 0) ∧ W.cell? ⟨w5.heap.size, 0, none⟩ = some (.int .i64 2) ∧ W.cell? ⟨w5.heap.size, 1, none⟩ = some (.string ⟨#[97]⟩) ∧ W.cell? ⟨w5.heap.size, 2, none⟩ = some (.int .i64 0) ∧ W.cell? ⟨w5.heap.size, 3, none⟩ = some (.slice none 0 0)) := Lib.hid (fun W h => by
      obtain ⟨x0, x1, x2, x3, _⟩ := cellsT (keptR9 h HX10.out)
      obtain ⟨y0, y1, y2, y3, _⟩ := cellsT (keptR9 h HY10.out)
      obtain ⟨a0, a1, a2, a3, _⟩ := cellsT (keptR9 h HA10.out)
      exact ⟨h, x0, x1, x2, x3, y0, y1, y2, y3, a0, a1, a2, a3⟩)
    have bD : Below w10.heap.size w10 w10.drew := (Below.refl _ w10).drew
    have bA : ∀ o : Obj, Below w10.heap.size w10 (w10.alloc o).drew := fun o => ((Below.refl _ w10).alloc (Nat.le_refl _) o).drew
    have bAA : ∀ o o' : Obj, Below w10.heap.size w10 ((w10.alloc o).alloc o').drew := fun o o' => (((Below.refl _ w10).alloc (Nat.le_refl _) o).alloc (by rw [World.size_alloc]; omega) o').drew
    have HR0 := Lib.hid ((rowU1 (uvX_in w10) #[.int .i64 1, .string ⟨#[]⟩, .int .i64 0, .slice none 0 0] rfl).on ((Below.refl _ _).drew))
    have HU := Lib.hid (fun ra W hx => uv_U2 ra W hx)
    go_cut [7, 8, 9] (fun s7 s8 s9 wx => ∃ ca cc, s7 = .slice ca 1 cc ∧ s8 = .bool true ∧ s9 = .int .i64 0 ∧ Below w10.heap.size w10 wx)
    case first =>
      go_region_held3 (fun W => Below w10.heap.size w10 W ∧ W.cell? ⟨w1.heap.size, 0, none⟩ = some (.int .i64 1) ∧ W.cell? ⟨w1.heap.size, 1, none⟩ = some (.string ⟨#[]⟩) ∧ W.cell? ⟨w1.heap.size, 2, none⟩ = some (.int .i64 0) ∧ W.cell? ⟨w1.heap.size, 3, none⟩ = some (.slice none 0 0) ∧ W.cell? ⟨w3.heap.size, 0, none⟩ = some (.int .i64 1) ∧ W.cell? ⟨w3.heap.size, 1, none⟩ = some (.string ⟨#[]⟩) ∧ W.cell? ⟨w3.heap.size, 2, none⟩ = some (.int .i64 1) ∧ W.cell? ⟨w3.heap.size, 3, none⟩ = some (.slice none 0 0) ∧ W.cell? ⟨w5.heap.size, 0, none⟩ = some (.int .i64 2) ∧ W.cell? ⟨w5.heap.size, 1, none⟩ = some (.string ⟨#[97]⟩) ∧ W.cell? ⟨w5.heap.size, 2, none⟩ = some (.int .i64 0) ∧ W.cell? ⟨w5.heap.size, 3, none⟩ = some (.slice none 0 0))
        (first | with_reducible exact HK.out _ bD | with_reducible exact HK.out _ (bA _) | with_reducible exact HK.out _ b12 | with_reducible exact HK.out _ b11)
        (first
          | (go_at_call 7; (with_reducible refine (HU.out _ _ HX11.out).mono ?_); rintro e w12 ⟨ca, cc, rfl, hb12⟩; have b12 := b11.trans (hb12.mono b11.size); clear hb12)
          | (go_at_call 13; (refine (ref_Comp1 _ _ _ _ _).mono ?_); rintro e w11 ⟨rfl, hb11⟩; have b11 := (bA _).trans (hb11.mono (bA _).size); have HX11 := Lib.hid (HR0.out.on hb11); clear hb11))
      all_goals
        clear HU HR0 HK bA bAA bD
        go_wp2_with fail
        go_meet
        exact ⟨ca, cc, rfl, rfl, rfl, b12⟩
    case rest =>
      obtain ⟨ca, cc, rfl, rfl, rfl, b12⟩ := hcut
      obtain ⟨w12, rfl⟩ : ∃ z, z = wc := ⟨_, rfl⟩
      have HX12 := Lib.hid (keptR9 b12 HX10.out)
      have HY12 := Lib.hid (keptR9 b12 HY10.out)
      have HA12 := Lib.hid (keptR9 b12 HA10.out)
      have HB12 := Lib.hid (HB10.out.trans (b12.mono HB10.out.size))
      have HD12 := Lib.hid (HD10.out.kept (w' := w12) (Q := fun b => b < w12.heap.size) (fun b _ hl => b12.block b hl) fun b hb _ => Nat.lt_of_lt_of_le hb b12.size)
      clear HU HR0 HK bA bAA bD b12 HX10 HY10 HA10 HB10 HD10
      go_upto_region 6 with fail
      have HK : Hid (∀ W, Below w12.heap.size w12 W → Below w12.heap.size w12 W ∧ W.cell? ⟨w1.heap.size, 0, none⟩ = some (.int .i64 1) ∧ W.cell? ⟨w1.heap.size, 1, none⟩ = some (.string ⟨#[]⟩) ∧ W.cell? ⟨w1.heap.size, 2, none⟩ = some (.int .i64 0) ∧ W.cell? ⟨w1.heap.size, 3, none⟩ = some (.slice none 0 0) ∧ W.cell? ⟨w3.heap.size, 0, none⟩ = some (.int .i64 1) ∧ W.cell? ⟨w3.heap.size, 1, none⟩ = some (.string ⟨#[]⟩) ∧ W.cell? ⟨w3.heap.size, 2, none⟩ = some (.int .i64 1) ∧ W.cell? ⟨w3.heap.size, 3, none⟩ = some (.slice none 0 0) ∧ W.cell? ⟨w5.heap.size, 0, none⟩ = some (.int .i64 2) ∧ W.cell? ⟨w5.heap.size, 1, none⟩ = some (.string ⟨#[97]⟩) ∧ W.cell? ⟨w5.heap.size, 2, none⟩ = some (.int .i64 0) ∧ W.cell? ⟨w5.heap.size, 3, none⟩ = some (.slice none 0 0)) := Lib.hid (fun W h => by
        obtain ⟨x0, x1, x2, x3, _⟩ := cellsT (keptR9 h HX12.out)
        obtain ⟨y0, y1, y2, y3, _⟩ := cellsT (keptR9 h HY12.out)
        obtain ⟨a0, a1, a2, a3, _⟩ := cellsT (keptR9 h HA12.out)
        exact ⟨h, x0, x1, x2, x3, y0, y1, y2, y3, a0, a1, a2, a3⟩)
      have bD : Below w12.heap.size w12 w12.drew := (Below.refl _ w12).drew
      have bA : ∀ o : Obj, Below w12.heap.size w12 (w12.alloc o).drew := fun o => ((Below.refl _ w12).alloc (Nat.le_refl _) o).drew
      have bAA : ∀ o o' : Obj, Below w12.heap.size w12 ((w12.alloc o).alloc o').drew := fun o o' => (((Below.refl _ w12).alloc (Nat.le_refl _) o).alloc (by rw [World.size_alloc]; omega) o').drew
      have HR1 := Lib.hid ((rowU1 (uvA_in w12) #[.int .i64 2, .string ⟨#[97]⟩, .int .i64 0, .slice none 0 0] rfl).on ((Below.refl _ _).drew))
      have HR2 : Hid (TArgs ((w12.alloc (.cells #[.int .i64 2, .string ⟨#[97]⟩, .int .i64 0, .slice none 0 0] 25)).alloc (.cells #[.int .i64 2, .string ⟨#[97]⟩, .int .i64 0, .slice none 0 0] 25)).drew (some ⟨w12.heap.size, 0, none⟩) [uvA]) := Lib.hid (((rowU1 (uvA_in w12) #[.int .i64 2, .string ⟨#[97]⟩, .int .i64 0, .slice none 0 0] rfl).on ((Below.refl _ _).alloc (Nat.le_refl _) _)).on ((Below.refl _ _).drew))
      have HR3 : Hid (TArgs ((w12.alloc (.cells #[.int .i64 2, .string ⟨#[97]⟩, .int .i64 0, .slice none 0 0] 25)).alloc (.cells #[.int .i64 2, .string ⟨#[97]⟩, .int .i64 0, .slice none 0 0] 25)).drew (some ⟨w12.heap.size + 1, 0, none⟩) [uvA]) := Lib.hid (by
        have h := (rowU1 (w := w12.alloc (.cells #[.int .i64 2, .string ⟨#[97]⟩, .int .i64 0, .slice none 0 0] 25)) (uvA_in _) #[.int .i64 2, .string ⟨#[97]⟩, .int .i64 0, .slice none 0 0] rfl).on ((Below.refl _ _).drew)
        rw [World.size_alloc] at h
        exact h)
      have HU := Lib.hid (fun ra rb W hx hy => uv_U3 ra rb W hx hy)
      go_cut [10, 11, 12] (fun s10 s11 s12 wx => s11 = .bool false ∧ s12 = .int .i64 0 ∧ Below w12.heap.size w12 wx)
      case first =>
        go_region_held3 (fun W => Below w12.heap.size w12 W ∧ W.cell? ⟨w1.heap.size, 0, none⟩ = some (.int .i64 1) ∧ W.cell? ⟨w1.heap.size, 1, none⟩ = some (.string ⟨#[]⟩) ∧ W.cell? ⟨w1.heap.size, 2, none⟩ = some (.int .i64 0) ∧ W.cell? ⟨w1.heap.size, 3, none⟩ = some (.slice none 0 0) ∧ W.cell? ⟨w3.heap.size, 0, none⟩ = some (.int .i64 1) ∧ W.cell? ⟨w3.heap.size, 1, none⟩ = some (.string ⟨#[]⟩) ∧ W.cell? ⟨w3.heap.size, 2, none⟩ = some (.int .i64 1) ∧ W.cell? ⟨w3.heap.size, 3, none⟩ = some (.slice none 0 0) ∧ W.cell? ⟨w5.heap.size, 0, none⟩ = some (.int .i64 2) ∧ W.cell? ⟨w5.heap.size, 1, none⟩ = some (.string ⟨#[97]⟩) ∧ W.cell? ⟨w5.heap.size, 2, none⟩ = some (.int .i64 0) ∧ W.cell? ⟨w5.heap.size, 3, none⟩ = some (.slice none 0 0))
          (first | with_reducible exact HK.out _ bD | with_reducible exact HK.out _ (bA _) | with_reducible exact HK.out _ (bAA _ _) | with_reducible exact HK.out _ b15 | with_reducible exact HK.out _ b14 | with_reducible exact HK.out _ b13 | with_reducible exact HK.out _ (b13.alloc b13.size _))
          (first
            | (go_at_call 7; (with_reducible refine (HU.out _ _ _ HE14.out HF14.out).mono ?_); rintro e w15 ⟨da, dc, rfl, hb15⟩; have b15 := b14.trans (hb15.mono b14.size); clear hb15)
            | (go_at_call 7; (with_reducible refine (HU.out _ _ _ HF14.out HE14.out).mono ?_); rintro e w15 ⟨da, dc, rfl, hb15⟩; have b15 := b14.trans (hb15.mono b14.size); clear hb15)
            | (go_at_call 13; (refine (ref_Comp1 _ _ _ _ _).mono ?_); rintro e w14 ⟨rfl, hb14⟩; have HF14 := Lib.hid (HF13.out.on hb14); have HE14 := Lib.hid (HE13.out.on hb14); have b14 := b13.trans (hb14.mono b13.size); clear hb14)
            | (go_at_call 13; (refine (ref_Comp1 _ _ _ _ _).mono ?_); rintro e w14 ⟨rfl, hb14⟩; have HF14 := Lib.hid ((rowU1 (w := w13) (uvA_in w13) #[.int .i64 2, .string ⟨#[97]⟩, .int .i64 0, .slice none 0 0] rfl).on hb14); have HE14 := Lib.hid ((HE13.out.on ((Below.refl _ _).alloc (Nat.le_refl _) _)).on hb14); have b14 := (b13.alloc b13.size _).trans (hb14.mono (b13.alloc b13.size _).size); clear hb14)
            | (go_at_call 13; (refine (ref_Comp1 _ _ _ _ _).mono ?_); rintro e w13 ⟨rfl, hb13⟩; have HE13 := Lib.hid (HR2.out.on hb13); have HF13 := Lib.hid (HR3.out.on hb13); have b13 := (bAA _ _).trans (hb13.mono (bAA _ _).size); have hs13 := b13.size; clear hb13)
            | (go_at_call 13; (refine (ref_Comp1 _ _ _ _ _).mono ?_); rintro e w13 ⟨rfl, hb13⟩; have HE13 := Lib.hid (HR1.out.on hb13); have b13 := (bA _).trans (hb13.mono (bA _).size); have hs13 := b13.size; clear hb13))
        all_goals
          clear HU HR1 HR2 HR3 HK bA bAA bD
          go_wp2_with fail
          go_meet
          exact ⟨rfl, rfl, b15⟩
      case rest =>
        obtain ⟨rfl, rfl, b15⟩ := hcut
        obtain ⟨w15, rfl⟩ : ∃ z, z = wc := ⟨_, rfl⟩
        have HX15 := Lib.hid (keptR9 b15 HX12.out)
        have HY15 := Lib.hid (keptR9 b15 HY12.out)
        have HA15 := Lib.hid (keptR9 b15 HA12.out)
        have HB15 := Lib.hid (HB12.out.trans (b15.mono HB12.out.size))
        have HD15 := Lib.hid (HD12.out.kept (w' := w15) (Q := fun b => b < w15.heap.size) (fun b _ hl => b15.block b hl) fun b hb _ => Nat.lt_of_lt_of_le hb b15.size)
        clear HU HR1 HR2 HR3 HK bA bAA bD b15 HX12 HY12 HA12 HB12 HD12
        go_upto_region 7 with fail
        have HK : Hid (∀ W, Below w15.heap.size w15 W → Below w15.heap.size w15 W ∧ W.cell? ⟨w1.heap.size, 0, none⟩ = some (.int .i64 1) ∧ W.cell? ⟨w1.heap.size, 1, none⟩ = some (.string ⟨#[]⟩) ∧ W.cell? ⟨w1.heap.size, 2, none⟩ = some (.int .i64 0) ∧ W.cell? ⟨w1.heap.size, 3, none⟩ = some (.slice none 0 0) ∧ W.cell? ⟨w3.heap.size, 0, none⟩ = some (.int .i64 1) ∧ W.cell? ⟨w3.heap.size, 1, none⟩ = some (.string ⟨#[]⟩) ∧ W.cell? ⟨w3.heap.size, 2, none⟩ = some (.int .i64 1) ∧ W.cell? ⟨w3.heap.size, 3, none⟩ = some (.slice none 0 0) ∧ W.cell? ⟨w5.heap.size, 0, none⟩ = some (.int .i64 2) ∧ W.cell? ⟨w5.heap.size, 1, none⟩ = some (.string ⟨#[97]⟩) ∧ W.cell? ⟨w5.heap.size, 2, none⟩ = some (.int .i64 0) ∧ W.cell? ⟨w5.heap.size, 3, none⟩ = some (.slice none 0 0)) := Lib.hid (fun W h => by
          obtain ⟨x0, x1, x2, x3, _⟩ := cellsT (keptR9 h HX15.out)
          obtain ⟨y0, y1, y2, y3, _⟩ := cellsT (keptR9 h HY15.out)
          obtain ⟨a0, a1, a2, a3, _⟩ := cellsT (keptR9 h HA15.out)
          exact ⟨h, x0, x1, x2, x3, y0, y1, y2, y3, a0, a1, a2, a3⟩)
        have bD : Below w15.heap.size w15 w15.drew := (Below.refl _ w15).drew
        have bA : ∀ o : Obj, Below w15.heap.size w15 (w15.alloc o).drew := fun o => ((Below.refl _ w15).alloc (Nat.le_refl _) o).drew
        have bAA : ∀ o o' : Obj, Below w15.heap.size w15 ((w15.alloc o).alloc o').drew := fun o o' => (((Below.refl _ w15).alloc (Nat.le_refl _) o).alloc (by rw [World.size_alloc]; omega) o').drew
        have HC := Lib.hid (fun W => uv_C W)
        go_cut [13, 14] (fun s13 s14 wx => s13 = .int .i64 (-1) ∧ s14 = .int .i64 0 ∧ Below w15.heap.size w15 wx)
        case first =>
          go_region_held3 (fun W => Below w15.heap.size w15 W ∧ W.cell? ⟨w1.heap.size, 0, none⟩ = some (.int .i64 1) ∧ W.cell? ⟨w1.heap.size, 1, none⟩ = some (.string ⟨#[]⟩) ∧ W.cell? ⟨w1.heap.size, 2, none⟩ = some (.int .i64 0) ∧ W.cell? ⟨w1.heap.size, 3, none⟩ = some (.slice none 0 0) ∧ W.cell? ⟨w3.heap.size, 0, none⟩ = some (.int .i64 1) ∧ W.cell? ⟨w3.heap.size, 1, none⟩ = some (.string ⟨#[]⟩) ∧ W.cell? ⟨w3.heap.size, 2, none⟩ = some (.int .i64 1) ∧ W.cell? ⟨w3.heap.size, 3, none⟩ = some (.slice none 0 0) ∧ W.cell? ⟨w5.heap.size, 0, none⟩ = some (.int .i64 2) ∧ W.cell? ⟨w5.heap.size, 1, none⟩ = some (.string ⟨#[97]⟩) ∧ W.cell? ⟨w5.heap.size, 2, none⟩ = some (.int .i64 0) ∧ W.cell? ⟨w5.heap.size, 3, none⟩ = some (.slice none 0 0))
            (first | with_reducible exact HK.out _ bD | with_reducible exact HK.out _ b17 | with_reducible exact HK.out _ b16)
            (first
              | (go_at_call 14; (with_reducible refine (HC.out _).mono ?_); rintro e w17 ⟨rfl, hb17⟩; have b17 := b16.trans (hb17.mono b16.size); clear hb17)
              | (go_at_call 15; (refine (ref_Int1 _ _).mono ?_); rintro e w16 ⟨rfl, hb16⟩; have b16 := bD.trans (hb16.mono bD.size); clear hb16))
          all_goals
            clear HC HK bA bAA bD
            go_wp2_with fail
            go_meet
            exact ⟨rfl, rfl, b17⟩
        case rest =>
          obtain ⟨rfl, rfl, b17⟩ := hcut
          obtain ⟨w17, rfl⟩ : ∃ z, z = wc := ⟨_, rfl⟩
          have HX17 := Lib.hid (keptR9 b17 HX15.out)
          have HY17 := Lib.hid (keptR9 b17 HY15.out)
          have HA17 := Lib.hid (keptR9 b17 HA15.out)
          have HB17 := Lib.hid (HB15.out.trans (b17.mono HB15.out.size))
          have HD17 : Hid (∀ W, Below w17.heap.size w17 W → BdsAt W (fun b => b < W.heap.size) ba [(0, uvA), (1, uvB)]) := Lib.hid (fun W h => HD15.out.kept (fun b _ hl => (b17.trans (h.mono b17.size)).block b hl) fun b hb _ => Nat.lt_of_lt_of_le hb (b17.trans (h.mono b17.size)).size)
          clear HC HK bA bAA bD b17 HX15 HY15 HA15 HB15 HD15
          go_upto_region 8 with fail
          have HK : Hid (∀ W, Below w17.heap.size w17 W → Below w17.heap.size w17 W ∧ W.cell? ⟨w1.heap.size, 0, none⟩ = some (.int .i64 1) ∧ W.cell? ⟨w1.heap.size, 1, none⟩ = some (.string ⟨#[]⟩) ∧ W.cell? ⟨w1.heap.size, 2, none⟩ = some (.int .i64 0) ∧ W.cell? ⟨w1.heap.size, 3, none⟩ = some (.slice none 0 0) ∧ W.cell? ⟨w3.heap.size, 0, none⟩ = some (.int .i64 1) ∧ W.cell? ⟨w3.heap.size, 1, none⟩ = some (.string ⟨#[]⟩) ∧ W.cell? ⟨w3.heap.size, 2, none⟩ = some (.int .i64 1) ∧ W.cell? ⟨w3.heap.size, 3, none⟩ = some (.slice none 0 0) ∧ W.cell? ⟨w5.heap.size, 0, none⟩ = some (.int .i64 2) ∧ W.cell? ⟨w5.heap.size, 1, none⟩ = some (.string ⟨#[97]⟩) ∧ W.cell? ⟨w5.heap.size, 2, none⟩ = some (.int .i64 0) ∧ W.cell? ⟨w5.heap.size, 3, none⟩ = some (.slice none 0 0)) := Lib.hid (fun W h => by
            obtain ⟨x0, x1, x2, x3, _⟩ := cellsT (keptR9 h HX17.out)
            obtain ⟨y0, y1, y2, y3, _⟩ := cellsT (keptR9 h HY17.out)
            obtain ⟨a0, a1, a2, a3, _⟩ := cellsT (keptR9 h HA17.out)
            exact ⟨h, x0, x1, x2, x3, y0, y1, y2, y3, a0, a1, a2, a3⟩)
          have bD : Below w17.heap.size w17 w17.drew := (Below.refl _ w17).drew
          have bA : ∀ o : Obj, Below w17.heap.size w17 (w17.alloc o).drew := fun o => ((Below.refl _ w17).alloc (Nat.le_refl _) o).drew
          have bAA : ∀ o o' : Obj, Below w17.heap.size w17 ((w17.alloc o).alloc o').drew := fun o o' => (((Below.refl _ w17).alloc (Nat.le_refl _) o).alloc (by rw [World.size_alloc]; omega) o').drew
          have HSB := Lib.hid (fun q W (h1 : BdsAt W (fun b => b < W.heap.size) ba [(0, uvA), (1, uvB)]) (h2 : BdsAt W (fun b => b < W.heap.size) (some ⟨q, 0, none⟩) [(0, uvA), (1, uvB)]) => (show Calls Try.prog 10 #[.slice ba 2 bc, .slice (some ⟨q, 0, none⟩) 2 2] W _ from r10_SameBinds [(0, uvA), (1, uvB)] ba bc (some ⟨q, 0, none⟩) 2 W (fun b => b < W.heap.size) (fun b => b < W.heap.size) (by decide) (by decide +kernel) h1 h2))
          have HBR := Lib.hid (fun w : World => bdsU2 (w := w) (i := 0) (j := 1) ⟨by decide, by decide⟩ ⟨by decide, by decide⟩ (uvA_in w) (uvB_in w) #[.int .i64 0, .int .i64 2, .string ⟨#[97]⟩, .int .i64 0, .slice none 0 0, .int .i64 1, .int .i64 2, .string ⟨#[98]⟩, .int .i64 0, .slice none 0 0] rfl)
          clear HX17 HY17 HA17
          go_region_held3 (fun W => Below w17.heap.size w17 W ∧ W.cell? ⟨w1.heap.size, 0, none⟩ = some (.int .i64 1) ∧ W.cell? ⟨w1.heap.size, 1, none⟩ = some (.string ⟨#[]⟩) ∧ W.cell? ⟨w1.heap.size, 2, none⟩ = some (.int .i64 0) ∧ W.cell? ⟨w1.heap.size, 3, none⟩ = some (.slice none 0 0) ∧ W.cell? ⟨w3.heap.size, 0, none⟩ = some (.int .i64 1) ∧ W.cell? ⟨w3.heap.size, 1, none⟩ = some (.string ⟨#[]⟩) ∧ W.cell? ⟨w3.heap.size, 2, none⟩ = some (.int .i64 1) ∧ W.cell? ⟨w3.heap.size, 3, none⟩ = some (.slice none 0 0) ∧ W.cell? ⟨w5.heap.size, 0, none⟩ = some (.int .i64 2) ∧ W.cell? ⟨w5.heap.size, 1, none⟩ = some (.string ⟨#[97]⟩) ∧ W.cell? ⟨w5.heap.size, 2, none⟩ = some (.int .i64 0) ∧ W.cell? ⟨w5.heap.size, 3, none⟩ = some (.slice none 0 0))
            (first | with_reducible exact HK.out _ bD | with_reducible exact HK.out _ (bA _) | with_reducible exact HK.out _ b19 | with_reducible exact HK.out _ b18 | with_reducible exact HK.out _ (b18.alloc b18.size _))
            (first
              | (go_at_call 10; (with_reducible refine (HSB.out _ _ (HD17.out _ (b18.alloc b18.size _)) (HBR.out w18)).mono ?_); rintro e w19 ⟨rfl, hb19⟩; have b19 := (b18.alloc b18.size _).trans (hb19.mono (b18.alloc b18.size _).size); clear hb19)
              | (go_at_call 12; (refine (ref_Atom1 _ _).mono ?_); rintro e w18 ⟨rfl, hb18⟩; have b18 := bD.trans (hb18.mono bD.size); have hs18 := b18.size; clear hb18))
          all_goals
            have HE := Lib.hid (HB17.out.trans (b19.mono HB17.out.size))
            clear HSB HBR HK bA bAA bD b18 b19 HB17 HD17
            go_wp2_with fail
            go_ret
            exact ⟨rfl, HE.out⟩
end Go.Proofs.Ytlpmofmhcnclhaa
