/-
  The contract of the laws' helper live for subst: the chapter's examples.
-/
import Derived.Test.YtjgjeafjnaodkaaDoorSubKE
import Derived.Test.YtjgjeafjnaodkaaDoorSubE
import Derived.Test.YtjgjeafjnaodkaaDoorTermMake
import Derived.Deep.RegionHeld3
namespace Go.Proofs.YtjgjeafjnaodkaaDoor
open Go.RowKit

def lvX : Tm := .mk 1 ⟨#[]⟩ 0 []
def lvY : Tm := .mk 1 ⟨#[]⟩ 1 []
def lvA : Tm := .mk 2 ⟨#[97]⟩ 0 []
def lvF (t : Tm) : Tm := .mk 4 ⟨#[102]⟩ 0 [t]
def lvG (t u : Tm) : Tm := .mk 4 ⟨#[103]⟩ 0 [t, u]
theorem lv_res : (resD [(0, lvF lvY), (1, lvA)] 60 0 (lvG lvX lvY)).1 = lvG (lvF lvA) lvA ∧ (resD [(0, lvF lvY), (1, lvA)] 60 0 (lvG lvX lvY)).2.1 = 0 := ⟨by kernel_rfl, by kernel_rfl⟩
theorem lv_deep : (resD [(0, lvF lvX)] 60 0 lvX).1 = zeroT ∧ (resD [(0, lvF lvX)] 60 0 lvX).2.1 = 3 := ⟨by kernel_rfl, by kernel_rfl⟩
theorem lv_walk : (walkL [(0, lvY), (1, lvX)] 0 lvX).1 = zeroT ∧ (walkL [(0, lvY), (1, lvX)] 0 lvX).2.1 = 140 := ⟨by kernel_rfl, by kernel_rfl⟩
theorem lv_fresh : lvX.shift 1 = lvY := by kernel_rfl
theorem leafL (w : World) {k n : Int} {s : ByteArray} (hk : In64 k) (hn : In64 n) (hs : s.size ≤ maxLen) : TmIn w (.mk k s n []) none 0 := ⟨hk, hn, hs, Nat.le_refl _, Nat.zero_le _, .nil _⟩
theorem lvX_in (w : World) : TmIn w lvX none 0 := leafL w ⟨by decide, by decide⟩ ⟨by decide, by decide⟩ (by unfold maxLen; decide)
theorem lvY_in (w : World) : TmIn w lvY none 0 := leafL w ⟨by decide, by decide⟩ ⟨by decide, by decide⟩ (by unfold maxLen; decide)
theorem lvA_in (w : World) : TmIn w lvA none 0 := leafL w ⟨by decide, by decide⟩ ⟨by decide, by decide⟩ (by unfold maxLen; decide)
theorem lvF_in {w : World} {t : Tm} {ad : Option Addr} (h : TArgs w ad [t]) : TmIn w (lvF t) ad 1 := ⟨in64_small (x := 4) (by decide) (by decide), in64_small (x := 0) (by decide) (by decide), by show (⟨#[102]⟩ : ByteArray).size ≤ maxLen; unfold maxLen; decide, Nat.le_refl _, by unfold maxLen; decide, h⟩
theorem lvG_in {w : World} {t u : Tm} {ad : Option Addr} (h : TArgs w ad [t, u]) : TmIn w (lvG t u) ad 2 := ⟨in64_small (x := 4) (by decide) (by decide), in64_small (x := 0) (by decide) (by decide), by show (⟨#[103]⟩ : ByteArray).size ≤ maxLen; unfold maxLen; decide, Nat.le_refl _, by unfold maxLen; decide, h⟩
theorem rowL1 {w : World} {A : Tm} {ad : Option Addr} {ca : Nat} (hA : TmIn w A ad ca) (C : Array Value) (hC : C = (tcells A ad ca).toArray) : TArgs (w.alloc (.cells C 25)) (some ⟨w.heap.size, 0, none⟩) [A] := by
  subst hC
  have h1 := hA.args.on ((Below.refl _ w).alloc (Nat.le_refl _) (.cells (tcells A ad ca).toArray 25))
  rw [A.eta]
  exact .cons _ _ _ _ _ _ _ ad ca (World.cell?_alloc_at _ _ _ _ rfl) (World.cell?_alloc_at _ _ _ _ rfl) (World.cell?_alloc_at _ _ _ _ rfl) (World.cell?_alloc_at _ _ _ _ rfl) hA.kind hA.n hA.name hA.len hA.cap h1 (.nil _)
theorem rowL2 {w : World} {A B : Tm} {ad bd : Option Addr} {ca cb : Nat} (hA : TmIn w A ad ca) (hB : TmIn w B bd cb) (C : Array Value) (hC : C = (tcells A ad ca ++ tcells B bd cb).toArray) : TArgs (w.alloc (.cells C 25)) (some ⟨w.heap.size, 0, none⟩) [A, B] := by
  subst hC
  have h1 := hA.args.on ((Below.refl _ w).alloc (Nat.le_refl _) (.cells (tcells A ad ca ++ tcells B bd cb).toArray 25))
  have h2 := hB.args.on ((Below.refl _ w).alloc (Nat.le_refl _) (.cells (tcells A ad ca ++ tcells B bd cb).toArray 25))
  rw [A.eta, B.eta]
  exact .cons _ _ _ _ _ _ _ ad ca (World.cell?_alloc_at _ _ _ _ rfl) (World.cell?_alloc_at _ _ _ _ rfl) (World.cell?_alloc_at _ _ _ _ rfl) (World.cell?_alloc_at _ _ _ _ rfl) hA.kind hA.n hA.name hA.len hA.cap h1
    (.cons _ _ _ _ _ _ _ bd cb (World.cell?_alloc_at _ _ _ _ rfl) (World.cell?_alloc_at _ _ _ _ rfl) (World.cell?_alloc_at _ _ _ _ rfl) (World.cell?_alloc_at _ _ _ _ rfl) hB.kind hB.n hB.name hB.len hB.cap h2 (.nil _))
def bcellsL (b : Int × Tm) (ad : Option Addr) (cap : Nat) : List Value := [.int .i64 b.1, .int .i64 b.2.kind, .string b.2.name, .int .i64 b.2.n, .slice ad b.2.args.length cap]
theorem bdsL1 {w : World} {i : Int} {A : Tm} {ad : Option Addr} {ca : Nat} (hi : In64 i) (hA : TmIn w A ad ca) (C : Array Value) (hC : C = (bcellsL (i, A) ad ca).toArray) : BdsAt (w.alloc (.cells C 32)) (fun b => b < (w.alloc (.cells C 32)).heap.size) (some ⟨w.heap.size, 0, none⟩) [(i, A)] := by
  subst hC
  intro k hk
  match k, hk with
  | 0, _ => exact ⟨w.heap.size, 0, ad, ca, rfl, by simp, hi, (hA.on ((Below.refl _ w).alloc (Nat.le_refl _) _)).inP, World.cell?_alloc_at _ _ _ _ rfl, World.cell?_alloc_at _ _ _ _ rfl, World.cell?_alloc_at _ _ _ _ rfl, World.cell?_alloc_at _ _ _ _ rfl, World.cell?_alloc_at _ _ _ _ rfl⟩
theorem bdsL2 {w : World} {i j : Int} {A B : Tm} {ad bd : Option Addr} {ca cb : Nat} (hi : In64 i) (hj : In64 j) (hA : TmIn w A ad ca) (hB : TmIn w B bd cb) (C : Array Value) (hC : C = (bcellsL (i, A) ad ca ++ bcellsL (j, B) bd cb).toArray) : BdsAt (w.alloc (.cells C 32)) (fun b => b < (w.alloc (.cells C 32)).heap.size) (some ⟨w.heap.size, 0, none⟩) [(i, A), (j, B)] := by
  subst hC
  intro k hk
  match k, hk with
  | 0, _ => exact ⟨w.heap.size, 0, ad, ca, rfl, by simp, hi, (hA.on ((Below.refl _ w).alloc (Nat.le_refl _) _)).inP, World.cell?_alloc_at _ _ _ _ rfl, World.cell?_alloc_at _ _ _ _ rfl, World.cell?_alloc_at _ _ _ _ rfl, World.cell?_alloc_at _ _ _ _ rfl, World.cell?_alloc_at _ _ _ _ rfl⟩
  | 1, _ => exact ⟨w.heap.size, 0, bd, cb, rfl, by simp, hj, (hB.on ((Below.refl _ w).alloc (Nat.le_refl _) _)).inP, World.cell?_alloc_at _ _ _ _ rfl, World.cell?_alloc_at _ _ _ _ rfl, World.cell?_alloc_at _ _ _ _ rfl, World.cell?_alloc_at _ _ _ _ rfl, World.cell?_alloc_at _ _ _ _ rfl⟩

/-- Same of equal terms. -/
theorem same_yesL (T : Tm) (u1 u2 : Option Addr) (c1 c2 : Nat) (W : World) (h : T.size ≤ 1000000) (h1 : TmIn W T u1 c1) (h2 : TmIn W T u2 c2) : Calls Tryd.prog 11 #[tmv T u1 c1, tmv T u2 c2] W fun e w' => e = .returned (.bool true) ∧ Below W.heap.size W w' := by
  have := ref_Same T.size T T u1 u2 c1 c2 W (Nat.le_refl _) h h1 h2
  rwa [Tm.same_true rfl] at this
theorem sb_live_same1 (ra : Option Addr) (rc q : Nat) (W : World) (h1 : TmIn W (lvG (lvF lvA) lvA) ra rc) (h2 : TArgs W (some ⟨q, 0, none⟩) [lvF lvA, lvA]) :
    Calls Tryd.prog 11 #[.agg #[.int .i64 4, .string ⟨#[103]⟩, .int .i64 0, .slice ra 2 rc], .agg #[.int .i64 4, .string ⟨#[103]⟩, .int .i64 0, .slice (some ⟨q, 0, none⟩) 2 2]] W fun e w' => e = .returned (.bool true) ∧ Below W.heap.size W w' :=
  same_yesL (lvG (lvF lvA) lvA) ra (some ⟨q, 0, none⟩) rc 2 W (by decide +kernel) h1 (lvG_in h2)
theorem sb_live_same2 (pa : Option Addr) (pc : Nat) (W : World) (h1 : TmIn W lvY pa pc) :
    Calls Tryd.prog 11 #[.agg #[.int .i64 1, .string ⟨#[]⟩, .int .i64 1, .slice pa 0 pc], .agg #[.int .i64 1, .string ⟨#[]⟩, .int .i64 1, .slice none 0 0]] W fun e w' => e = .returned (.bool true) ∧ Below W.heap.size W w' :=
  same_yesL lvY pa none pc 0 W (by decide +kernel) h1 (lvY_in W)
theorem sb_live_fresh (W : World) : Calls Tryd.prog 16 #[.agg #[.int .i64 1, .string ⟨#[]⟩, .int .i64 0, .slice none 0 0], .int .i64 1] W fun e w' => ∃ pa pc, e = .returned (.agg #[.int .i64 1, .string ⟨#[]⟩, .int .i64 1, .slice pa 0 pc]) ∧ TmIn w' lvY pa pc ∧ Below W.heap.size W w' := by
  have h := sb_Fresh 1 lvX none 0 W ⟨by decide, by decide⟩ (by decide +kernel) (lvX_in W)
  rw [lv_fresh] at h
  refine Calls.mono h ?_
  rintro e w' ⟨pa, pc, rfl, hp, hb⟩
  exact ⟨pa, pc, rfl, hp.toIn, hb⟩
theorem fold_world9w {S : World → Prop} {P : Program} {C : Code} {Q : Exit → Act → World → Prop} {a : Act} {w : World} (h : S w) (k : ∀ w', S w' → C.wp P Q a w') : C.wp P Q a w := k w h
theorem fold_world9 {S : World → Prop} {Q : Exit → Act → World → Prop} {e : Exit} {a : Act} {w : World} (h : S w) (k : ∀ w', S w' → Q e a w') : Q e a w := k w h
/-- The binding of 0 to f(0): too deep. -/
theorem sb_live_deep (q : Nat) (W W1 : World) (h : TArgs W (some ⟨q, 0, none⟩) [lvX]) (h1 : Below (W.alloc (.cells #[.int .i64 0, .int .i64 4, .string ⟨#[102]⟩, .int .i64 0, .slice (some ⟨q, 0, none⟩) 1 1] 32)).heap.size (W.alloc (.cells #[.int .i64 0, .int .i64 4, .string ⟨#[102]⟩, .int .i64 0, .slice (some ⟨q, 0, none⟩) 1 1] 32)) W1) :
    Calls Tryd.prog 10 #[.slice (some ⟨W.heap.size, 0, none⟩) 1 1, .agg #[.int .i64 1, .string ⟨#[]⟩, .int .i64 0, .slice none 0 0]] W1 fun e w' => ∃ ra rc, e = .returned (.tuple #[.agg #[.int .i64 0, .string ⟨#[]⟩, .int .i64 0, .slice ra 0 rc], .int .i64 3]) ∧ Below W1.heap.size W1 w' := by
  have hbd := bdsL1 (w := W) (i := 0) ⟨by decide, by decide⟩ (lvF_in h) #[.int .i64 0, .int .i64 4, .string ⟨#[102]⟩, .int .i64 0, .slice (some ⟨q, 0, none⟩) 1 1] rfl
  have hbd1 : BdsAt W1 (fun b => b < W1.heap.size) (some ⟨W.heap.size, 0, none⟩) [(0, lvF lvX)] := hbd.kept (fun b _ hl => h1.block b hl) fun b hb _ => Nat.lt_of_lt_of_le hb h1.size
  have HR := sb_Resolve [(0, lvF lvX)] (some ⟨W.heap.size, 0, none⟩) 1 lvX none 0 W1 (by decide) (by decide) (by unfold maxLen; decide) (by decide +kernel) hbd1 (by decide +kernel) (lvX_in W1)
  rw [lv_deep.1, lv_deep.2] at HR
  refine HR.mono ?_
  rintro e w' ⟨ra, rc, rfl, _, hb'⟩
  exact ⟨ra, rc, rfl, hb'⟩

/-- The bindings of two Vars to each other: too many steps. -/
theorem sb_live_walk (W W1 : World) (h1 : Below (W.alloc (.cells #[.int .i64 0, .int .i64 1, .string ⟨#[]⟩, .int .i64 1, .slice none 0 0, .int .i64 1, .int .i64 1, .string ⟨#[]⟩, .int .i64 0, .slice none 0 0] 32)).heap.size (W.alloc (.cells #[.int .i64 0, .int .i64 1, .string ⟨#[]⟩, .int .i64 1, .slice none 0 0, .int .i64 1, .int .i64 1, .string ⟨#[]⟩, .int .i64 0, .slice none 0 0] 32)) W1) :
    Calls Tryd.prog 15 #[.slice (some ⟨W.heap.size, 0, none⟩) 2 2, .agg #[.int .i64 1, .string ⟨#[]⟩, .int .i64 0, .slice none 0 0]] W1 fun e w' => ∃ ra rc, e = .returned (.tuple #[.agg #[.int .i64 0, .string ⟨#[]⟩, .int .i64 0, .slice ra 0 rc], .int .i64 140]) ∧ Below W1.heap.size W1 w' := by
  have hbd := bdsL2 (w := W) (i := 0) (j := 1) ⟨by decide, by decide⟩ ⟨by decide, by decide⟩ (lvY_in W) (lvX_in W) #[.int .i64 0, .int .i64 1, .string ⟨#[]⟩, .int .i64 1, .slice none 0 0, .int .i64 1, .int .i64 1, .string ⟨#[]⟩, .int .i64 0, .slice none 0 0] rfl
  have hbd1 : BdsAt W1 (fun b => b < W1.heap.size) (some ⟨W.heap.size, 0, none⟩) [(0, lvY), (1, lvX)] := hbd.kept (fun b _ hl => h1.block b hl) fun b hb _ => Nat.lt_of_lt_of_le hb h1.size
  have HR := sb_Walk [(0, lvY), (1, lvX)] (some ⟨W.heap.size, 0, none⟩) 2 lvX none 0 W1 (by decide) (by decide) (by unfold maxLen; decide) (by decide +kernel) hbd1 (by decide +kernel) (lvX_in W1)
  rw [lv_walk.1, lv_walk.2] at HR
  refine HR.mono ?_
  rintro e w' ⟨ra, rc, rfl, _, hb'⟩
  exact ⟨ra, rc, rfl, hb'⟩

set_option linter.unusedSimpArgs false in
set_option maxRecDepth 100000 in
set_option maxHeartbeats 8000000 in
theorem sub_liveL (w : World) :
    Calls Tryd.prog 4 #[] w fun e w' => e = .returned (.bool true) ∧ Below w.heap.size w w' := by
  go_enter Tryd.func4, Tryd.ntmps4
  go_wp2_with fail
  refine (ref_Var1 _ _).mono ?_; rintro e w1 ⟨rfl, hb1⟩
  go_upto_region 2 with fail
  generalize hw : w1.alloc (.cells #[.int .i64 1, .string ⟨#[]⟩, .int .i64 0, .slice none 0 0] 25) = w2
  have HX : Hid (w2.heap[w1.heap.size]? = some (.cells #[.int .i64 1, .string ⟨#[]⟩, .int .i64 0, .slice none 0 0] 25 (0, 0))) := Lib.hid (by rw [← hw]; exact alloc_new w1 _)
  have hb2 : Below w1.heap.size w1 w2 := by rw [← hw]; exact (Below.refl _ _).alloc (Nat.le_refl _) _
  have HB2 := Lib.hid (hb1.trans (hb2.mono hb1.size))
  clear hw hb1 hb2
  go_wp2_with fail
  refine (ref_Var1 _ _).mono ?_; rintro e w3 ⟨rfl, hb3⟩
  go_upto_region 3 with fail
  generalize hw : w3.alloc (.cells #[.int .i64 1, .string ⟨#[]⟩, .int .i64 1, .slice none 0 0] 25) = w4
  have HY : Hid (w4.heap[w3.heap.size]? = some (.cells #[.int .i64 1, .string ⟨#[]⟩, .int .i64 1, .slice none 0 0] 25 (0, 0))) := Lib.hid (by rw [← hw]; exact alloc_new w3 _)
  have hb4 : Below w3.heap.size w3 w4 := by rw [← hw]; exact (Below.refl _ _).alloc (Nat.le_refl _) _
  have hb24 := hb3.trans (hb4.mono hb3.size)
  have HX4 := Lib.hid (keptR9 hb24 HX.out)
  have HB4 := Lib.hid (HB2.out.trans (hb24.mono HB2.out.size))
  clear hw hb3 hb4 hb24 HX HB2
  go_wp2_with fail
  refine (ref_Atom1 _ _).mono ?_; rintro e w5 ⟨rfl, hb5⟩
  go_upto_region 4 with fail
  generalize hw : w5.alloc (.cells #[.int .i64 2, .string ⟨#[97]⟩, .int .i64 0, .slice none 0 0] 25) = w6
  have HA : Hid (w6.heap[w5.heap.size]? = some (.cells #[.int .i64 2, .string ⟨#[97]⟩, .int .i64 0, .slice none 0 0] 25 (0, 0))) := Lib.hid (by rw [← hw]; exact alloc_new w5 _)
  have hb6 : Below w5.heap.size w5 w6 := by rw [← hw]; exact (Below.refl _ _).alloc (Nat.le_refl _) _
  have hb46 := hb5.trans (hb6.mono hb5.size)
  have HX6 := Lib.hid (keptR9 hb46 HX4.out)
  have HY6 := Lib.hid (keptR9 hb46 HY.out)
  have HB6 := Lib.hid (HB4.out.trans (hb46.mono HB4.out.size))
  clear hw hb5 hb6 hb46 HX4 HY HB4
  have HK : Hid (∀ W, Below w6.heap.size w6 W → W.cell? ⟨w3.heap.size, 0, none⟩ = some (.int .i64 1) ∧ W.cell? ⟨w3.heap.size, 1, none⟩ = some (.string ⟨#[]⟩) ∧ W.cell? ⟨w3.heap.size, 2, none⟩ = some (.int .i64 1) ∧ W.cell? ⟨w3.heap.size, 3, none⟩ = some (.slice none 0 0) ∧ W.cell? ⟨w5.heap.size, 0, none⟩ = some (.int .i64 2) ∧ W.cell? ⟨w5.heap.size, 1, none⟩ = some (.string ⟨#[97]⟩) ∧ W.cell? ⟨w5.heap.size, 2, none⟩ = some (.int .i64 0) ∧ W.cell? ⟨w5.heap.size, 3, none⟩ = some (.slice none 0 0)) := Lib.hid (fun W h => by
    obtain ⟨y0, y1, y2, y3, _⟩ := cellsT (keptR9 h HY6.out)
    obtain ⟨a0, a1, a2, a3, _⟩ := cellsT (keptR9 h HA.out)
    exact ⟨y0, y1, y2, y3, a0, a1, a2, a3⟩)
  have bD : Below w6.heap.size w6 w6.drew := (Below.refl _ w6).drew
  have bA : ∀ o : Obj, Below w6.heap.size w6 (w6.alloc o).drew := fun o => ((Below.refl _ w6).alloc (Nat.le_refl _) o).drew
  go_region_held3 (fun W => W.cell? ⟨w3.heap.size, 0, none⟩ = some (.int .i64 1) ∧ W.cell? ⟨w3.heap.size, 1, none⟩ = some (.string ⟨#[]⟩) ∧ W.cell? ⟨w3.heap.size, 2, none⟩ = some (.int .i64 1) ∧ W.cell? ⟨w3.heap.size, 3, none⟩ = some (.slice none 0 0) ∧ W.cell? ⟨w5.heap.size, 0, none⟩ = some (.int .i64 2) ∧ W.cell? ⟨w5.heap.size, 1, none⟩ = some (.string ⟨#[97]⟩) ∧ W.cell? ⟨w5.heap.size, 2, none⟩ = some (.int .i64 0) ∧ W.cell? ⟨w5.heap.size, 3, none⟩ = some (.slice none 0 0))
    (first | with_reducible exact HK.out _ bD | with_reducible exact HK.out _ (bA _) | with_reducible exact HK.out _ b7 | with_reducible exact HK.out _ (b7.alloc b7.size _))
    (first
      | (go_at_call 14; (refine (ref_Comp1 _ _ _ _ _).mono ?_); rintro e w7 ⟨rfl, hb7⟩; have b7 := (bA _).trans (hb7.mono (bA _).size); have HRY := Lib.hid (((rowL1 (lvY_in w6) #[.int .i64 1, .string ⟨#[]⟩, .int .i64 1, .slice none 0 0] rfl).on ((Below.refl _ _).drew)).on hb7)))
  have HB7 := Lib.hid (HB6.out.trans (b7.mono HB6.out.size))
  have HX7 := Lib.hid (keptR9 b7 HX6.out)
  have HY7 := Lib.hid (keptR9 b7 HY6.out)
  have HA7 := Lib.hid (keptR9 b7 HA.out)
  have HBD8' := Lib.hid (bdsL2 (w := w7) (i := 0) (j := 1) ⟨by decide, by decide⟩ ⟨by decide, by decide⟩ (lvF_in HRY.out) (lvA_in w7) #[.int .i64 0, .int .i64 4, .string ⟨#[102]⟩, .int .i64 0, .slice (some ⟨w6.heap.size, 0, none⟩) 1 1, .int .i64 1, .int .i64 2, .string ⟨#[97]⟩, .int .i64 0, .slice none 0 0] rfl)
  have hb8 : Below w7.heap.size w7 (w7.alloc (.cells #[.int .i64 0, .int .i64 4, .string ⟨#[102]⟩, .int .i64 0, .slice (some ⟨w6.heap.size, 0, none⟩) 1 1, .int .i64 1, .int .i64 2, .string ⟨#[97]⟩, .int .i64 0, .slice none 0 0] 32)) := (Below.refl _ _).alloc (Nat.le_refl _) _
  clear bD bA b7 HK HX6 HY6 HA HB6 HRY
  generalize w7.alloc (.cells #[.int .i64 0, .int .i64 4, .string ⟨#[102]⟩, .int .i64 0, .slice (some ⟨w6.heap.size, 0, none⟩) 1 1, .int .i64 1, .int .i64 2, .string ⟨#[97]⟩, .int .i64 0, .slice none 0 0] 32) = w8 at *
  have HB8 := Lib.hid (HB7.out.trans (hb8.mono HB7.out.size))
  have HX8 := Lib.hid (keptR9 hb8 HX7.out)
  have HY8 := Lib.hid (keptR9 hb8 HY7.out)
  have HA8 := Lib.hid (keptR9 hb8 HA7.out)
  clear hb8 HB7 HX7 HY7 HA7
  obtain ⟨x0, x1, x2, x3, _⟩ := cellsT HX8.out
  obtain ⟨y0, y1, y2, y3, _⟩ := cellsT HY8.out
  go_wp2_with fail
  have hr9 := rowL2 (w := w8) (lvX_in w8) (lvY_in w8) #[.int .i64 1, .string ⟨#[]⟩, .int .i64 0, .slice none 0 0, .int .i64 1, .string ⟨#[]⟩, .int .i64 1, .slice none 0 0] rfl
  have hb9 : Below w8.heap.size w8 (w8.alloc (.cells #[.int .i64 1, .string ⟨#[]⟩, .int .i64 0, .slice none 0 0, .int .i64 1, .string ⟨#[]⟩, .int .i64 1, .slice none 0 0] 25)) := (Below.refl _ _).alloc (Nat.le_refl _) _
  refine (ref_Comp1 _ _ _ _ _).mono ?_; rintro e w9 ⟨rfl, hb9'⟩
  have hb89 := hb9.trans (hb9'.mono hb9.size)
  have HBD9 : Hid (BdsAt w9 (fun b => b < w9.heap.size) (some ⟨w7.heap.size, 0, none⟩) [(0, lvF lvY), (1, lvA)]) := Lib.hid (HBD8'.out.kept (fun b _ hl => hb89.block b hl) fun b hb _ => Nat.lt_of_lt_of_le hb hb89.size)
  have HRS := sb_Resolve [(0, lvF lvY), (1, lvA)] (some ⟨w7.heap.size, 0, none⟩) 2 (lvG lvX lvY) (some ⟨w8.heap.size, 0, none⟩) 2 w9 (by decide) (by decide) (by unfold maxLen; decide) (by decide +kernel) HBD9.out (by decide +kernel) (lvG_in (hr9.on hb9'))
  rw [lv_res.1, lv_res.2] at HRS
  have HRS := Lib.hid HRS
  have HB9 := Lib.hid (HB8.out.trans (hb89.mono HB8.out.size))
  have HX9 := Lib.hid (keptR9 hb89 HX8.out)
  have HY9 := Lib.hid (keptR9 hb89 HY8.out)
  have HA9 := Lib.hid (keptR9 hb89 HA8.out)
  clear hr9 hb9 hb9' hb89 x0 x1 x2 x3 y0 y1 y2 y3 HBD8' HB8 HX8 HY8 HA8
  go_wp2_with fail
  refine HRS.out.mono ?_; rintro e w10 ⟨ra, rc, rfl, hr10, hb10⟩
  rw [show tmv (lvG (lvF lvA) lvA) ra rc = .agg #[.int .i64 4, .string ⟨#[103]⟩, .int .i64 0, .slice ra 2 rc] from rfl]
  have HR10 := Lib.hid hr10
  have HB10 := Lib.hid (HB9.out.trans (hb10.mono HB9.out.size))
  have HX10 := Lib.hid (keptR9 hb10 HX9.out)
  have HY10 := Lib.hid (keptR9 hb10 HY9.out)
  have HA10 := Lib.hid (keptR9 hb10 HA9.out)
  clear hr10 hb10 HRS HB9 HX9 HY9 HA9 HBD9
  go_upto_region 6 with fail
  generalize hw : w10.alloc (.cells #[.int .i64 4, .string ⟨#[103]⟩, .int .i64 0, .slice ra 2 rc] 25) = w11
  have HT11 : Hid (w11.heap[w10.heap.size]? = some (.cells #[.int .i64 4, .string ⟨#[103]⟩, .int .i64 0, .slice ra 2 rc] 25 (0, 0))) := Lib.hid (by rw [← hw]; exact alloc_new w10 _)
  have hb11 : Below w10.heap.size w10 w11 := by rw [← hw]; exact (Below.refl _ _).alloc (Nat.le_refl _) _
  have HR11 := Lib.hid (HR10.out.on hb11)
  have HB11 := Lib.hid (HB10.out.trans (hb11.mono HB10.out.size))
  have HX11 := Lib.hid (keptR9 hb11 HX10.out)
  have HY11 := Lib.hid (keptR9 hb11 HY10.out)
  have HA11 := Lib.hid (keptR9 hb11 HA10.out)
  clear hw hb11 HR10 HB10 HX10 HY10 HA10
  have HK : Hid (∀ W, Below w11.heap.size w11 W → Below w11.heap.size w11 W ∧ W.cell? ⟨w1.heap.size, 0, none⟩ = some (.int .i64 1) ∧ W.cell? ⟨w1.heap.size, 1, none⟩ = some (.string ⟨#[]⟩) ∧ W.cell? ⟨w1.heap.size, 2, none⟩ = some (.int .i64 0) ∧ W.cell? ⟨w1.heap.size, 3, none⟩ = some (.slice none 0 0)) := Lib.hid (fun W h => by
    obtain ⟨y0, y1, y2, y3, _⟩ := cellsT (keptR9 h HX11.out)
    exact ⟨h, y0, y1, y2, y3⟩)
  have bD : Below w11.heap.size w11 w11.drew := (Below.refl _ w11).drew
  have bA : ∀ o : Obj, Below w11.heap.size w11 (w11.alloc o).drew := fun o => ((Below.refl _ w11).alloc (Nat.le_refl _) o).drew
  have bAA : ∀ o o' : Obj, Below w11.heap.size w11 ((w11.alloc o).alloc o').drew := fun o o' => (((Below.refl _ w11).alloc (Nat.le_refl _) o).alloc (by rw [World.size_alloc]; omega) o').drew
  have HRV := Lib.hid (fun q W W1 (h : TArgs W (some ⟨q, 0, none⟩) [lvX]) h1 => sb_live_deep q W W1 h h1)
  have HRZ := Lib.hid (fun q W W1 (h : TArgs W (some ⟨q, 0, none⟩) [lvX]) => sb_live_deep q (W.alloc (.cells #[.int .i64 0, .string ⟨#[]⟩, .int .i64 0, .slice none 0 0] 25)) W1 (h.on ((Below.refl _ W).alloc (Nat.le_refl _) _)))
  simp only [World.size_alloc] at HRZ
  have HR0 := Lib.hid ((rowL1 (lvX_in w11) #[.int .i64 1, .string ⟨#[]⟩, .int .i64 0, .slice none 0 0] rfl).on ((Below.refl _ _).drew))
  have HR1 : Hid (TArgs ((w11.alloc (.cells #[.int .i64 1, .string ⟨#[]⟩, .int .i64 0, .slice none 0 0] 25)).alloc (.cells #[.int .i64 0, .string ⟨#[]⟩, .int .i64 0, .slice none 0 0] 25)).drew (some ⟨w11.heap.size, 0, none⟩) [lvX]) := Lib.hid (((rowL1 (lvX_in w11) #[.int .i64 1, .string ⟨#[]⟩, .int .i64 0, .slice none 0 0] rfl).on ((Below.refl _ _).alloc (Nat.le_refl _) _)).on ((Below.refl _ _).drew))
  have HR2 : Hid (TArgs ((w11.alloc (.cells #[.int .i64 0, .string ⟨#[]⟩, .int .i64 0, .slice none 0 0] 25)).alloc (.cells #[.int .i64 1, .string ⟨#[]⟩, .int .i64 0, .slice none 0 0] 25)).drew (some ⟨w11.heap.size + 1, 0, none⟩) [lvX]) := Lib.hid (by
    have h := (rowL1 (w := w11.alloc (.cells #[.int .i64 0, .string ⟨#[]⟩, .int .i64 0, .slice none 0 0] 25)) (lvX_in _) #[.int .i64 1, .string ⟨#[]⟩, .int .i64 0, .slice none 0 0] rfl).on ((Below.refl _ _).drew)
    rw [World.size_alloc] at h
    exact h)
  have HZ1 : Hid (((w11.alloc (.cells #[.int .i64 1, .string ⟨#[]⟩, .int .i64 0, .slice none 0 0] 25)).alloc (.cells #[.int .i64 0, .string ⟨#[]⟩, .int .i64 0, .slice none 0 0] 25)).drew.heap[w11.heap.size + 1]? = some (.cells #[.int .i64 0, .string ⟨#[]⟩, .int .i64 0, .slice none 0 0] 25 (0, 0))) := Lib.hid (by
    have h := alloc_new (w11.alloc (.cells #[.int .i64 1, .string ⟨#[]⟩, .int .i64 0, .slice none 0 0] 25)) (.cells #[.int .i64 0, .string ⟨#[]⟩, .int .i64 0, .slice none 0 0] 25)
    rw [World.size_alloc] at h
    exact h)
  have HZ2 : Hid (((w11.alloc (.cells #[.int .i64 0, .string ⟨#[]⟩, .int .i64 0, .slice none 0 0] 25)).alloc (.cells #[.int .i64 1, .string ⟨#[]⟩, .int .i64 0, .slice none 0 0] 25)).drew.heap[w11.heap.size]? = some (.cells #[.int .i64 0, .string ⟨#[]⟩, .int .i64 0, .slice none 0 0] 25 (0, 0))) := Lib.hid (((Below.refl _ (w11.alloc (.cells #[.int .i64 0, .string ⟨#[]⟩, .int .i64 0, .slice none 0 0] 25))).alloc (Nat.le_refl _) (.cells #[.int .i64 1, .string ⟨#[]⟩, .int .i64 0, .slice none 0 0] 25)).block _ (by rw [World.size_alloc]; omega) |>.trans (alloc_new w11 (.cells #[.int .i64 0, .string ⟨#[]⟩, .int .i64 0, .slice none 0 0] 25)))
  go_region_held3 (fun W => Below w11.heap.size w11 W ∧ W.cell? ⟨w1.heap.size, 0, none⟩ = some (.int .i64 1) ∧ W.cell? ⟨w1.heap.size, 1, none⟩ = some (.string ⟨#[]⟩) ∧ W.cell? ⟨w1.heap.size, 2, none⟩ = some (.int .i64 0) ∧ W.cell? ⟨w1.heap.size, 3, none⟩ = some (.slice none 0 0))
    (first | with_reducible exact HK.out _ bD | with_reducible exact HK.out _ (bA _) | with_reducible exact HK.out _ (bAA _ _) | with_reducible exact HK.out _ (set4_low b13) | with_reducible exact HK.out _ b13 | with_reducible exact HK.out _ (b13.alloc b13.size _) | with_reducible exact HK.out _ b12 | with_reducible exact HK.out _ ((b12.alloc b12.size _).alloc (b12.alloc b12.size _).size _) | with_reducible exact HK.out _ (b12.alloc b12.size _))
    (first
      | (go_at_call 14; (refine (ref_Comp1 _ _ _ _ _).mono ?_); rintro e w12 ⟨rfl, hb12⟩; have HR12 := Lib.hid (HR0.out.on hb12); have b12 := (bA _).trans (hb12.mono (bA _).size); have hs12 := b12.size)
      | (go_at_call 14; (refine (ref_Comp1 _ _ _ _ _).mono ?_); rintro e w12 ⟨rfl, hb12⟩; have HR12 := Lib.hid (HR1.out.on hb12); have HQ12 := Lib.hid (keptR9 hb12 HZ1.out); have b12 := (bAA _ _).trans (hb12.mono (bAA _ _).size); have hs12 := b12.size)
      | (go_at_call 14; (refine (ref_Comp1 _ _ _ _ _).mono ?_); rintro e w12 ⟨rfl, hb12⟩; have HR12 := Lib.hid (HR2.out.on hb12); have HQ12 := Lib.hid (keptR9 hb12 HZ2.out); have b12 := (bAA _ _).trans (hb12.mono (bAA _ _).size); have hs12 := b12.size)
      | (go_at_call 10; (with_reducible refine (HRV.out _ w12 _ HR12.out (Below.refl _ _)).mono ?_); rintro e w13 ⟨sa, sc, rfl, hb13⟩; have hq13 := keptR9 hb13 (keptR9 ((Below.refl _ _).alloc (Nat.le_refl _) _) HQ12.out); have b13 := (b12.alloc b12.size _).trans (hb13.mono (b12.alloc b12.size _).size); obtain ⟨g0, g1, g2, g3, k0, k1, k2, k3⟩ := cellsT hq13)
      | (go_at_call 10; (with_reducible refine (HRV.out _ w12 _ HR12.out (Below.refl _ _)).mono ?_); rintro e w13 ⟨sa, sc, rfl, hb13⟩; have b13 := (b12.alloc b12.size _).trans (hb13.mono (b12.alloc b12.size _).size))
      | (go_at_call 10; (with_reducible refine (HRV.out _ w12 _ HR12.out ((Below.refl _ _).alloc (Nat.le_refl _) _)).mono ?_); rintro e w13 ⟨sa, sc, rfl, hb13⟩; have hq13 := keptR9 hb13 (alloc_new _ _); have b13 := ((b12.alloc b12.size _).alloc (b12.alloc b12.size _).size _).trans (hb13.mono ((b12.alloc b12.size _).alloc (b12.alloc b12.size _).size _).size); rw [World.size_alloc] at hq13; obtain ⟨g0, g1, g2, g3, k0, k1, k2, k3⟩ := cellsT hq13)
      | (go_at_call 10; (refine (HRZ.out _ w12 _ HR12.out (Below.refl _ _)).mono ?_); rintro e w13 ⟨sa, sc, rfl, hb13⟩; have hq13 := keptR9 hb13 (keptR9 ((Below.refl _ _).alloc (Nat.le_refl _) _) (alloc_new w12 (.cells #[.int .i64 0, .string ⟨#[]⟩, .int .i64 0, .slice none 0 0] 25))); have b13 := ((b12.alloc b12.size _).alloc (b12.alloc b12.size _).size _).trans (hb13.mono ((b12.alloc b12.size _).alloc (b12.alloc b12.size _).size _).size); obtain ⟨g0, g1, g2, g3, k0, k1, k2, k3⟩ := cellsT hq13))
  all_goals
    refine fold_world9 (S := fun W => Below w11.heap.size w11 W ∧ W.cell? ⟨w1.heap.size, 0, none⟩ = some (.int .i64 1) ∧ W.cell? ⟨w1.heap.size, 1, none⟩ = some (.string ⟨#[]⟩) ∧ W.cell? ⟨w1.heap.size, 2, none⟩ = some (.int .i64 0) ∧ W.cell? ⟨w1.heap.size, 3, none⟩ = some (.slice none 0 0)) (by assumption) (fun w14 hS => ?_)
    clear HRV HRZ HR0 HR1 HR2 HZ1 HZ2 bA bAA bD HK
    obtain ⟨h14, _⟩ := hS
    have HB14 := Lib.hid (HB11.out.trans (h14.mono HB11.out.size))
    have HX14 := Lib.hid (keptR9 h14 HX11.out)
    have HY14 := Lib.hid (keptR9 h14 HY11.out)
    have HA14 := Lib.hid (keptR9 h14 HA11.out)
    have HT14 := Lib.hid (keptR9 h14 HT11.out)
    have HR14 := Lib.hid (HR11.out.on h14)
    clear h14 HB11 HX11 HY11 HA11 HT11 HR11
    have HW1 := Lib.hid (sb_live_walk w14 (w14.alloc (.cells #[.int .i64 0, .int .i64 1, .string ⟨#[]⟩, .int .i64 1, .slice none 0 0, .int .i64 1, .int .i64 1, .string ⟨#[]⟩, .int .i64 0, .slice none 0 0] 32)) (Below.refl _ _))
    obtain ⟨x0, x1, x2, x3, _⟩ := cellsT HX14.out
    obtain ⟨y0, y1, y2, y3, _⟩ := cellsT HY14.out
    obtain ⟨z0, z1, z2, z3, _⟩ := cellsT (keptR9 ((Below.refl _ w14).alloc (Nat.le_refl _) (.cells #[.int .i64 0, .int .i64 1, .string ⟨#[]⟩, .int .i64 1, .slice none 0 0, .int .i64 1, .int .i64 1, .string ⟨#[]⟩, .int .i64 0, .slice none 0 0] 32)) HX14.out)
    go_wp2_with fail
    refine HW1.out.mono ?_; rintro e w15 ⟨ta, tc, rfl, hb15⟩
    have h15 := ((Below.refl _ w14).alloc (Nat.le_refl _) (.cells #[.int .i64 0, .int .i64 1, .string ⟨#[]⟩, .int .i64 1, .slice none 0 0, .int .i64 1, .int .i64 1, .string ⟨#[]⟩, .int .i64 0, .slice none 0 0] 32)).trans (hb15.mono (by rw [World.size_alloc]; omega))
    clear z0 z1 z2 z3 hb15 HW1 x0 x1 x2 x3 y0 y1 y2 y3
    go_upto_region 8 with fail
    refine fold_world9w (S := fun W => Below w14.heap.size w14 W) (h15.alloc h15.size _) (fun w16 h16 => ?_)
    have HB16 := Lib.hid (HB14.out.trans (h16.mono HB14.out.size))
    have HX16 := Lib.hid (keptR9 h16 HX14.out)
    have HY16 := Lib.hid (keptR9 h16 HY14.out)
    have HA16 := Lib.hid (keptR9 h16 HA14.out)
    have HT16 := Lib.hid (keptR9 h16 HT14.out)
    have HR16 := Lib.hid (HR14.out.on h16)
    clear h15 h16 HB14 HX14 HY14 HA14 HT14 HR14
    have HK : Hid (∀ W, Below w16.heap.size w16 W → Below w16.heap.size w16 W ∧ W.cell? ⟨w1.heap.size, 0, none⟩ = some (.int .i64 1) ∧ W.cell? ⟨w1.heap.size, 1, none⟩ = some (.string ⟨#[]⟩) ∧ W.cell? ⟨w1.heap.size, 2, none⟩ = some (.int .i64 0) ∧ W.cell? ⟨w1.heap.size, 3, none⟩ = some (.slice none 0 0) ∧ W.cell? ⟨w3.heap.size, 0, none⟩ = some (.int .i64 1) ∧ W.cell? ⟨w3.heap.size, 1, none⟩ = some (.string ⟨#[]⟩) ∧ W.cell? ⟨w3.heap.size, 2, none⟩ = some (.int .i64 1) ∧ W.cell? ⟨w3.heap.size, 3, none⟩ = some (.slice none 0 0) ∧ W.cell? ⟨w5.heap.size, 0, none⟩ = some (.int .i64 2) ∧ W.cell? ⟨w5.heap.size, 1, none⟩ = some (.string ⟨#[97]⟩) ∧ W.cell? ⟨w5.heap.size, 2, none⟩ = some (.int .i64 0) ∧ W.cell? ⟨w5.heap.size, 3, none⟩ = some (.slice none 0 0) ∧ W.cell? ⟨w10.heap.size, 0, none⟩ = some (.int .i64 4) ∧ W.cell? ⟨w10.heap.size, 1, none⟩ = some (.string ⟨#[103]⟩) ∧ W.cell? ⟨w10.heap.size, 2, none⟩ = some (.int .i64 0) ∧ W.cell? ⟨w10.heap.size, 3, none⟩ = some (.slice ra 2 rc)) := Lib.hid (fun W h => by
      obtain ⟨x0, x1, x2, x3, _⟩ := cellsT (keptR9 h HX16.out)
      obtain ⟨y0, y1, y2, y3, _⟩ := cellsT (keptR9 h HY16.out)
      obtain ⟨a0, a1, a2, a3, _⟩ := cellsT (keptR9 h HA16.out)
      obtain ⟨t0, t1, t2, t3, _⟩ := cellsT (keptR9 h HT16.out)
      exact ⟨h, x0, x1, x2, x3, y0, y1, y2, y3, a0, a1, a2, a3, t0, t1, t2, t3⟩)
    have bD : Below w16.heap.size w16 w16.drew := (Below.refl _ w16).drew
    have bA : ∀ o : Obj, Below w16.heap.size w16 (w16.alloc o).drew := fun o => ((Below.refl _ w16).alloc (Nat.le_refl _) o).drew
    have HC1 := Lib.hid ((rowL1 (lvA_in w16) #[.int .i64 2, .string ⟨#[97]⟩, .int .i64 0, .slice none 0 0] rfl).on ((Below.refl _ _).drew))
    have HFR := Lib.hid (fun W => sb_live_fresh W)
    have HS1 := Lib.hid (fun q W (h : Below w16.heap.size w16 W) h2 => sb_live_same1 ra rc q W (HR16.out.on h) h2)
    have HS2 := Lib.hid (fun pa pc W h => sb_live_same2 pa pc W h)
    clear HR16 HX16 HY16 HA16 HT16
    go_region_held3 (fun W => Below w16.heap.size w16 W ∧ W.cell? ⟨w1.heap.size, 0, none⟩ = some (.int .i64 1) ∧ W.cell? ⟨w1.heap.size, 1, none⟩ = some (.string ⟨#[]⟩) ∧ W.cell? ⟨w1.heap.size, 2, none⟩ = some (.int .i64 0) ∧ W.cell? ⟨w1.heap.size, 3, none⟩ = some (.slice none 0 0) ∧ W.cell? ⟨w3.heap.size, 0, none⟩ = some (.int .i64 1) ∧ W.cell? ⟨w3.heap.size, 1, none⟩ = some (.string ⟨#[]⟩) ∧ W.cell? ⟨w3.heap.size, 2, none⟩ = some (.int .i64 1) ∧ W.cell? ⟨w3.heap.size, 3, none⟩ = some (.slice none 0 0) ∧ W.cell? ⟨w5.heap.size, 0, none⟩ = some (.int .i64 2) ∧ W.cell? ⟨w5.heap.size, 1, none⟩ = some (.string ⟨#[97]⟩) ∧ W.cell? ⟨w5.heap.size, 2, none⟩ = some (.int .i64 0) ∧ W.cell? ⟨w5.heap.size, 3, none⟩ = some (.slice none 0 0) ∧ W.cell? ⟨w10.heap.size, 0, none⟩ = some (.int .i64 4) ∧ W.cell? ⟨w10.heap.size, 1, none⟩ = some (.string ⟨#[103]⟩) ∧ W.cell? ⟨w10.heap.size, 2, none⟩ = some (.int .i64 0) ∧ W.cell? ⟨w10.heap.size, 3, none⟩ = some (.slice ra 2 rc))
      (first | with_reducible exact HK.out _ bD | with_reducible exact HK.out _ (bA _) | with_reducible exact HK.out _ b21 | with_reducible exact HK.out _ b20 | with_reducible exact HK.out _ b19 | with_reducible exact HK.out _ b18 | with_reducible exact HK.out _ b17 | with_reducible exact HK.out _ (b17.alloc b17.size _))
      (first
        | (go_at_call 14; (refine (ref_Comp1 _ _ _ _ _).mono ?_); rintro e w17 ⟨rfl, hb17⟩; have HRA := Lib.hid (HC1.out.on hb17); have b17 := (bA _).trans (hb17.mono (bA _).size))
        | (go_at_call 14; (refine (ref_Comp1 _ _ _ _ _).mono ?_); rintro e w18 ⟨rfl, hb18⟩; have HRG := Lib.hid ((rowL2 (w := w17) (lvF_in HRA.out) (lvA_in w17) #[.int .i64 4, .string ⟨#[102]⟩, .int .i64 0, .slice (some ⟨w16.heap.size, 0, none⟩) 1 1, .int .i64 2, .string ⟨#[97]⟩, .int .i64 0, .slice none 0 0] rfl).on hb18); have b18 := (b17.alloc b17.size _).trans (hb18.mono (b17.alloc b17.size _).size))
        | (go_at_call 11; (with_reducible refine (HS1.out _ _ b18 HRG.out).mono ?_); rintro e w19 ⟨rfl, hb19⟩; have b19 := b18.trans (hb19.mono b18.size))
        | (go_at_call 16; (with_reducible refine (HFR.out _).mono ?_); rintro e w20 ⟨pa, pc, rfl, hp, hb20⟩; have HP := Lib.hid hp; have b20 := b19.trans (hb20.mono b19.size); clear hp)
        | (go_at_call 11; (with_reducible refine (HS2.out _ _ _ HP.out).mono ?_); rintro e w21 ⟨rfl, hb21⟩; have b21 := b20.trans (hb21.mono b20.size)))
    have HB21 := Lib.hid (HB16.out.trans (b21.mono HB16.out.size))
    go_wp2_with fail
    go_ret
    exact ⟨rfl, HB21.out⟩
end Go.Proofs.YtjgjeafjnaodkaaDoor
