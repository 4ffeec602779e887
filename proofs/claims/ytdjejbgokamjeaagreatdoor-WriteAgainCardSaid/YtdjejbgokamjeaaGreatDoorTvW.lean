import Derived.Test.YtdjejbgokamjeaaGreatDoorTv
import Derived.Test.YtdjejbgokamjeaaGreatDoorTermMR
import Derived.Deep.QuietTactic
import Derived.BigQuiet
namespace Go.Proofs.YtdjejbgokamjeaaGreatDoor
open Go.RowKit
theorem below_drewN {B : Nat} {a w : World} (h : Below B a w) (n : Nat) : Below B a (w.drewN n) := ⟨h.os, h.tape, h.output, h.size, h.block⟩
def pairs (x y : List Int) : Prop := ∀ i k, k < i -> i < x.length -> (x.getD i 0 = x.getD k 0 ↔ y.getD i 0 = y.getD k 0)
noncomputable def Tm.variant (a b : Tm) : Bool := @decide (a.bare = b.bare /\ pairs a.places b.places) (Classical.propDecidable _)
theorem variant_true {a b : Tm} (h1 : a.bare = b.bare) (h2 : pairs a.places b.places) : a.variant b = true := by unfold Tm.variant; simp [h1, h2]
theorem variant_bare {a b : Tm} (h1 : a.bare ≠ b.bare) : a.variant b = false := by unfold Tm.variant; simp [h1]
theorem variant_pairs {a b : Tm} (h2 : ¬ pairs a.places b.places) : a.variant b = false := by unfold Tm.variant; simp [h2]
theorem bare_size' (m : Nat) : ∀ l : List Tm, Tm.sizes l <= m -> Tm.sizes (l.map Tm.bare) = Tm.sizes l := by
  induction m with
  | zero =>
    intro l h
    cases l with
    | nil => rfl
    | cons t l => rw [Tm.sizes_cons] at h; have := t.size_pos; omega
  | succ m ih =>
    intro l h
    cases l with
    | nil => rfl
    | cons t l =>
      rw [Tm.sizes_cons] at h
      have h1 := t.size_eq
      have h2 := ih t.args (by omega)
      have h3 := ih l (by have := t.size_pos; omega)
      rw [List.map_cons, Tm.sizes_cons, Tm.sizes_cons, h3, t.bare_eq, Tm.size_eq, Tm.size_eq t]
      show 1 + Tm.sizes (t.args.map Tm.bare) + _ = _
      rw [h2]
theorem Tm.bare_size (t : Tm) : t.bare.size = t.size := by
  rw [t.bare_eq, Tm.size_eq, Tm.size_eq t]
  show 1 + Tm.sizes (t.args.map Tm.bare) = _
  rw [bare_size' _ t.args (Nat.le_refl _)]
theorem bare_places' (m : Nat) : ∀ l r : List Tm, Tm.sizes l <= m -> l.map Tm.bare = r.map Tm.bare -> (l.flatMap Tm.places).length = (r.flatMap Tm.places).length := by
  induction m with
  | zero =>
    intro l r h he
    cases l with
    | nil =>
      cases r with
      | nil => rfl
      | cons t r => cases he
    | cons t l => rw [Tm.sizes_cons] at h; have := t.size_pos; omega
  | succ m ih =>
    intro l r h he
    cases l with
    | nil =>
      cases r with
      | nil => rfl
      | cons t r => cases he
    | cons t l =>
      cases r with
      | nil => cases he
      | cons s r =>
        rw [List.map_cons, List.map_cons] at he
        injection he with he1 he2
        rw [t.bare_eq, s.bare_eq] at he1
        injection he1 with hk hnm hn ha
        rw [Tm.sizes_cons] at h
        have h1 := t.size_eq
        have h2 := ih t.args s.args (by omega) ha
        have h3 := ih l r (by have := t.size_pos; omega) he2
        rw [List.flatMap_cons, List.flatMap_cons, List.length_append, List.length_append, t.places_eq, s.places_eq, List.length_append, List.length_append, h2, h3, hk]
        split <;> rfl
theorem Tm.bare_places {a b : Tm} (h : a.bare = b.bare) : a.places.length = b.places.length := by
  have := bare_places' _ [a] [b] (Nat.le_refl _) (by rw [List.map_cons, List.map_cons, h])
  simpa using this
theorem box_cells {w : World} {o1 o2 : Obj} {C D : Array Value} {t : TypeId} (h1 : o1 = .cells C t) (h2 : o2 = .cells D t) : ∀ W, Below ((w.alloc o1).alloc o2).heap.size ((w.alloc o1).alloc o2) W ->
    (∀ i, W.cell? ⟨w.heap.size, i, none⟩ = C[i]?) /\ (∀ i, W.cell? ⟨w.heap.size + 1, i, none⟩ = D[i]?) := by
  intro W hb
  subst h1 h2
  refine ⟨fun i => ?_, fun i => ?_⟩
  · rw [hb.cell (p := ⟨w.heap.size, i, none⟩) (by show w.heap.size < _; rw [World.size_alloc, World.size_alloc]; omega), World.cell?_alloc_past _ _ _ (by simp), World.cell?_alloc_at _ _ _ _ rfl]
  · rw [hb.cell (p := ⟨w.heap.size + 1, i, none⟩) (by show w.heap.size + 1 < _; rw [World.size_alloc, World.size_alloc]; omega), World.cell?_alloc_at _ _ _ _ (by simp)]
set_option maxRecDepth 100000 in
set_option maxHeartbeats 4000000 in
theorem ref_Variant (A B : Tm) (ad bd : Option Addr) (ca cb : Nat) (w : World) (hMA : A.size <= 1000000) (hMB : B.size <= 1000000) (hA : TmIn w A ad ca) (hB : TmIn w B bd cb) :
    Calls Tryz.prog 10 #[tmv A ad ca, tmv B bd cb] w fun e w' => e = .returned (.bool (A.variant B)) /\ Below w.heap.size w w' := by
  obtain ⟨E, hE⟩ : ∃ E, A.variant B = E := ⟨_, rfl⟩
  have HE := Lib.hid hE
  rw [hE]
  clear hE
  have HW0 := Lib.hid (fun (o1 o2 : Obj) => (((Below.refl w.heap.size w).alloc (Nat.le_refl _) o1).alloc (by simp) o2))
  have HBX := Lib.hid (fun (o1 o2 : Obj) (C D : Array Value) (h1 : o1 = .cells C 24) (h2 : o2 = .cells D 24) => box_cells (w := w) h1 h2)
  have CA := fun W (h : Below w.heap.size w W) => ref_bare A.size A ad ca W (Nat.le_refl _) hMA (hA.on h)
  have CB := fun W (h : Below w.heap.size w W) => ref_bare B.size B bd cb W (Nat.le_refl _) hMB (hB.on h)
  have CS := fun W ad' bd' ca' cb' (h1 : TmIn W A.bare ad' ca') (h2 : TmIn W B.bare bd' cb') => ref_Same A.bare.size A.bare B.bare ad' bd' ca' cb' W (Nat.le_refl _) (by rw [A.bare_size]; exact hMA) h1 h2
  have HCA := Lib.hid CA
  have HCB := Lib.hid CB
  have HCS := Lib.hid CS
  have HA := Lib.hid hA
  have HB := Lib.hid hB
  clear CA CB CS hA hB
  generalize hAb : A.bare = Ab at *
  generalize hBb : B.bare = Bb at *
  have HAB := Lib.hid hAb
  have HBB := Lib.hid hBb
  clear hAb hBb
  unfold tmv
  unfold tmv at HCA HCB
  go_enter Tryz.func10, Tryz.ntmps10
  go_wp2_with fail
  have hbx := HBX.out _ _ #[.int .i64 A.kind, .string A.name, .int .i64 A.n, .slice ad A.args.length ca] #[.int .i64 B.kind, .string B.name, .int .i64 B.n, .slice bd B.args.length cb] rfl rfl
  have hw0b := HW0.out (.cells #[.int .i64 A.kind, .string A.name, .int .i64 A.n, .slice ad A.args.length ca] 24) (.cells #[.int .i64 B.kind, .string B.name, .int .i64 B.n, .slice bd B.args.length cb] 24)
  generalize hw0 : (w.alloc _).alloc _ = w0 at *
  have hw0s : w0.heap.size = w.heap.size + 2 := by rw [<- hw0]; simp
  have HKEEP : Hid (∀ W, Below w0.heap.size w0 W -> Below w0.heap.size w0 W /\ W.cell? ⟨w.heap.size, 0, none⟩ = some (.int .i64 A.kind) /\ W.cell? ⟨w.heap.size, 1, none⟩ = some (.string A.name) /\ W.cell? ⟨w.heap.size, 2, none⟩ = some (.int .i64 A.n) /\ W.cell? ⟨w.heap.size, 3, none⟩ = some (.slice ad A.args.length ca) /\
      W.cell? ⟨w.heap.size + 1, 0, none⟩ = some (.int .i64 B.kind) /\ W.cell? ⟨w.heap.size + 1, 1, none⟩ = some (.string B.name) /\ W.cell? ⟨w.heap.size + 1, 2, none⟩ = some (.int .i64 B.n) /\ W.cell? ⟨w.heap.size + 1, 3, none⟩ = some (.slice bd B.args.length cb)) :=
    Lib.hid (fun W hb => ⟨hb, (hbx W hb).1 0, (hbx W hb).1 1, (hbx W hb).1 2, (hbx W hb).1 3, (hbx W hb).2 0, (hbx W hb).2 1, (hbx W hb).2 2, (hbx W hb).2 3⟩)
  have HST : Hid (∀ W W', Below w0.heap.size w0 W -> Below W.heap.size W W' -> Below w0.heap.size w0 W') := Lib.hid (fun W W' h h' => h.trans (h'.mono h.size))
  have HSW : Hid (∀ W, Below w0.heap.size w0 W -> Below w.heap.size w W) := Lib.hid (fun W h => hw0b.trans (h.mono (by omega)))
  have hD0 : Below w0.heap.size w0 w0.drew := (Below.refl _ w0).drew
  have hK0 := HKEEP.out _ (Below.refl _ w0)
  clear hbx hw0 HBX HW0
  go_region_held3 (fun W => Below w0.heap.size w0 W /\ W.cell? ⟨w.heap.size, 0, none⟩ = some (.int .i64 A.kind) /\ W.cell? ⟨w.heap.size, 1, none⟩ = some (.string A.name) /\ W.cell? ⟨w.heap.size, 2, none⟩ = some (.int .i64 A.n) /\ W.cell? ⟨w.heap.size, 3, none⟩ = some (.slice ad A.args.length ca) /\
      W.cell? ⟨w.heap.size + 1, 0, none⟩ = some (.int .i64 B.kind) /\ W.cell? ⟨w.heap.size + 1, 1, none⟩ = some (.string B.name) /\ W.cell? ⟨w.heap.size + 1, 2, none⟩ = some (.int .i64 B.n) /\ W.cell? ⟨w.heap.size + 1, 3, none⟩ = some (.slice bd B.args.length cb))
    (first | exact HKEEP.out _ hD0 | exact HKEEP.out _ hbS | exact HKEEP.out _ hbB | exact HKEEP.out _ hbA)
    (first
      | (go_at_call 27; (first
          | ((with_reducible refine (HCA.out _ (HSW.out _ ?_)).mono ?_); (first | exact hD0 | exact hbB); rintro e wA ⟨adA, capA, rfl, tpA, bA⟩; have hbA := HST.out _ _ (by first | exact hD0 | exact hbB) bA)
          | ((with_reducible refine (HCB.out _ (HSW.out _ ?_)).mono ?_); (first | exact hD0 | exact hbA); rintro e wB ⟨adB, capB, rfl, tpB, bB⟩; have hbB := HST.out _ _ (by first | exact hD0 | exact hbA) bB)))
      | (go_at_call 13; (first
          | ((with_reducible refine (HCS.out _ adA adB capA capB (tpA.toIn.on bB) tpB.toIn).mono ?_); rintro e wS ⟨rfl, bS⟩; have hbS := HST.out _ _ hbB bS)
          | ((with_reducible refine (HCS.out _ adA adB capA capB tpA.toIn (tpB.toIn.on bA)).mono ?_); rintro e wS ⟨rfl, bS⟩; have hbS := HST.out _ _ hbA bS))))
  clear bA hbA tpA bB hbB tpB bS hK0 hD0
  by_cases hAB : Ab = Bb
  · rw [Tm.same_true hAB]
    have hEqL : A.places.length = B.places.length := Tm.bare_places (by rw [HAB.out, HBB.out, hAB])
    have HVT : Hid (pairs A.places B.places -> A.variant B = true) := Lib.hid (fun h => variant_true (by rw [HAB.out, HBB.out, hAB]) h)
    have HVF : Hid (¬ pairs A.places B.places -> A.variant B = false) := Lib.hid (fun h => variant_pairs h)
    have HPA := Lib.hid (fun W (h : Below w.heap.size w W) => ref_places A.size A ad ca W (Nat.le_refl _) hMA (HA.out.on h))
    have HPB := Lib.hid (fun W (h : Below w.heap.size w W) => ref_places B.size B bd cb W (Nat.le_refl _) hMB (HB.out.on h))
    unfold tmv at HPA HPB
    have hxl := A.places_size
    clear HCA HCB HCS HAB HBB hAB HA HB
    generalize A.places = x at *
    generalize B.places = y at *
    have HEL := Lib.hid hEqL
    obtain ⟨_, a0, a1, a2, a3, _⟩ := HKEEP.out _ hbS
    clear hEqL
    go_wp2_with fail
    refine (HPA.out _ (HSW.out _ hbS)).mono ?_
    rintro e w1 ⟨v1, rfl, own1, b1⟩
    have hb1 := HST.out _ _ hbS b1
    obtain ⟨_, _, _, _, _, c0, c1, c2, c3⟩ := HKEEP.out _ hb1
    clear a0 a1 a2 a3 b1 hbS
    go_wp2_with fail
    refine (HPB.out _ (HSW.out _ hb1)).mono ?_
    rintro e w2 ⟨v2, rfl, own2, b2⟩
    have hb2 := HSW.out _ (HST.out _ _ hb1 b2)
    obtain ⟨ad1, cap1, rfl, hlc1, hcm1, hcell1⟩ := (own1.below b2).view
    obtain ⟨ad2, cap2, rfl, hlc2, hcm2, hcell2⟩ := own2.view
    have HX := Lib.hid hcell1
    have HY := Lib.hid hcell2
    unfold maxLen at hcm1 hcm2
    clear c0 c1 c2 c3 own1 own2 b2 hcell1 hcell2 hb1 HKEEP HST HSW HPA HPB hw0b
    go_wp2_with fail
    go_loopw [21] (fun iv wr => ∃ i : Nat, i <= x.length /\ iv = .int .i64 i /\ Below w2.heap.size w2 wr /\ Hid (∀ i' k', k' < i' -> i' < i -> (x.getD i' 0 = x.getD k' 0 ↔ y.getD i' 0 = y.getD k' 0))) (fun iv _ => x.length - (intOf iv).toNat)
    case atStart => exact ⟨0, Nat.zero_le _, rfl, Below.refl _ _, Lib.hid (fun i' k' _ h => absurd h (Nat.not_lt_zero _))⟩
    case round =>
      obtain ⟨i, hi, rfl, hbw, HP⟩ := hrel
      by_cases hlt : i < x.length
      · have hlty : i < y.length := by have := HEL.out; omega
        obtain ⟨g1, rfl, p0⟩ := HX.out i hlt
        obtain ⟨g2, rfl, q0⟩ := HY.out i hlty
        have hic : (i : Int) <= (cap1 : Int) := by omega
        go_wp2_with fail
        go_loopw [28] (fun kv wr2 => ∃ k : Nat, k <= i /\ kv = .int .i64 k /\ Below w2.heap.size w2 wr2 /\ Hid (∀ k', k' < k -> (x.getD i 0 = x.getD k' 0 ↔ y.getD i 0 = y.getD k' 0))) (fun kv _ => i - (intOf kv).toNat)
        case atStart => exact ⟨0, Nat.zero_le _, rfl, hbw, Lib.hid (fun k' h => absurd h (Nat.not_lt_zero _))⟩
        case round =>
          obtain ⟨k, hk, rfl, hbw2, HQ⟩ := hrel
          by_cases hkl : k < i
          · have hkx : k < x.length := by omega
            have hky : k < y.length := by omega
            obtain ⟨g3, hg3, p1⟩ := HX.out k hkx
            obtain ⟨g4, hg4, q1⟩ := HY.out k hky
            obtain rfl : g1 = g3 := by injection hg3 with h; injection h
            obtain rfl : g2 = g4 := by injection hg4 with h; injection h
            have gxi : x[i] = x.getD i 0 := by rw [List.getD, List.getElem?_eq_getElem hlt]; rfl
            have gxk : x[k] = x.getD k 0 := by rw [List.getD, List.getElem?_eq_getElem hkx]; rfl
            have gyi : y[i] = y.getD i 0 := by rw [List.getD, List.getElem?_eq_getElem hlty]; rfl
            have gyk : y[k] = y.getD k 0 := by rw [List.getD, List.getElem?_eq_getElem hky]; rfl
            have P0 := (hbw2.cell (p := ⟨g1, i, none⟩) (World.block_lt_of_cell? w2 _ p0)).trans p0
            have P1 := (hbw2.cell (p := ⟨g1, k, none⟩) (World.block_lt_of_cell? w2 _ p1)).trans p1
            have Q0 := (hbw2.cell (p := ⟨g2, i, none⟩) (World.block_lt_of_cell? w2 _ q0)).trans q0
            have Q1 := (hbw2.cell (p := ⟨g2, k, none⟩) (World.block_lt_of_cell? w2 _ q1)).trans q1
            rw [gxi] at P0
            rw [gxk] at P1
            rw [gyi] at Q0
            rw [gyk] at Q1
            have HNO : Hid (¬ (x.getD i 0 = x.getD k 0 ↔ y.getD i 0 = y.getD k 0) -> E = false) := Lib.hid (fun h => by rw [<- HE.out]; exact HVF.out (fun hp => h (hp i k hkl hlt)))
            have HYES : Hid ((x.getD i 0 = x.getD k 0 ↔ y.getD i 0 = y.getD k 0) -> ∀ k', k' < k + 1 -> (x.getD i 0 = x.getD k' 0 ↔ y.getD i 0 = y.getD k' 0)) := Lib.hid (fun h k' hk' => by
              rcases Nat.lt_or_ge k' k with h1 | h1
              · exact HQ.out k' h1
              · obtain rfl : k' = k := by omega
                exact h)
            have hi0 : (0 : Int) <= (i : Int) := by omega
            have hi1 : (i : Int) < (x.length : Int) := by omega
            have hi2 : (i : Int) < (y.length : Int) := by omega
            have hk0 : (0 : Int) <= (k : Int) := by omega
            have hk1 : (k : Int) < (x.length : Int) := by omega
            have hk2 : (k : Int) < (y.length : Int) := by omega
            clear gxi gxk gyi gyk p0 p1 q0 q1 hg3 hg4
            generalize x.getD i 0 = xi at *
            generalize x.getD k 0 = xk at *
            generalize y.getD i 0 = yi at *
            generalize y.getD k 0 = yk at *
            cases e1 : (xi == xk) with
            | true =>
              cases e2 : (yi == yk) with
              | true =>
                have HN := Lib.hid (HYES.out ⟨fun _ => by simpa using e2, fun _ => by simpa using e1⟩)
                go_wp2_with fail
                go_quiet (fail)
                go_wp2_with fail
                go_roundw
                case rel => exact ⟨k + 1, by omega, by go_num, below_drewN hbw2 _, HN⟩
                case measure => simp [intOf]; omega
              | false =>
                have HR := Lib.hid (HNO.out (fun h => by have h1 : xi = xk := by simpa using e1
                                                         have h2 := h.1 h1
                                                         rw [h2] at e2
                                                         simp at e2))
                go_wp2_with fail
                go_quiet (fail)
                go_wp2_with fail
                go_ret
                exact ⟨ret_bool HR.out.symm, hb2.trans ((below_drewN hbw2 _).mono hb2.size)⟩
            | false =>
              cases e2 : (yi == yk) with
              | true =>
                have HR := Lib.hid (HNO.out (fun h => by have h1 : yi = yk := by simpa using e2
                                                         have h2 := h.2 h1
                                                         rw [h2] at e1
                                                         simp at e1))
                go_wp2_with fail
                go_quiet (fail)
                go_wp2_with fail
                go_ret
                exact ⟨ret_bool HR.out.symm, hb2.trans ((below_drewN hbw2 _).mono hb2.size)⟩
              | false =>
                have HN := Lib.hid (HYES.out ⟨fun h => by rw [h] at e1; simp at e1, fun h => by rw [h] at e2; simp at e2⟩)
                go_wp2_with fail
                go_quiet (fail)
                go_wp2_with fail
                go_roundw
                case rel => exact ⟨k + 1, by omega, by go_num, below_drewN hbw2 _, HN⟩
                case measure => simp [intOf]; omega
          · obtain rfl : k = i := by omega
            have HN : Hid (∀ i' k', k' < i' -> i' < k + 1 -> (x.getD i' 0 = x.getD k' 0 ↔ y.getD i' 0 = y.getD k' 0)) := Lib.hid (fun i' k' h1 h2 => by
              rcases Nat.lt_or_ge i' k with h3 | h3
              · exact HP.out i' k' h1 h3
              · obtain rfl : i' = k := by omega
                exact HQ.out k' h1)
            clear HP HQ p0 q0
            go_wp2_with fail
            go_roundw
            case rel => exact ⟨k + 1, by omega, by go_num, hbw2, HN⟩
            case measure => simp [intOf]; omega
      · have HR : Hid (E = true) := Lib.hid (by rw [<- HE.out]; exact HVT.out (fun i' k' h1 h2 => HP.out i' k' h1 (by omega)))
        clear HP
        go_wp2_with fail
        go_ret
        exact ⟨ret_bool HR.out.symm, hb2.trans (hbw.mono hb2.size)⟩
  · rw [Tm.same_false hAB]
    have HV : Hid (E = false) := Lib.hid (HE.out.symm.trans <| variant_bare (by rw [HAB.out, HBB.out]; exact hAB))
    have hbw := HSW.out _ hbS
    clear hAB HCA HCB HCS HAB HBB HKEEP HST HSW hbS
    go_wp2_with fail
    go_ret
    exact ⟨ret_bool HV.out.symm, hbw⟩
end Go.Proofs.YtdjejbgokamjeaaGreatDoor
