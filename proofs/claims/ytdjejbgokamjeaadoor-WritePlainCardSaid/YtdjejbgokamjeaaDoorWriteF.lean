/-
  Package write's infix: two operands and an operator between them (printed by gen/genWriteF.py).
-/
import Derived.Test.YtdjejbgokamjeaaDoorWriteE
import Derived.Deep.RegionHeld3
namespace Go.Proofs.YtdjejbgokamjeaaDoor
open Go.RowKit

theorem two_args {w : World} {B : Nat} {uad : Option Addr} {x y : Tm} (h : TArgsP w (fun k => k < B) uad [x, y]) :
    ∃ o1 o2 adx capx ady capy, uad = some ⟨o1, o2, none⟩ ∧ TmP w (fun k => k < B) x adx capx ∧ TmP w (fun k => k < B) y ady capy ∧
      ∀ W, Below B w W → (W.cell? ⟨o1, o2, none⟩ = some (.int .i64 x.kind) ∧ W.cell? ⟨o1, o2 + 1, none⟩ = some (.string x.name) ∧ W.cell? ⟨o1, o2 + 2, none⟩ = some (.int .i64 x.n) ∧ W.cell? ⟨o1, o2 + 3, none⟩ = some (.slice adx x.args.length capx)) ∧
        (W.cell? ⟨o1, o2 + 4, none⟩ = some (.int .i64 y.kind) ∧ W.cell? ⟨o1, o2 + 4 + 1, none⟩ = some (.string y.name) ∧ W.cell? ⟨o1, o2 + 4 + 2, none⟩ = some (.int .i64 y.n) ∧ W.cell? ⟨o1, o2 + 4 + 3, none⟩ = some (.slice ady y.args.length capy)) := by
  obtain ⟨o1, o2, rfl⟩ := h.addr' (by simp)
  have hp : o1 < B := by
    cases h with
    | cons _ _ _ _ _ _ _ _ _ hp => exact hp
  obtain ⟨adx, capx, x0, x1, x2, x3, hx⟩ := h.get 0 (by simp)
  obtain ⟨ady, capy, y0, y1, y2, y3, hy⟩ := h.get 1 (by simp)
  rw [Nat.zero_mul, Nat.add_zero] at x0 x1 x2 x3
  rw [Nat.one_mul] at y0 y1 y2 y3
  refine ⟨o1, o2, adx, capx, ady, capy, rfl, hx, hy, fun W hW => ?_⟩
  have go : ∀ (i : Nat) (v : Value), w.cell? ⟨o1, i, none⟩ = some v → W.cell? ⟨o1, i, none⟩ = some v := fun i v hv => (hW.cell (p := ⟨o1, i, none⟩) hp).trans hv
  exact ⟨⟨go _ _ x0, go _ _ x1, go _ _ x2, go _ _ x3⟩, go _ _ y0, go _ _ y1, go _ _ y2, go _ _ y3⟩
theorem cellx2 {W : World} {q t : Nat} {v0 v1 : Value} (h : W.heap[q]? = some (.cells #[v0, v1] t (0, 0))) : W.cell? ⟨q, 0, none⟩ = some v0 ∧ W.cell? ⟨q, 1, none⟩ = some v1 := by
  simp [World.cell?, h]

set_option maxRecDepth 100000 in
set_option maxHeartbeats 4000000 in
theorem wr_infix0 (m : Nat) (IH : WrWithin m) (T x y : Tm) (o : R) (ad : Option Addr) (cap : Nat) (w : World) (B b : Nat) (l : List UInt8) (hxy : T.args = [x, y]) (hm : T.size ≤ m + 1) (hM : T.size ≤ 1000000) (hmx : x.may = true) (hmy : y.may = true) (hin : TmP w (fun k => k < B) T ad cap) (hB : B ≤ w.heap.size) (hT : ∀ W, Below B w W → AllT W) (hbw : BW B b l w) (hl : l.length + 1400 * T.size ≤ 2000000010) (hs : T.name.data.toList = [44]) :
    Calls Tryd.prog 54 #[.pointer (some ⟨b, 0, none⟩), tmv T ad cap, .agg #[.int .i64 o.p, .string o.k]] w (Laid B b w (l ++ (x.wr.opd (leftOf o.k o.p) ++ (betweenK T.name.data.toList ++ y.wr.opd (rightOf o.k o.p))))) := by
  have hlt := hbw.lt
  have hl2 : T.args.length = 2 := by rw [hxy]; rfl
  have hsz : T.size = 1 + (x.size + y.size) := by rw [T.size_eq, hxy]; rfl
  obtain ⟨o1, o2, adx, capx, ady, capy, rfl, hinx, hiny, hcell⟩ := two_args (by have h := hin.args; rw [hxy] at h; exact h)
  have hxf := (wr_fits x hinx.n64).2.2 (leftOf o.k o.p)
  have hbl := between_len T.name.data.toList
  have hopx := fun (W : World) (hW : Below B w W) (hbW : BW B b l W) => wr_operand m IH x adx capx W B b l (leftOf o.k o.p) (by omega) (by omega) hmx (hinx.onB hW) (Nat.le_trans hB hW.size) (fun V hV => hT V (hW.trans hV)) hbW (by omega)
  have hopy := fun (l2 : List UInt8) (hl2 : l2.length + 1400 * y.size ≤ 2000000000) (W : World) (hW : Below B w W) (hbW : BW B b l2 W) => wr_operand m IH y ady capy W B b l2 (rightOf o.k o.p) (by omega) (by omega) hmy (hiny.onB hW) (Nat.le_trans hB hW.size) (fun V hV => hT V (hW.trans hV)) hbW hl2
  have hcw := Lib.hid (fun W h => char_Write T.name W hin.name h)
  unfold tmv at hopx hopy ⊢
  rw [hl2]
  have hLn := (x.wr.opd (leftOf o.k o.p)).length
  generalize x.wr.opd (leftOf o.k o.p) = X at *
  generalize y.wr.opd (rightOf o.k o.p) = Y at *
  have HOPX := Lib.hid hopx
  have HOPY := Lib.hid hopy
  have HCELL := Lib.hid hcell
  have HT := Lib.hid hT
  have HBW := Lib.hid hbw
  have HLF := Lib.hid (fun W => ops_Left o.k o.p W)
  have HRT := Lib.hid (fun W => ops_Right o.k o.p W)
  have hb0 : ∀ u v : Obj, Below B w ((w.alloc u).alloc v) := fun u v => ((Below.refl B w).alloc hB u).alloc (by simp; omega) v
  have ha0 : ∀ u v : Obj, Apart b w ((w.alloc u).alloc v) := fun u v => ((Lib.OthersKept.refl 5 (some b) w).alloc u).alloc v
  have hw0 : ∀ u v : Obj, BW B b l ((w.alloc u).alloc v) := fun u v => (hbw.past u).past v
  have hx0 : ∀ u v : Obj, ((w.alloc u).alloc v).heap[w.heap.size]? = some u := fun u v => (Lib.alloc_old _ _ _ (by simp)).trans (heap_alloc_new w u)
  have ho0 : ∀ u v : Obj, ((w.alloc u).alloc v).heap[w.heap.size + 1]? = some v := fun u v => by have h := heap_alloc_new (w.alloc u) v; rw [World.size_alloc] at h; exact h
  have es : T.name = ⟨#[44]⟩ := by apply ByteArray.ext; rw [← Array.toList_inj]; exact hs
  have eb : betweenK T.name.data.toList = [44] := by unfold betweenK; rw [if_pos hs]
  rw [eb]
  rw [eb, List.length_singleton] at hbl
  rw [es] at *
  clear hs
  obtain ⟨E, hE⟩ : ∃ E, l ++ (X ++ ([44] ++ Y)) = E := ⟨_, rfl⟩
  rw [hE]
  have HE := Lib.hid hE
  clear hE
  clear hopx hopy hcell hT hbw hin hinx hiny hmx hmy IH hxy
  go_enter Tryd.func54, Tryd.ntmps54
  go_wp2_with fail
  have hX := hx0 (.cells #[.int .i64 T.kind, .string ⟨#[44]⟩, .int .i64 T.n, .slice (some ⟨o1, o2, none⟩) 2 cap] 24) (.cells #[.int .i64 o.p, .string o.k] 51)
  have hO := ho0 (.cells #[.int .i64 T.kind, .string ⟨#[44]⟩, .int .i64 T.n, .slice (some ⟨o1, o2, none⟩) 2 cap] 24) (.cells #[.int .i64 o.p, .string o.k] 51)
  have hBL := hb0 (.cells #[.int .i64 T.kind, .string ⟨#[44]⟩, .int .i64 T.n, .slice (some ⟨o1, o2, none⟩) 2 cap] 24) (.cells #[.int .i64 o.p, .string o.k] 51)
  have hAP := ha0 (.cells #[.int .i64 T.kind, .string ⟨#[44]⟩, .int .i64 T.n, .slice (some ⟨o1, o2, none⟩) 2 cap] 24) (.cells #[.int .i64 o.p, .string o.k] 51)
  have hBW := hw0 (.cells #[.int .i64 T.kind, .string ⟨#[44]⟩, .int .i64 T.n, .slice (some ⟨o1, o2, none⟩) 2 cap] 24) (.cells #[.int .i64 o.p, .string o.k] 51)
  clear hb0 ha0 hw0 hx0 ho0
  generalize (w.alloc (.cells #[.int .i64 T.kind, .string ⟨#[44]⟩, .int .i64 T.n, .slice (some ⟨o1, o2, none⟩) 2 cap] 24)).alloc (.cells #[.int .i64 o.p, .string o.k] 51) = W0 at *
  have HX0 := Lib.hid hX
  have HO0 := Lib.hid hO
  have HB0 := Lib.hid hBL
  have HA0 := Lib.hid hAP
  have HW0 := Lib.hid hBW
  have hne0 : w.heap.size ≠ b := by omega
  have hne1 : w.heap.size + 1 ≠ b := by omega
  clear hX hO hBL hAP hBW
  have HS1 : Hid (∀ W : World, W.heap[w.heap.size]? = some (.cells #[.int .i64 T.kind, .string ⟨#[44]⟩, .int .i64 T.n, .slice (some ⟨o1, o2, none⟩) 2 cap] 24 (0, 0)) → W.heap[w.heap.size + 1]? = some (.cells #[.int .i64 o.p, .string o.k] 51 (0, 0)) → Below B w W → W.cell? ⟨w.heap.size, 3, none⟩ = some (.slice (some ⟨o1, o2, none⟩) 2 cap) ∧ W.cell? ⟨w.heap.size + 1, 0, none⟩ = some (.int .i64 o.p) ∧ W.cell? ⟨w.heap.size + 1, 1, none⟩ = some (.string o.k) ∧ W.cell? ⟨o1, o2, none⟩ = some (.int .i64 x.kind) ∧ W.cell? ⟨o1, o2 + 1, none⟩ = some (.string x.name) ∧ W.cell? ⟨o1, o2 + 2, none⟩ = some (.int .i64 x.n) ∧ W.cell? ⟨o1, o2 + 3, none⟩ = some (.slice adx x.args.length capx)) := Lib.hid (fun W h1 h2 h3 => ⟨(cellx4 h1).2.2.2, (cellx2 h2).1, (cellx2 h2).2, (HCELL.out W h3).1⟩)
  refine wp_region_held_drew (S := (fun W => W.cell? ⟨w.heap.size, 3, none⟩ = some (.slice (some ⟨o1, o2, none⟩) 2 cap) ∧ W.cell? ⟨w.heap.size + 1, 0, none⟩ = some (.int .i64 o.p) ∧ W.cell? ⟨w.heap.size + 1, 1, none⟩ = some (.string o.k) ∧ W.cell? ⟨o1, o2, none⟩ = some (.int .i64 x.kind) ∧ W.cell? ⟨o1, o2 + 1, none⟩ = some (.string x.name) ∧ W.cell? ⟨o1, o2 + 2, none⟩ = some (.int .i64 x.n) ∧ W.cell? ⟨o1, o2 + 3, none⟩ = some (.slice adx x.args.length capx))) (by kernel_rfl) (HS1.out _ HX0.out HO0.out HB0.out.drew) (fun hHeld1 => ?_)
  refine wpAnyH_take (i := 0) (oi := _) (v := ?v2) rfl (by kernel_rfl) (by kernel_rfl) (by kernel_rfl) (fun _ _ _ h => h) (Or.inl ⟨by rfl, ?y2⟩) (by assumption) ?r2
  case y2 => (intro w hSw; (try dsimp only at hSw); go_simp; try with_reducible rfl)
  try simp only [Act.put]
  try simp only [List.setIfInBounds_toArray]
  try simp only [List.set_cons_zero]
  try simp only [List.set_cons_succ]
  try simp only [List.set_cons_zero]
  refine wpAnyH_take (i := 1) (oi := _) (v := ?v3) rfl (by kernel_rfl) (by kernel_rfl) (by kernel_rfl) (fun _ _ _ h => h) (Or.inl ⟨by rfl, ?y3⟩) (by assumption) ?r3
  case y3 => (intro w hSw; (try dsimp only at hSw); go_simp; try with_reducible rfl)
  try simp only [Act.put]
  try simp only [List.setIfInBounds_toArray]
  try simp only [List.set_cons_zero]
  try simp only [List.set_cons_succ]
  try simp only [List.set_cons_zero]
  refine wpAnyH_take (i := 2) (oi := _) (v := ?v4) rfl (by kernel_rfl) (by kernel_rfl) (by kernel_rfl) (fun _ _ _ h => h) (Or.inl ⟨by rfl, ?y4⟩) (by assumption) ?r4
  case y4 => (intro w hSw; (try dsimp only at hSw); go_simp; try with_reducible rfl)
  try simp only [Act.put]
  try simp only [List.setIfInBounds_toArray]
  try simp only [List.set_cons_zero]
  try simp only [List.set_cons_succ]
  try simp only [List.set_cons_zero]
  refine wpAnyH_take (i := 3) (oi := _) (v := ?v5) rfl (by kernel_rfl) (by kernel_rfl) (by kernel_rfl) (fun _ _ _ h => h) (Or.inl ⟨by rfl, ?y5⟩) (by assumption) ?r5
  case y5 => (intro w hSw; (try dsimp only at hSw); go_simp; try with_reducible rfl)
  try simp only [Act.put]
  try simp only [List.setIfInBounds_toArray]
  try simp only [List.set_cons_zero]
  try simp only [List.set_cons_succ]
  try simp only [List.set_cons_zero]
  refine wpAnyH_take (i := 4) (oi := _) (v := ?v6) rfl (by kernel_rfl) (by kernel_rfl) (by kernel_rfl) (fun _ _ _ h => h) (Or.inl ⟨by rfl, ?y6⟩) (by assumption) ?r6
  case y6 => (intro w hSw; (try dsimp only at hSw); go_simp; try with_reducible rfl)
  try simp only [Act.put]
  try simp only [List.setIfInBounds_toArray]
  try simp only [List.set_cons_zero]
  try simp only [List.set_cons_succ]
  try simp only [List.set_cons_zero]
  refine wpAnyH_take (i := 5) (oi := _) (v := ?v7) rfl (by kernel_rfl) (by kernel_rfl) (by kernel_rfl) (fun _ _ _ h => h) (Or.inl ⟨by rfl, ?y7⟩) (by assumption) ?r7
  case y7 => (intro w hSw; (try dsimp only at hSw); go_simp; try with_reducible rfl)
  try simp only [Act.put]
  try simp only [List.setIfInBounds_toArray]
  try simp only [List.set_cons_zero]
  try simp only [List.set_cons_succ]
  try simp only [List.set_cons_zero]
  refine wpAnyH_ready (rs := [6]) (by kernel_rfl) (by simp) ?_
  refine AllReadyH.cons (o := _) rfl (fun K hK => ?_) AllReadyH.nil
  go_simp
  (with_reducible refine (HLF.out _).mono ?_); rintro e y1 ⟨rfl, c1⟩
  have d1 := (Below.drew (Below.refl W0.heap.size W0)).trans c1
  have HXy1 := Lib.hid ((d1.block w.heap.size (Array.getElem?_eq_some_iff.1 HX0.out).1).trans HX0.out)
  have HOy1 := Lib.hid ((d1.block (w.heap.size + 1) (Array.getElem?_eq_some_iff.1 HO0.out).1).trans HO0.out)
  have HBy1 := Lib.hid (HB0.out.trans (d1.mono (Nat.le_trans hB HB0.out.size)))
  have HAy1 := Lib.hid (apart_on HA0.out d1)
  have HWy1 := Lib.hid (HW0.out.on d1)
  clear c1 d1
  try go_wp2_with fail
  refine hK.out _ _ (HS1.out _ HXy1.out HOy1.out HBy1.out) (fun hHeld8 => ?_)
  clear hK K hHeld1
  try simp only [Act.put]
  try simp only [List.setIfInBounds_toArray]
  try simp only [List.set_cons_zero]
  try simp only [List.set_cons_succ]
  try simp only [List.set_cons_zero]
  refine wpAnyH_ready (rs := [7]) (by kernel_rfl) (by simp) ?_
  refine AllReadyH.cons (o := _) rfl (fun K hK => ?_) AllReadyH.nil
  go_simp
  (with_reducible refine (HOPX.out _ HBy1.out HWy1.out).mono ?_); rintro e W1 ⟨rfl, hbw1, hbl1, hap1⟩
  have HX1 := Lib.hid (apart_keep hap1 HXy1.out (by decide) hne0)
  have HO1 := Lib.hid (apart_keep hap1 HOy1.out (by decide) hne1)
  have HB1 := Lib.hid (HBy1.out.trans hbl1)
  have HA1 := Lib.hid (HAy1.out.trans hap1)
  have HW1 := Lib.hid hbw1
  clear hbw1 hbl1 hap1
  try go_wp2_with fail
  refine hK.out _ _ (HS1.out _ HX1.out HO1.out HB1.out) (fun hHeld9 => ?_)
  clear hK K hHeld8
  try simp only [Act.put]
  try simp only [List.setIfInBounds_toArray]
  try simp only [List.set_cons_zero]
  try simp only [List.set_cons_succ]
  try simp only [List.set_cons_zero]
  refine wpAnyH_done (by kernel_rfl) ?_ _
  obtain ⟨f0, f1, f2, f3⟩ := cellx4 HX1.out
  go_wp2_with fail
  refine (wr_lay1 B b _ _ _ W1 (by simp) HW1.out (by rw [List.length_append]; show _ + 1 ≤ _; omega) (Nat.le_trans hB HB1.out.size)).mono ?_
  rintro e W4 ⟨rfl, hbw4, hbl4, hap4⟩
  have HX4 := Lib.hid (apart_keep hap4 HX1.out (by decide) hne0)
  have HO4 := Lib.hid (apart_keep hap4 HO1.out (by decide) hne1)
  have HB4 := Lib.hid (HB1.out.trans hbl4)
  have HA4 := Lib.hid (HA1.out.trans hap4)
  have HW4 := Lib.hid (show BW B b (l ++ X ++ [44]) W4 from hbw4)
  have hly : (l ++ X ++ [44]).length + 1400 * y.size ≤ 2000000000 := by rw [List.length_append, List.length_append, List.length_singleton]; omega
  clear hbw4 hbl4 hap4 f0 f1 f2 f3
  go_wp2_with fail
  have HS2 : Hid (∀ W : World, W.heap[w.heap.size]? = some (.cells #[.int .i64 T.kind, .string ⟨#[44]⟩, .int .i64 T.n, .slice (some ⟨o1, o2, none⟩) 2 cap] 24 (0, 0)) → W.heap[w.heap.size + 1]? = some (.cells #[.int .i64 o.p, .string o.k] 51 (0, 0)) → Below B w W → W.cell? ⟨w.heap.size, 3, none⟩ = some (.slice (some ⟨o1, o2, none⟩) 2 cap) ∧ W.cell? ⟨w.heap.size + 1, 0, none⟩ = some (.int .i64 o.p) ∧ W.cell? ⟨w.heap.size + 1, 1, none⟩ = some (.string o.k) ∧ W.cell? ⟨o1, o2 + 4, none⟩ = some (.int .i64 y.kind) ∧ W.cell? ⟨o1, o2 + 4 + 1, none⟩ = some (.string y.name) ∧ W.cell? ⟨o1, o2 + 4 + 2, none⟩ = some (.int .i64 y.n) ∧ W.cell? ⟨o1, o2 + 4 + 3, none⟩ = some (.slice ady y.args.length capy)) := Lib.hid (fun W h1 h2 h3 => ⟨(cellx4 h1).2.2.2, (cellx2 h2).1, (cellx2 h2).2, (HCELL.out W h3).2⟩)
  refine wp_region_held_drew (S := (fun W => W.cell? ⟨w.heap.size, 3, none⟩ = some (.slice (some ⟨o1, o2, none⟩) 2 cap) ∧ W.cell? ⟨w.heap.size + 1, 0, none⟩ = some (.int .i64 o.p) ∧ W.cell? ⟨w.heap.size + 1, 1, none⟩ = some (.string o.k) ∧ W.cell? ⟨o1, o2 + 4, none⟩ = some (.int .i64 y.kind) ∧ W.cell? ⟨o1, o2 + 4 + 1, none⟩ = some (.string y.name) ∧ W.cell? ⟨o1, o2 + 4 + 2, none⟩ = some (.int .i64 y.n) ∧ W.cell? ⟨o1, o2 + 4 + 3, none⟩ = some (.slice ady y.args.length capy))) (by kernel_rfl) (HS2.out _ HX4.out HO4.out HB4.out.drew) (fun hHeld10 => ?_)
  refine wpAnyH_take (i := 0) (oi := _) (v := ?v11) rfl (by kernel_rfl) (by kernel_rfl) (by kernel_rfl) (fun _ _ _ h => h) (Or.inl ⟨by rfl, ?y11⟩) (by assumption) ?r11
  case y11 => (intro w hSw; (try dsimp only at hSw); go_simp; try with_reducible rfl)
  try simp only [Act.put]
  try simp only [List.setIfInBounds_toArray]
  try simp only [List.set_cons_zero]
  try simp only [List.set_cons_succ]
  try simp only [List.set_cons_zero]
  refine wpAnyH_take (i := 1) (oi := _) (v := ?v12) rfl (by kernel_rfl) (by kernel_rfl) (by kernel_rfl) (fun _ _ _ h => h) (Or.inl ⟨by rfl, ?y12⟩) (by assumption) ?r12
  case y12 => (intro w hSw; (try dsimp only at hSw); go_simp; try with_reducible rfl)
  try simp only [Act.put]
  try simp only [List.setIfInBounds_toArray]
  try simp only [List.set_cons_zero]
  try simp only [List.set_cons_succ]
  try simp only [List.set_cons_zero]
  refine wpAnyH_take (i := 2) (oi := _) (v := ?v13) rfl (by kernel_rfl) (by kernel_rfl) (by kernel_rfl) (fun _ _ _ h => h) (Or.inl ⟨by rfl, ?y13⟩) (by assumption) ?r13
  case y13 => (intro w hSw; (try dsimp only at hSw); go_simp; try with_reducible rfl)
  try simp only [Act.put]
  try simp only [List.setIfInBounds_toArray]
  try simp only [List.set_cons_zero]
  try simp only [List.set_cons_succ]
  try simp only [List.set_cons_zero]
  refine wpAnyH_take (i := 3) (oi := _) (v := ?v14) rfl (by kernel_rfl) (by kernel_rfl) (by kernel_rfl) (fun _ _ _ h => h) (Or.inl ⟨by rfl, ?y14⟩) (by assumption) ?r14
  case y14 => (intro w hSw; (try dsimp only at hSw); go_simp; try with_reducible rfl)
  try simp only [Act.put]
  try simp only [List.setIfInBounds_toArray]
  try simp only [List.set_cons_zero]
  try simp only [List.set_cons_succ]
  try simp only [List.set_cons_zero]
  refine wpAnyH_take (i := 4) (oi := _) (v := ?v15) rfl (by kernel_rfl) (by kernel_rfl) (by kernel_rfl) (fun _ _ _ h => h) (Or.inl ⟨by rfl, ?y15⟩) (by assumption) ?r15
  case y15 => (intro w hSw; (try dsimp only at hSw); go_simp; try with_reducible rfl)
  try simp only [Act.put]
  try simp only [List.setIfInBounds_toArray]
  try simp only [List.set_cons_zero]
  try simp only [List.set_cons_succ]
  try simp only [List.set_cons_zero]
  refine wpAnyH_take (i := 5) (oi := _) (v := ?v16) rfl (by kernel_rfl) (by kernel_rfl) (by kernel_rfl) (fun _ _ _ h => h) (Or.inl ⟨by rfl, ?y16⟩) (by assumption) ?r16
  case y16 => (intro w hSw; (try dsimp only at hSw); go_simp; try with_reducible rfl)
  try simp only [Act.put]
  try simp only [List.setIfInBounds_toArray]
  try simp only [List.set_cons_zero]
  try simp only [List.set_cons_succ]
  try simp only [List.set_cons_zero]
  refine wpAnyH_ready (rs := [6]) (by kernel_rfl) (by simp) ?_
  refine AllReadyH.cons (o := _) rfl (fun K hK => ?_) AllReadyH.nil
  go_simp
  (with_reducible refine (HRT.out _).mono ?_); rintro e y2 ⟨rfl, c2⟩
  have d2 := (Below.drew (Below.refl W4.heap.size W4)).trans c2
  have HXy2 := Lib.hid ((d2.block w.heap.size (Array.getElem?_eq_some_iff.1 HX4.out).1).trans HX4.out)
  have HOy2 := Lib.hid ((d2.block (w.heap.size + 1) (Array.getElem?_eq_some_iff.1 HO4.out).1).trans HO4.out)
  have HBy2 := Lib.hid (HB4.out.trans (d2.mono (Nat.le_trans hB HB4.out.size)))
  have HAy2 := Lib.hid (apart_on HA4.out d2)
  have HWy2 := Lib.hid (HW4.out.on d2)
  clear c2 d2
  try go_wp2_with fail
  refine hK.out _ _ (HS2.out _ HXy2.out HOy2.out HBy2.out) (fun hHeld17 => ?_)
  clear hK K hHeld10
  try simp only [Act.put]
  try simp only [List.setIfInBounds_toArray]
  try simp only [List.set_cons_zero]
  try simp only [List.set_cons_succ]
  try simp only [List.set_cons_zero]
  refine wpAnyH_ready (rs := [7]) (by kernel_rfl) (by simp) ?_
  refine AllReadyH.cons (o := _) rfl (fun K hK => ?_) AllReadyH.nil
  go_simp
  (with_reducible refine (HOPY.out _ hly _ HBy2.out HWy2.out).mono ?_); rintro e W5 ⟨rfl, hbw5, hbl5, hap5⟩
  have HX5 := Lib.hid (apart_keep hap5 HXy2.out (by decide) hne0)
  have HO5 := Lib.hid (apart_keep hap5 HOy2.out (by decide) hne1)
  have HB5 := Lib.hid (HBy2.out.trans hbl5)
  have HA5 := Lib.hid (HAy2.out.trans hap5)
  have HW5 := Lib.hid hbw5
  clear hbw5 hbl5 hap5
  try go_wp2_with fail
  refine hK.out _ _ (HS2.out _ HX5.out HO5.out HB5.out) (fun hHeld18 => ?_)
  clear hK K hHeld17
  try simp only [Act.put]
  try simp only [List.setIfInBounds_toArray]
  try simp only [List.set_cons_zero]
  try simp only [List.set_cons_succ]
  try simp only [List.set_cons_zero]
  refine wpAnyH_done (by kernel_rfl) ?_ _
  go_wp2_with fail
  go_end0
  exact ⟨rfl, by rw [← HE.out, show l ++ (X ++ ([44] ++ Y)) = (l ++ X ++ [44]) ++ Y from by simp]; exact HW5.out, HB5.out, HA5.out⟩

set_option maxRecDepth 100000 in
set_option maxHeartbeats 4000000 in
theorem wr_infix1 (m : Nat) (IH : WrWithin m) (T x y : Tm) (o : R) (ad : Option Addr) (cap : Nat) (w : World) (B b : Nat) (l : List UInt8) (hxy : T.args = [x, y]) (hm : T.size ≤ m + 1) (hM : T.size ≤ 1000000) (hmx : x.may = true) (hmy : y.may = true) (hin : TmP w (fun k => k < B) T ad cap) (hB : B ≤ w.heap.size) (hT : ∀ W, Below B w W → AllT W) (hbw : BW B b l w) (hl : l.length + 1400 * T.size ≤ 2000000010) (hs : T.name.data.toList ≠ [44]) :
    Calls Tryd.prog 54 #[.pointer (some ⟨b, 0, none⟩), tmv T ad cap, .agg #[.int .i64 o.p, .string o.k]] w (Laid B b w (l ++ (x.wr.opd (leftOf o.k o.p) ++ (betweenK T.name.data.toList ++ y.wr.opd (rightOf o.k o.p))))) := by
  have hlt := hbw.lt
  have hl2 : T.args.length = 2 := by rw [hxy]; rfl
  have hsz : T.size = 1 + (x.size + y.size) := by rw [T.size_eq, hxy]; rfl
  obtain ⟨o1, o2, adx, capx, ady, capy, rfl, hinx, hiny, hcell⟩ := two_args (by have h := hin.args; rw [hxy] at h; exact h)
  have hxf := (wr_fits x hinx.n64).2.2 (leftOf o.k o.p)
  have hbl := between_len T.name.data.toList
  have hopx := fun (W : World) (hW : Below B w W) (hbW : BW B b l W) => wr_operand m IH x adx capx W B b l (leftOf o.k o.p) (by omega) (by omega) hmx (hinx.onB hW) (Nat.le_trans hB hW.size) (fun V hV => hT V (hW.trans hV)) hbW (by omega)
  have hopy := fun (l2 : List UInt8) (hl2 : l2.length + 1400 * y.size ≤ 2000000000) (W : World) (hW : Below B w W) (hbW : BW B b l2 W) => wr_operand m IH y ady capy W B b l2 (rightOf o.k o.p) (by omega) (by omega) hmy (hiny.onB hW) (Nat.le_trans hB hW.size) (fun V hV => hT V (hW.trans hV)) hbW hl2
  have hcw := Lib.hid (fun W h => char_Write T.name W hin.name h)
  unfold tmv at hopx hopy ⊢
  rw [hl2]
  have hLn := (x.wr.opd (leftOf o.k o.p)).length
  generalize x.wr.opd (leftOf o.k o.p) = X at *
  generalize y.wr.opd (rightOf o.k o.p) = Y at *
  have HOPX := Lib.hid hopx
  have HOPY := Lib.hid hopy
  have HCELL := Lib.hid hcell
  have HT := Lib.hid hT
  have HBW := Lib.hid hbw
  have HLF := Lib.hid (fun W => ops_Left o.k o.p W)
  have HRT := Lib.hid (fun W => ops_Right o.k o.p W)
  have hb0 : ∀ u v : Obj, Below B w ((w.alloc u).alloc v) := fun u v => ((Below.refl B w).alloc hB u).alloc (by simp; omega) v
  have ha0 : ∀ u v : Obj, Apart b w ((w.alloc u).alloc v) := fun u v => ((Lib.OthersKept.refl 5 (some b) w).alloc u).alloc v
  have hw0 : ∀ u v : Obj, BW B b l ((w.alloc u).alloc v) := fun u v => (hbw.past u).past v
  have hx0 : ∀ u v : Obj, ((w.alloc u).alloc v).heap[w.heap.size]? = some u := fun u v => (Lib.alloc_old _ _ _ (by simp)).trans (heap_alloc_new w u)
  have ho0 : ∀ u v : Obj, ((w.alloc u).alloc v).heap[w.heap.size + 1]? = some v := fun u v => by have h := heap_alloc_new (w.alloc u) v; rw [World.size_alloc] at h; exact h
  have hsb : (T.name.toList == [44]) = false := by rw [ByteArray.toList_eq]; exact beq_eq_false_iff_ne.2 hs
  have eb : betweenK T.name.data.toList = 32 :: (writeL T.name.data.toList ++ [32]) := by unfold betweenK; rw [if_neg hs]
  rw [eb]
  have hwl := write_len T.name.data.toList
  clear hs eb
  obtain ⟨E, hE⟩ : ∃ E, l ++ (X ++ ((32 :: (writeL T.name.data.toList ++ [32])) ++ Y)) = E := ⟨_, rfl⟩
  rw [hE]
  have HE := Lib.hid hE
  clear hE
  clear hopx hopy hcell hT hbw hin hinx hiny hmx hmy IH hxy
  go_enter Tryd.func54, Tryd.ntmps54
  go_wp2_with fail
  have hX := hx0 (.cells #[.int .i64 T.kind, .string T.name, .int .i64 T.n, .slice (some ⟨o1, o2, none⟩) 2 cap] 24) (.cells #[.int .i64 o.p, .string o.k] 51)
  have hO := ho0 (.cells #[.int .i64 T.kind, .string T.name, .int .i64 T.n, .slice (some ⟨o1, o2, none⟩) 2 cap] 24) (.cells #[.int .i64 o.p, .string o.k] 51)
  have hBL := hb0 (.cells #[.int .i64 T.kind, .string T.name, .int .i64 T.n, .slice (some ⟨o1, o2, none⟩) 2 cap] 24) (.cells #[.int .i64 o.p, .string o.k] 51)
  have hAP := ha0 (.cells #[.int .i64 T.kind, .string T.name, .int .i64 T.n, .slice (some ⟨o1, o2, none⟩) 2 cap] 24) (.cells #[.int .i64 o.p, .string o.k] 51)
  have hBW := hw0 (.cells #[.int .i64 T.kind, .string T.name, .int .i64 T.n, .slice (some ⟨o1, o2, none⟩) 2 cap] 24) (.cells #[.int .i64 o.p, .string o.k] 51)
  clear hb0 ha0 hw0 hx0 ho0
  generalize (w.alloc (.cells #[.int .i64 T.kind, .string T.name, .int .i64 T.n, .slice (some ⟨o1, o2, none⟩) 2 cap] 24)).alloc (.cells #[.int .i64 o.p, .string o.k] 51) = W0 at *
  have HX0 := Lib.hid hX
  have HO0 := Lib.hid hO
  have HB0 := Lib.hid hBL
  have HA0 := Lib.hid hAP
  have HW0 := Lib.hid hBW
  have hne0 : w.heap.size ≠ b := by omega
  have hne1 : w.heap.size + 1 ≠ b := by omega
  clear hX hO hBL hAP hBW
  have HS1 : Hid (∀ W : World, W.heap[w.heap.size]? = some (.cells #[.int .i64 T.kind, .string T.name, .int .i64 T.n, .slice (some ⟨o1, o2, none⟩) 2 cap] 24 (0, 0)) → W.heap[w.heap.size + 1]? = some (.cells #[.int .i64 o.p, .string o.k] 51 (0, 0)) → Below B w W → W.cell? ⟨w.heap.size, 3, none⟩ = some (.slice (some ⟨o1, o2, none⟩) 2 cap) ∧ W.cell? ⟨w.heap.size + 1, 0, none⟩ = some (.int .i64 o.p) ∧ W.cell? ⟨w.heap.size + 1, 1, none⟩ = some (.string o.k) ∧ W.cell? ⟨o1, o2, none⟩ = some (.int .i64 x.kind) ∧ W.cell? ⟨o1, o2 + 1, none⟩ = some (.string x.name) ∧ W.cell? ⟨o1, o2 + 2, none⟩ = some (.int .i64 x.n) ∧ W.cell? ⟨o1, o2 + 3, none⟩ = some (.slice adx x.args.length capx)) := Lib.hid (fun W h1 h2 h3 => ⟨(cellx4 h1).2.2.2, (cellx2 h2).1, (cellx2 h2).2, (HCELL.out W h3).1⟩)
  refine wp_region_held_drew (S := (fun W => W.cell? ⟨w.heap.size, 3, none⟩ = some (.slice (some ⟨o1, o2, none⟩) 2 cap) ∧ W.cell? ⟨w.heap.size + 1, 0, none⟩ = some (.int .i64 o.p) ∧ W.cell? ⟨w.heap.size + 1, 1, none⟩ = some (.string o.k) ∧ W.cell? ⟨o1, o2, none⟩ = some (.int .i64 x.kind) ∧ W.cell? ⟨o1, o2 + 1, none⟩ = some (.string x.name) ∧ W.cell? ⟨o1, o2 + 2, none⟩ = some (.int .i64 x.n) ∧ W.cell? ⟨o1, o2 + 3, none⟩ = some (.slice adx x.args.length capx))) (by kernel_rfl) (HS1.out _ HX0.out HO0.out HB0.out.drew) (fun hHeld1 => ?_)
  refine wpAnyH_take (i := 0) (oi := _) (v := ?v2) rfl (by kernel_rfl) (by kernel_rfl) (by kernel_rfl) (fun _ _ _ h => h) (Or.inl ⟨by rfl, ?y2⟩) (by assumption) ?r2
  case y2 => (intro w hSw; (try dsimp only at hSw); go_simp; try with_reducible rfl)
  try simp only [Act.put]
  try simp only [List.setIfInBounds_toArray]
  try simp only [List.set_cons_zero]
  try simp only [List.set_cons_succ]
  try simp only [List.set_cons_zero]
  refine wpAnyH_take (i := 1) (oi := _) (v := ?v3) rfl (by kernel_rfl) (by kernel_rfl) (by kernel_rfl) (fun _ _ _ h => h) (Or.inl ⟨by rfl, ?y3⟩) (by assumption) ?r3
  case y3 => (intro w hSw; (try dsimp only at hSw); go_simp; try with_reducible rfl)
  try simp only [Act.put]
  try simp only [List.setIfInBounds_toArray]
  try simp only [List.set_cons_zero]
  try simp only [List.set_cons_succ]
  try simp only [List.set_cons_zero]
  refine wpAnyH_take (i := 2) (oi := _) (v := ?v4) rfl (by kernel_rfl) (by kernel_rfl) (by kernel_rfl) (fun _ _ _ h => h) (Or.inl ⟨by rfl, ?y4⟩) (by assumption) ?r4
  case y4 => (intro w hSw; (try dsimp only at hSw); go_simp; try with_reducible rfl)
  try simp only [Act.put]
  try simp only [List.setIfInBounds_toArray]
  try simp only [List.set_cons_zero]
  try simp only [List.set_cons_succ]
  try simp only [List.set_cons_zero]
  refine wpAnyH_take (i := 3) (oi := _) (v := ?v5) rfl (by kernel_rfl) (by kernel_rfl) (by kernel_rfl) (fun _ _ _ h => h) (Or.inl ⟨by rfl, ?y5⟩) (by assumption) ?r5
  case y5 => (intro w hSw; (try dsimp only at hSw); go_simp; try with_reducible rfl)
  try simp only [Act.put]
  try simp only [List.setIfInBounds_toArray]
  try simp only [List.set_cons_zero]
  try simp only [List.set_cons_succ]
  try simp only [List.set_cons_zero]
  refine wpAnyH_take (i := 4) (oi := _) (v := ?v6) rfl (by kernel_rfl) (by kernel_rfl) (by kernel_rfl) (fun _ _ _ h => h) (Or.inl ⟨by rfl, ?y6⟩) (by assumption) ?r6
  case y6 => (intro w hSw; (try dsimp only at hSw); go_simp; try with_reducible rfl)
  try simp only [Act.put]
  try simp only [List.setIfInBounds_toArray]
  try simp only [List.set_cons_zero]
  try simp only [List.set_cons_succ]
  try simp only [List.set_cons_zero]
  refine wpAnyH_take (i := 5) (oi := _) (v := ?v7) rfl (by kernel_rfl) (by kernel_rfl) (by kernel_rfl) (fun _ _ _ h => h) (Or.inl ⟨by rfl, ?y7⟩) (by assumption) ?r7
  case y7 => (intro w hSw; (try dsimp only at hSw); go_simp; try with_reducible rfl)
  try simp only [Act.put]
  try simp only [List.setIfInBounds_toArray]
  try simp only [List.set_cons_zero]
  try simp only [List.set_cons_succ]
  try simp only [List.set_cons_zero]
  refine wpAnyH_ready (rs := [6]) (by kernel_rfl) (by simp) ?_
  refine AllReadyH.cons (o := _) rfl (fun K hK => ?_) AllReadyH.nil
  go_simp
  (with_reducible refine (HLF.out _).mono ?_); rintro e y1 ⟨rfl, c1⟩
  have d1 := (Below.drew (Below.refl W0.heap.size W0)).trans c1
  have HXy1 := Lib.hid ((d1.block w.heap.size (Array.getElem?_eq_some_iff.1 HX0.out).1).trans HX0.out)
  have HOy1 := Lib.hid ((d1.block (w.heap.size + 1) (Array.getElem?_eq_some_iff.1 HO0.out).1).trans HO0.out)
  have HBy1 := Lib.hid (HB0.out.trans (d1.mono (Nat.le_trans hB HB0.out.size)))
  have HAy1 := Lib.hid (apart_on HA0.out d1)
  have HWy1 := Lib.hid (HW0.out.on d1)
  clear c1 d1
  try go_wp2_with fail
  refine hK.out _ _ (HS1.out _ HXy1.out HOy1.out HBy1.out) (fun hHeld8 => ?_)
  clear hK K hHeld1
  try simp only [Act.put]
  try simp only [List.setIfInBounds_toArray]
  try simp only [List.set_cons_zero]
  try simp only [List.set_cons_succ]
  try simp only [List.set_cons_zero]
  refine wpAnyH_ready (rs := [7]) (by kernel_rfl) (by simp) ?_
  refine AllReadyH.cons (o := _) rfl (fun K hK => ?_) AllReadyH.nil
  go_simp
  (with_reducible refine (HOPX.out _ HBy1.out HWy1.out).mono ?_); rintro e W1 ⟨rfl, hbw1, hbl1, hap1⟩
  have HX1 := Lib.hid (apart_keep hap1 HXy1.out (by decide) hne0)
  have HO1 := Lib.hid (apart_keep hap1 HOy1.out (by decide) hne1)
  have HB1 := Lib.hid (HBy1.out.trans hbl1)
  have HA1 := Lib.hid (HAy1.out.trans hap1)
  have HW1 := Lib.hid hbw1
  clear hbw1 hbl1 hap1
  try go_wp2_with fail
  refine hK.out _ _ (HS1.out _ HX1.out HO1.out HB1.out) (fun hHeld9 => ?_)
  clear hK K hHeld8
  try simp only [Act.put]
  try simp only [List.setIfInBounds_toArray]
  try simp only [List.set_cons_zero]
  try simp only [List.set_cons_succ]
  try simp only [List.set_cons_zero]
  refine wpAnyH_done (by kernel_rfl) ?_ _
  obtain ⟨f0, f1, f2, f3⟩ := cellx4 HX1.out
  go_wp2_with fail
  refine (hcw.out _ (HT.out _ HB1.out).u).mono ?_
  rintro e W2 ⟨rfl, hb2⟩
  have HX2 := (hb2.block w.heap.size (Array.getElem?_eq_some_iff.1 HX1.out).1).trans HX1.out
  have HO2 := (hb2.block (w.heap.size + 1) (Array.getElem?_eq_some_iff.1 HO1.out).1).trans HO1.out
  have HB2 := HB1.out.trans (hb2.mono (Nat.le_trans hB HB1.out.size))
  have HA2 := apart_on HA1.out hb2
  have hbw2 := HW1.out.on hb2
  clear hb2 f0 f1 f2 f3
  go_wp2_with fail
  refine (wr_lay3 B b _ _ _ _ _ W2 (by simp) hbw2 (by rw [List.length_append]; show _ + (1 + ((writeL T.name.data.toList).toArray.size + 1)) ≤ _; rw [List.size_toArray]; omega) (Nat.le_trans hB HB2.size)).mono ?_
  rintro e W4 ⟨rfl, hbw4, hbl4, hap4⟩
  have HX4 := Lib.hid (apart_keep hap4 HX2 (by decide) hne0)
  have HO4 := Lib.hid (apart_keep hap4 HO2 (by decide) hne1)
  have HB4 := Lib.hid (HB2.trans hbl4)
  have HA4 := Lib.hid (HA2.trans hap4)
  have HW4 := Lib.hid (show BW B b (l ++ X ++ (32 :: (writeL T.name.data.toList ++ [32]))) W4 from by
    have e : (⟨#[32]⟩ : ByteArray).data.toList ++ ((⟨(writeL T.name.data.toList).toArray⟩ : ByteArray).data.toList ++ (⟨#[32]⟩ : ByteArray).data.toList) = 32 :: (writeL T.name.data.toList ++ [32]) := by simp
    rw [e] at hbw4
    exact hbw4)
  have hly : (l ++ X ++ (32 :: (writeL T.name.data.toList ++ [32]))).length + 1400 * y.size ≤ 2000000000 := by simp only [List.length_append, List.length_cons, List.length_nil]; omega
  clear hbw4 hbl4 hap4 HX2 HO2 HB2 HA2 hbw2
  go_wp2_with fail
  have HS2 : Hid (∀ W : World, W.heap[w.heap.size]? = some (.cells #[.int .i64 T.kind, .string T.name, .int .i64 T.n, .slice (some ⟨o1, o2, none⟩) 2 cap] 24 (0, 0)) → W.heap[w.heap.size + 1]? = some (.cells #[.int .i64 o.p, .string o.k] 51 (0, 0)) → Below B w W → W.cell? ⟨w.heap.size, 3, none⟩ = some (.slice (some ⟨o1, o2, none⟩) 2 cap) ∧ W.cell? ⟨w.heap.size + 1, 0, none⟩ = some (.int .i64 o.p) ∧ W.cell? ⟨w.heap.size + 1, 1, none⟩ = some (.string o.k) ∧ W.cell? ⟨o1, o2 + 4, none⟩ = some (.int .i64 y.kind) ∧ W.cell? ⟨o1, o2 + 4 + 1, none⟩ = some (.string y.name) ∧ W.cell? ⟨o1, o2 + 4 + 2, none⟩ = some (.int .i64 y.n) ∧ W.cell? ⟨o1, o2 + 4 + 3, none⟩ = some (.slice ady y.args.length capy)) := Lib.hid (fun W h1 h2 h3 => ⟨(cellx4 h1).2.2.2, (cellx2 h2).1, (cellx2 h2).2, (HCELL.out W h3).2⟩)
  refine wp_region_held_drew (S := (fun W => W.cell? ⟨w.heap.size, 3, none⟩ = some (.slice (some ⟨o1, o2, none⟩) 2 cap) ∧ W.cell? ⟨w.heap.size + 1, 0, none⟩ = some (.int .i64 o.p) ∧ W.cell? ⟨w.heap.size + 1, 1, none⟩ = some (.string o.k) ∧ W.cell? ⟨o1, o2 + 4, none⟩ = some (.int .i64 y.kind) ∧ W.cell? ⟨o1, o2 + 4 + 1, none⟩ = some (.string y.name) ∧ W.cell? ⟨o1, o2 + 4 + 2, none⟩ = some (.int .i64 y.n) ∧ W.cell? ⟨o1, o2 + 4 + 3, none⟩ = some (.slice ady y.args.length capy))) (by kernel_rfl) (HS2.out _ HX4.out HO4.out HB4.out.drew) (fun hHeld10 => ?_)
  refine wpAnyH_take (i := 0) (oi := _) (v := ?v11) rfl (by kernel_rfl) (by kernel_rfl) (by kernel_rfl) (fun _ _ _ h => h) (Or.inl ⟨by rfl, ?y11⟩) (by assumption) ?r11
  case y11 => (intro w hSw; (try dsimp only at hSw); go_simp; try with_reducible rfl)
  try simp only [Act.put]
  try simp only [List.setIfInBounds_toArray]
  try simp only [List.set_cons_zero]
  try simp only [List.set_cons_succ]
  try simp only [List.set_cons_zero]
  refine wpAnyH_take (i := 1) (oi := _) (v := ?v12) rfl (by kernel_rfl) (by kernel_rfl) (by kernel_rfl) (fun _ _ _ h => h) (Or.inl ⟨by rfl, ?y12⟩) (by assumption) ?r12
  case y12 => (intro w hSw; (try dsimp only at hSw); go_simp; try with_reducible rfl)
  try simp only [Act.put]
  try simp only [List.setIfInBounds_toArray]
  try simp only [List.set_cons_zero]
  try simp only [List.set_cons_succ]
  try simp only [List.set_cons_zero]
  refine wpAnyH_take (i := 2) (oi := _) (v := ?v13) rfl (by kernel_rfl) (by kernel_rfl) (by kernel_rfl) (fun _ _ _ h => h) (Or.inl ⟨by rfl, ?y13⟩) (by assumption) ?r13
  case y13 => (intro w hSw; (try dsimp only at hSw); go_simp; try with_reducible rfl)
  try simp only [Act.put]
  try simp only [List.setIfInBounds_toArray]
  try simp only [List.set_cons_zero]
  try simp only [List.set_cons_succ]
  try simp only [List.set_cons_zero]
  refine wpAnyH_take (i := 3) (oi := _) (v := ?v14) rfl (by kernel_rfl) (by kernel_rfl) (by kernel_rfl) (fun _ _ _ h => h) (Or.inl ⟨by rfl, ?y14⟩) (by assumption) ?r14
  case y14 => (intro w hSw; (try dsimp only at hSw); go_simp; try with_reducible rfl)
  try simp only [Act.put]
  try simp only [List.setIfInBounds_toArray]
  try simp only [List.set_cons_zero]
  try simp only [List.set_cons_succ]
  try simp only [List.set_cons_zero]
  refine wpAnyH_take (i := 4) (oi := _) (v := ?v15) rfl (by kernel_rfl) (by kernel_rfl) (by kernel_rfl) (fun _ _ _ h => h) (Or.inl ⟨by rfl, ?y15⟩) (by assumption) ?r15
  case y15 => (intro w hSw; (try dsimp only at hSw); go_simp; try with_reducible rfl)
  try simp only [Act.put]
  try simp only [List.setIfInBounds_toArray]
  try simp only [List.set_cons_zero]
  try simp only [List.set_cons_succ]
  try simp only [List.set_cons_zero]
  refine wpAnyH_take (i := 5) (oi := _) (v := ?v16) rfl (by kernel_rfl) (by kernel_rfl) (by kernel_rfl) (fun _ _ _ h => h) (Or.inl ⟨by rfl, ?y16⟩) (by assumption) ?r16
  case y16 => (intro w hSw; (try dsimp only at hSw); go_simp; try with_reducible rfl)
  try simp only [Act.put]
  try simp only [List.setIfInBounds_toArray]
  try simp only [List.set_cons_zero]
  try simp only [List.set_cons_succ]
  try simp only [List.set_cons_zero]
  refine wpAnyH_ready (rs := [6]) (by kernel_rfl) (by simp) ?_
  refine AllReadyH.cons (o := _) rfl (fun K hK => ?_) AllReadyH.nil
  go_simp
  (with_reducible refine (HRT.out _).mono ?_); rintro e y2 ⟨rfl, c2⟩
  have d2 := (Below.drew (Below.refl W4.heap.size W4)).trans c2
  have HXy2 := Lib.hid ((d2.block w.heap.size (Array.getElem?_eq_some_iff.1 HX4.out).1).trans HX4.out)
  have HOy2 := Lib.hid ((d2.block (w.heap.size + 1) (Array.getElem?_eq_some_iff.1 HO4.out).1).trans HO4.out)
  have HBy2 := Lib.hid (HB4.out.trans (d2.mono (Nat.le_trans hB HB4.out.size)))
  have HAy2 := Lib.hid (apart_on HA4.out d2)
  have HWy2 := Lib.hid (HW4.out.on d2)
  clear c2 d2
  try go_wp2_with fail
  refine hK.out _ _ (HS2.out _ HXy2.out HOy2.out HBy2.out) (fun hHeld17 => ?_)
  clear hK K hHeld10
  try simp only [Act.put]
  try simp only [List.setIfInBounds_toArray]
  try simp only [List.set_cons_zero]
  try simp only [List.set_cons_succ]
  try simp only [List.set_cons_zero]
  refine wpAnyH_ready (rs := [7]) (by kernel_rfl) (by simp) ?_
  refine AllReadyH.cons (o := _) rfl (fun K hK => ?_) AllReadyH.nil
  go_simp
  (with_reducible refine (HOPY.out _ hly _ HBy2.out HWy2.out).mono ?_); rintro e W5 ⟨rfl, hbw5, hbl5, hap5⟩
  have HX5 := Lib.hid (apart_keep hap5 HXy2.out (by decide) hne0)
  have HO5 := Lib.hid (apart_keep hap5 HOy2.out (by decide) hne1)
  have HB5 := Lib.hid (HBy2.out.trans hbl5)
  have HA5 := Lib.hid (HAy2.out.trans hap5)
  have HW5 := Lib.hid hbw5
  clear hbw5 hbl5 hap5
  try go_wp2_with fail
  refine hK.out _ _ (HS2.out _ HX5.out HO5.out HB5.out) (fun hHeld18 => ?_)
  clear hK K hHeld17
  try simp only [Act.put]
  try simp only [List.setIfInBounds_toArray]
  try simp only [List.set_cons_zero]
  try simp only [List.set_cons_succ]
  try simp only [List.set_cons_zero]
  refine wpAnyH_done (by kernel_rfl) ?_ _
  go_wp2_with fail
  go_end0
  exact ⟨rfl, by rw [← HE.out, show l ++ (X ++ ((32 :: (writeL T.name.data.toList ++ [32])) ++ Y)) = (l ++ X ++ (32 :: (writeL T.name.data.toList ++ [32]))) ++ Y from by simp]; exact HW5.out, HB5.out, HA5.out⟩

theorem wr_infix (m : Nat) (IH : WrWithin m) (T x y : Tm) (o : R) (ad : Option Addr) (cap : Nat) (w : World) (B b : Nat) (l : List UInt8) (hxy : T.args = [x, y]) (hm : T.size ≤ m + 1) (hM : T.size ≤ 1000000) (hmx : x.may = true) (hmy : y.may = true) (hin : TmP w (fun k => k < B) T ad cap) (hB : B ≤ w.heap.size) (hT : ∀ W, Below B w W → AllT W) (hbw : BW B b l w) (hl : l.length + 1400 * T.size ≤ 2000000010) :
    Calls Tryd.prog 54 #[.pointer (some ⟨b, 0, none⟩), tmv T ad cap, .agg #[.int .i64 o.p, .string o.k]] w (Laid B b w (l ++ (x.wr.opd (leftOf o.k o.p) ++ (betweenK T.name.data.toList ++ y.wr.opd (rightOf o.k o.p))))) := by
  by_cases h : T.name.data.toList = [44]
  · exact wr_infix0 m IH T x y o ad cap w B b l hxy hm hM hmx hmy hin hB hT hbw hl h
  · exact wr_infix1 m IH T x y o ad cap w B b l hxy hm hM hmx hmy hin hB hT hbw hl h
end Go.Proofs.YtdjejbgokamjeaaDoor
