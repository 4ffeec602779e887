/-
  The contract of the closure of package read's own named: a Comp's arguments.
-/
import Derived.Test.YtlbdocdjijhkbaaGreatDoorReadG
namespace Go.Proofs.YtlbdocdjijhkbaaGreatDoor
open Go.RowKit
attribute [-go_sem] sliced

theorem RGo.cell {r : Nat} {v v' : Value} {w w' : World} (h : RGo r v w v' w') {b i : Nat} {u : Value} (hc : w.cell? ⟨b, i, none⟩ = some u) (hr : b ≠ r) (hv : some b ≠ v.ownBlock) : w'.cell? ⟨b, i, none⟩ = some u :=
  (World.cell?_of_block (w := w) (w' := w') (a := ⟨b, i, none⟩) (h.keep b (World.block_lt_of_cell? w ⟨b, i, none⟩ hc) hr hv)).trans hc
theorem below_cell {w w' : World} (h : Below w.heap.size w w') {b i : Nat} {u : Value} (hc : w.cell? ⟨b, i, none⟩ = some u) : w'.cell? ⟨b, i, none⟩ = some u :=
  (h.cell (p := ⟨b, i, none⟩) (World.block_lt_of_cell? w ⟨b, i, none⟩ hc)).trans hc
theorem cell_set4 {w : World} {q b i : Nat} (h : b ≠ q) (u0 u1 u2 u3 : Value) : ((((w.setCell ⟨q, 0, none⟩ u0).setCell ⟨q, 1, none⟩ u1).setCell ⟨q, 2, none⟩ u2).setCell ⟨q, 3, none⟩ u3).cell? ⟨b, i, none⟩ = w.cell? ⟨b, i, none⟩ :=
  World.cell?_of_block (by rw [Below.heap_setCell _ _ _ _ (show b ≠ q from h), Below.heap_setCell _ _ _ _ (show b ≠ q from h), Below.heap_setCell _ _ _ _ (show b ≠ q from h), Below.heap_setCell _ _ _ _ (show b ≠ q from h)])
theorem TArgsP.on {B : Nat} {v : Value} {w w' : World} {ad : Option Addr} {l : List Tm} (h : TArgsP w (fun b => B ≤ b ∧ some b ≠ v.ownBlock) ad l) (hb : Below w.heap.size w w') : TArgsP w' (fun b => B ≤ b ∧ some b ≠ v.ownBlock) ad l :=
  h.kept (fun b _ hlt => hb.block b hlt) (fun _ hp _ => hp)

set_option maxRecDepth 100000 in
set_option maxHeartbeats 4000000 in
theorem rd_args {m : Nat} {W : Rdr} (hW : GoodW W m) (hC : WithinC m W) (hM : m ≤ 10000) (ts : List Tok) (ns : Nms) (w : World) (r R X : Nat) (v : Value) (s : List UInt8) (hs : s.length ≤ 10000) (hm : ts.length ≤ m) (hf : Fine ts) (hn : ns.length ≤ 200) (h : RMem w r v ts ns)
    (hR : w.cell? ⟨R, 0, none⟩ = some (.pointer (some ⟨r, 0, none⟩))) (hRr : R ≠ r) (hRv : some R ≠ v.ownBlock) (hX : w.cell? ⟨X, 1, none⟩ = some (.string ⟨s.toArray⟩)) (hXr : X ≠ r) (hXv : some X ≠ v.ownBlock) :
    Calls Tryz.prog 140 #[.pointer (some ⟨X, 0, none⟩), .pointer (some ⟨R, 0, none⟩)] w fun e w' => ROut r v w ((manyR W 16 ts ns).bind fun l ts' ns' => .ok (compT s l) ts' ns') e w' := by
  have hlt := h.lt
  have hnew := h.new_ne (Nat.le_refl _)
  have HB := Lib.hid (fun o : Obj => (Below.refl w.heap.size w).alloc (Nat.le_refl _) o)
  have HC : Hid (∀ W', Below w.heap.size w W' → Calls Tryz.prog 141 #[.pointer (some ⟨r, 0, none⟩), .int .i64 16] W' fun e w' => RList r v W' (manyR W 16 ts ns) e w') := Lib.hid (fun W' (hb : Below w.heap.size w W') => rd_several hW hC hM 16 ts ns W' r v hm hf hn (h.below hb))
  have HQ := Lib.hid (newR w (.cells #[.int .i64 0, .string ⟨#[]⟩, .int .i64 0, .slice none 0 0] 30))
  have HR := Lib.hid hR
  have HX := Lib.hid hX
  have hRl : R < w.heap.size := World.block_lt_of_cell? w ⟨R, 0, none⟩ hR
  have hXl : X < w.heap.size := World.block_lt_of_cell? w ⟨X, 1, none⟩ hX
  have hRq : R ≠ w.heap.size := by omega
  have hXq : X ≠ w.heap.size := by omega
  have HCB := Lib.hid (fun (w1 : World) (v1 : Value) (l : List Tm) (ad : Option Addr) (cap : Nat) (h1 : l.length ≤ cap) (h2 : cap ≤ maxLen) (h3 : TArgsP w1 (fun b => w.heap.size + 1 ≤ b ∧ some b ≠ v1.ownBlock) ad l) => compB (s := s) hs h1 h2 h3)
  clear h hC hW hf hR hX
  cases hx : manyR W 16 ts ns with
  | bad o =>
    rw [hx] at HC
    rw [Rd.bind_bad]
    clear HCB
    generalize (⟨s.toArray⟩ : ByteArray) = u at *
    have HD := Lib.hid ((HB.out (.cells #[.int .i64 0, .string ⟨#[]⟩, .int .i64 0, .slice none 0 0] 30)).drew)
    have HX0 := Lib.hid (below_cell HD.out HX.out)
    have HR0 := Lib.hid (below_cell HD.out HR.out)
    clear hx
    go_enter Tryz.func140, Tryz.ntmps140
    go_wp2_with fail
    refine wp_region_held_drew (S := (fun W => W.cell? ⟨X, 1, none⟩ = some (.string u) ∧ W.cell? ⟨R, 0, none⟩ = some (.pointer (some ⟨r, 0, none⟩)))) (by kernel_rfl) ⟨HX0.out, HR0.out⟩ (fun hHeld1 => ?_)
    refine wpAnyH_take (i := 0) (oi := _) (v := ?v2) rfl (by kernel_rfl) (by kernel_rfl) (by kernel_rfl) (fun _ _ _ h => h) (Or.inl ⟨by rfl, ?y2⟩) (by assumption) ?r2
    case y2 => (intro w hSw; (try dsimp only at hSw); go_simp; try with_reducible rfl)
    try simp only [Act.put]
    try simp only [List.setIfInBounds_toArray]
    try simp only [List.set_cons_zero]
    try simp only [List.set_cons_succ]
    try simp only [List.set_cons_zero]
    refine wpAnyH_take (i := 1) (oi := _) (v := ?v3) rfl (by kernel_rfl) (by kernel_rfl) (by kernel_rfl) (fun _ _ _ h => h) (Or.inl ⟨by rfl, ?y3⟩) (by assumption) ?r3
    case y3 => (intro w hSw; (try dsimp only at hSw); go_simp; try with_reducible rfl)
    try simp only [Act.put]
    try simp only [List.setIfInBounds_toArray]
    try simp only [List.set_cons_zero]
    try simp only [List.set_cons_succ]
    try simp only [List.set_cons_zero]
    refine wpAnyH_take (i := 2) (oi := _) (v := ?v4) rfl (by kernel_rfl) (by kernel_rfl) (by kernel_rfl) (fun _ _ _ h => h) (Or.inl ⟨by rfl, ?y4⟩) (by assumption) ?r4
    case y4 => (intro w hSw; (try dsimp only at hSw); go_simp; try with_reducible rfl)
    try simp only [Act.put]
    try simp only [List.setIfInBounds_toArray]
    try simp only [List.set_cons_zero]
    try simp only [List.set_cons_succ]
    try simp only [List.set_cons_zero]
    refine wpAnyH_ready (rs := [3]) (by kernel_rfl) (by simp) ?_
    refine AllReadyH.cons (o := _) rfl (fun K hK => ?_) AllReadyH.nil
    go_simp
    (with_reducible refine (HC.out _ HD.out).mono ?_); rintro e w1 ⟨rfl, hb⟩
    exact ⟨rfl, rfl, (HD.out.mono (Nat.le_of_lt hlt)).trans hb⟩
  | ok l ts1 ns1 =>
    rw [hx] at HC
    rw [Rd.bind_ok]
    have HTV : Hid (∀ ad cap, tmv (compT s l) ad cap = .agg #[.int .i64 4, .string ⟨s.toArray⟩, .int .i64 0, .slice ad l.length cap]) := Lib.hid (fun ad cap => rfl)
    generalize (⟨s.toArray⟩ : ByteArray) = u at *
    have HD := Lib.hid ((HB.out (.cells #[.int .i64 0, .string ⟨#[]⟩, .int .i64 0, .slice none 0 0] 30)).drew)
    have HX0 := Lib.hid (below_cell HD.out HX.out)
    have HR0 := Lib.hid (below_cell HD.out HR.out)
    clear hx
    go_enter Tryz.func140, Tryz.ntmps140
    go_wp2_with fail
    refine wp_region_held_drew (S := (fun W => W.cell? ⟨X, 1, none⟩ = some (.string u) ∧ W.cell? ⟨R, 0, none⟩ = some (.pointer (some ⟨r, 0, none⟩)))) (by kernel_rfl) ⟨HX0.out, HR0.out⟩ (fun hHeld5 => ?_)
    refine wpAnyH_take (i := 0) (oi := _) (v := ?v6) rfl (by kernel_rfl) (by kernel_rfl) (by kernel_rfl) (fun _ _ _ h => h) (Or.inl ⟨by rfl, ?y6⟩) (by assumption) ?r6
    case y6 => (intro w hSw; (try dsimp only at hSw); go_simp; try with_reducible rfl)
    try simp only [Act.put]
    try simp only [List.setIfInBounds_toArray]
    try simp only [List.set_cons_zero]
    try simp only [List.set_cons_succ]
    try simp only [List.set_cons_zero]
    refine wpAnyH_take (i := 1) (oi := _) (v := ?v7) rfl (by kernel_rfl) (by kernel_rfl) (by kernel_rfl) (fun _ _ _ h => h) (Or.inl ⟨by rfl, ?y7⟩) (by assumption) ?r7
    case y7 => (intro w hSw; (try dsimp only at hSw); go_simp; try with_reducible rfl)
    try simp only [Act.put]
    try simp only [List.setIfInBounds_toArray]
    try simp only [List.set_cons_zero]
    try simp only [List.set_cons_succ]
    try simp only [List.set_cons_zero]
    refine wpAnyH_take (i := 2) (oi := _) (v := ?v8) rfl (by kernel_rfl) (by kernel_rfl) (by kernel_rfl) (fun _ _ _ h => h) (Or.inl ⟨by rfl, ?y8⟩) (by assumption) ?r8
    case y8 => (intro w hSw; (try dsimp only at hSw); go_simp; try with_reducible rfl)
    try simp only [Act.put]
    try simp only [List.setIfInBounds_toArray]
    try simp only [List.set_cons_zero]
    try simp only [List.set_cons_succ]
    try simp only [List.set_cons_zero]
    refine wpAnyH_ready (rs := [3]) (by kernel_rfl) (by simp) ?_
    refine AllReadyH.cons (o := _) rfl (fun K hK => ?_) AllReadyH.nil
    go_simp
    (with_reducible refine (HC.out _ HD.out).mono ?_); rintro e w1 ⟨v1, ad, cap, rfl, g1, g2, hm1, hg1, ht1⟩
    have HX1 := Lib.hid (hg1.cell HX0.out hXr hXv)
    have HR1 := Lib.hid (hg1.cell HR0.out hRr hRv)
    have HQ1 := Lib.hid (hg1.at HQ.out hnew.1 hnew.2)
    have HM1 := Lib.hid hm1
    have HT1 := Lib.hid ht1
    have hv1 := hg1.ne (b := w.heap.size) (by show _ < (w.alloc _).heap.size; simp) hnew.2
    have HG1 := Lib.hid ((RGo.of_below (r := r) (v := v) HD.out (Nat.le_of_lt hlt)).trans hg1)
    clear hm1 hg1 ht1
    try go_wp2_with fail
    refine hK.out _ _ ⟨HX1.out, HR1.out⟩ (fun hHeld9 => ?_)
    clear hK K hHeld5
    try simp only [Act.put]
    try simp only [List.setIfInBounds_toArray]
    try simp only [List.set_cons_zero]
    try simp only [List.set_cons_succ]
    try simp only [List.set_cons_zero]
    refine wpAnyH_ready (rs := [4]) (by kernel_rfl) (by simp) ?_
    refine AllReadyH.cons (o := _) rfl (fun K hK => ?_) AllReadyH.nil
    go_simp
    (with_reducible refine (rd_comp _ _ _ _ _).mono ?_); rintro e w2 ⟨rfl, hb2⟩
    have HX2 := Lib.hid (below_cell hb2 HX1.out)
    have HR2 := Lib.hid (below_cell hb2 HR1.out)
    have hq2 := keptR hb2 HQ1.out
    obtain ⟨d0, d1, d2, d3, e0, e1, e2, e3⟩ := cellsR4 hq2
    have HB2 := Lib.hid hb2
    clear hb2 hq2
    try go_wp2_with fail
    refine hK.out _ _ ⟨HX2.out, HR2.out⟩ (fun hHeld10 => ?_)
    clear hK K hHeld9
    try simp only [Act.put]
    try simp only [List.setIfInBounds_toArray]
    try simp only [List.set_cons_zero]
    try simp only [List.set_cons_succ]
    try simp only [List.set_cons_zero]
    refine wpAnyH_ready (rs := [5]) (by kernel_rfl) (by simp) ?_
    refine AllReadyH.cons (o := _) rfl (fun K hK => ?_) AllReadyH.nil
    go_simp
    try go_wp2_with fail
    refine hK.out _ _ ⟨(cell_set4 hXq _ _ _ _).trans HX2.out, (cell_set4 hRq _ _ _ _).trans HR2.out⟩ (fun hHeld11 => ?_)
    clear hK K hHeld10
    try simp only [Act.put]
    try simp only [List.setIfInBounds_toArray]
    try simp only [List.set_cons_zero]
    try simp only [List.set_cons_succ]
    try simp only [List.set_cons_zero]
    refine wpAnyH_done (by kernel_rfl) ?_ _
    try go_wp2_with fail
    refine bodyPost_ret (v := .agg #[.int .i64 4, .string u, .int .i64 0, .slice ad l.length cap]) (by simp [results, Tryz.results140, go_sem, d0, d1, d2, d3]) rfl ⟨v1, ad, cap, by rw [HTV.out], ?_⟩
    exact ROk.fin (HM1.out.below HB2.out) (HG1.out.trans (RGo.of_below HB2.out (by have := HM1.out.lt; omega))) (HCB.out _ _ _ _ _ g1 g2 ((HT1.out.kept (fun _ _ _ => rfl) (fun b hp _ => ⟨by have h := hp.1; simpa using h, hp.2⟩)).on HB2.out)) hlt (Nat.le_refl _) (by omega) hv1 _ _ _ _
end Go.Proofs.YtlbdocdjijhkbaaGreatDoor
