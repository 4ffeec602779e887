/-
  The contract of package read's own named: a negative integer.
-/
import Derived.Test.YtlbdocdjijhkbaaGreatDoorReadO
import Derived.Deep.DeepCutAuto
namespace Go.Proofs.YtlbdocdjijhkbaaGreatDoor
open Go.RowKit
attribute [-go_sem] sliced

set_option maxRecDepth 100000 in
set_option maxHeartbeats 8000000 in
theorem rd_named_neg {m : Nat} (hM : m ≤ 10000) (p : Int) (ts : List Tok) (ns : Nms) (w : World) (r : Nat) (v : Value) (hm : ts.length ≤ m + 1) (hf : Fine ts) (hk : (fstT ts).isAtom = true) (h : RMem w r v ts ns)  (h3 : (fstT ts).kind = 3) (h45 : (fstT ts).text = [45]) (h5 : (fstT ts.tail).kind = 5) (hp : (fstT ts.tail).pos = (fstT ts).pos + 1) :
    Calls Tryz.prog 119 #[.pointer (some ⟨r, 0, none⟩), .int .i64 p] w fun e w' => ROut2 r v w (.ok (intT (wrap64 (-(fstT ts.tail).n)), 0) ts.tail.tail ns) e w' := by
  have hlt := h.lt
  have h2 := hf.two (atom_not9 hk)
  obtain ⟨hft, hl2⟩ := hf.tail (atom_not9 hk)
  have hm2 : ts.tail.length ≤ m := by omega
  have hft1 := hft.pos
  have HH := Lib.hid (fun W' (hb : Below w.heap.size w W') => h.below hb)
  have hnewR := h.new_ne (b := w.heap.size) (Nat.le_refl _)
  have hnewq := h.new_ne (b := w.heap.size + 1) (Nat.le_succ _)
  have HNEW := Lib.hid (fun b (hb : w.heap.size ≤ b) => h.new_ne hb)
  obtain ⟨g, k, cap, hgr, hr, hlc, hcm, htr⟩ := h.ex
  have hgl : g < w.heap.size := by omega
  obtain ⟨r0, _, _, _⟩ := cellsR2 hr
  obtain ⟨c0, c1, c2, c3, htr2⟩ := htr.first hf.pos
  obtain ⟨c4, c5, c6, c7, _⟩ := htr2.first hft.pos
  have HTR := Lib.hid htr2
  have hL0 : 0 < ts.length := by omega
  have hL1 : (1 : Int) < (ts.length : Int) := by omega
  have hcap2 : 2 ≤ cap := by omega
  have hmf : ∀ (fn : Fn) (first cap : Array Value) (w : World), (Instr.makeFunc fn first cap).run Tryz.prog w = .ok (.func fn first cap) w := fun _ _ _ _ => rfl
  have HB := Lib.hid (fun o o2 : Obj => ((Below.refl w.heap.size w).alloc (Nat.le_refl _) o).alloc (by simp) o2)
  have HS1 : Hid (∀ W', Below w.heap.size w W' → W'.cell? ⟨r, 0, none⟩ = w.cell? ⟨r, 0, none⟩ ∧ ∀ i, W'.cell? ⟨g, i, none⟩ = w.cell? ⟨g, i, none⟩) := Lib.hid (fun W' hb => ⟨hb.cell (p := ⟨r, 0, none⟩) hlt, fun i => hb.cell (p := ⟨g, i, none⟩) hgl⟩)
  have HPS := Lib.hid (fun W' hm' => rd_pass W' r v ts ns hm' h2)
  obtain ⟨hft2, hl3⟩ := hft.tail (by rw [h5]; decide)
  have HPT := Lib.hid (fun W' v' hm' => rd_pass W' r v' ts.tail ns hm' (hft.two (by rw [h5]; decide)))
  have HN := Lib.hid (show In64 (wrap64 (-(fstT ts.tail).n)) from by unfold wrap64 In64; omega)
  have hpos := hf.first.pos
  clear hf hft hft2 hk
  generalize fstT ts.tail = t1 at *
  generalize fstT ts = t0 at *
  obtain ⟨xk, xl, xn, xp⟩ := t0
  obtain ⟨yk, yl, yn, yp⟩ := t1
  dsimp only at *
  generalize (⟨yl.toArray⟩ : ByteArray) = yt at *
  have hb7 : (yk == 7) = false := by rw [h5]; rfl
  have hb3 : (xk == 3) = true := by rw [h3]; rfl
  have hb5 : (yk == 5) = true := by rw [h5]; rfl
  have hb4 : ((⟨xl.toArray⟩ : ByteArray).toList == [45]) = true := by rw [text_is, h45]; rfl
  have hbp : ((yp : Int) == (xp : Int) + 1) = true := by rw [hp]; simp
  clear h3 h5 h45 hp
  generalize (⟨xl.toArray⟩ : ByteArray) = xt at *
  generalize hLn : ts.length = L at *
  have HLN := Lib.hid hLn
  clear hLn h hr htr htr2
  have HS0 : Hid (∀ W, Below w.heap.size w W → W.cell? ⟨r, 0, none⟩ = some (.slice (some ⟨g, k, none⟩) L cap) ∧ W.cell? ⟨g, k, none⟩ = some (.int .i64 xk) ∧ W.cell? ⟨g, k + 1, none⟩ = some (.string xt) ∧ W.cell? ⟨g, k + 2, none⟩ = some (.int .i64 xn) ∧ W.cell? ⟨g, k + 3, none⟩ = some (.int .i64 (xp : Nat)) ∧ W.cell? ⟨g, k + 4, none⟩ = some (.int .i64 yk) ∧ W.cell? ⟨g, k + 4 + 1, none⟩ = some (.string yt) ∧ W.cell? ⟨g, k + 4 + 2, none⟩ = some (.int .i64 yn) ∧ W.cell? ⟨g, k + 4 + 3, none⟩ = some (.int .i64 (yp : Nat))) := Lib.hid (fun W hb => by obtain ⟨q1, q2⟩ := HS1.out W hb; rw [q1, q2, q2, q2, q2, q2, q2, q2, q2]; exact ⟨r0, c0, c1, c2, c3, c4, c5, c6, c7⟩)
  clear r0 c0 c1 c2 c3 c4 c5 c6 c7
  go_enter Tryz.func119, Tryz.ntmps119
  go_wp2_with fail
  generalize hw1 : (w.alloc (.cells #[.pointer (some ⟨r, 0, none⟩)] 53)).alloc (.cells #[.int .i64 0, .string ⟨#[]⟩, .int .i64 0, .slice none 0 0] 30) = w1
  have hb01 : Below w.heap.size w w1 := by rw [← hw1]; exact HB.out _ _
  have hs01 : w1.heap.size = w.heap.size + 2 := by rw [← hw1]; simp
  have hR1 : w1.heap[w.heap.size]? = some (.cells #[.pointer (some ⟨r, 0, none⟩)] 53 (0, 0)) := by rw [← hw1]; exact pastR (newR w _) _
  have hQ1 : w1.heap[w.heap.size + 1]? = some (.cells #[.int .i64 0, .string ⟨#[]⟩, .int .i64 0, .slice none 0 0] 30 (0, 0)) := by rw [← hw1]; have := newR (w.alloc (.cells #[.pointer (some ⟨r, 0, none⟩)] 53)) (.cells #[.int .i64 0, .string ⟨#[]⟩, .int .i64 0, .slice none 0 0] 30); rwa [World.size_alloc] at this
  have HS : Hid (∀ W, Below w1.heap.size w1 W → W.cell? ⟨w.heap.size, 0, none⟩ = some (.pointer (some ⟨r, 0, none⟩)) ∧ W.cell? ⟨r, 0, none⟩ = some (.slice (some ⟨g, k, none⟩) L cap) ∧ W.cell? ⟨g, k, none⟩ = some (.int .i64 xk) ∧ W.cell? ⟨g, k + 1, none⟩ = some (.string xt) ∧ W.cell? ⟨g, k + 2, none⟩ = some (.int .i64 xn) ∧ W.cell? ⟨g, k + 3, none⟩ = some (.int .i64 (xp : Nat)) ∧ W.cell? ⟨g, k + 4, none⟩ = some (.int .i64 yk) ∧ W.cell? ⟨g, k + 4 + 1, none⟩ = some (.string yt) ∧ W.cell? ⟨g, k + 4 + 2, none⟩ = some (.int .i64 yn) ∧ W.cell? ⟨g, k + 4 + 3, none⟩ = some (.int .i64 (yp : Nat))) := Lib.hid (fun W hb => ⟨(cellsR1 (keptR hb hR1)).1, HS0.out W (hb01.trans (hb.mono hb01.size))⟩)
  have HBA := Lib.hid (fun o : Obj => (Below.refl w1.heap.size w1).drew.alloc (w := w1.drew) (Nat.le_refl _) o)
  have HBB := Lib.hid (fun o o2 : Obj => (HBA.out o).alloc (by simp) o2)
  have HBC := Lib.hid (fun o o2 : Obj => (((Below.refl w1.heap.size w1).alloc (Nat.le_refl _) o).alloc (by simp) o2).drew)
  have HR1 := Lib.hid hR1
  have HQ1 := Lib.hid hQ1
  have HB01 := Lib.hid hb01
  have HS01 := Lib.hid hs01
  clear hw1 hb01 hR1 hQ1 hs01
  go_cut [6, 7] (fun s6 s7 wx => ∃ X Y, s6 = .pointer (some ⟨X, 0, none⟩) ∧ s7 = .pointer (some ⟨Y, 0, none⟩) ∧ Hid (Below w1.heap.size w1 wx ∧ w1.heap.size ≤ X ∧ w1.heap.size ≤ Y ∧ wx.heap[X]? = some (.cells #[.int .i64 xk, .string xt, .int .i64 xn, .int .i64 (xp : Nat)] 41 (0, 0)) ∧ wx.heap[Y]? = some (.cells #[.int .i64 yk, .string yt, .int .i64 yn, .int .i64 (yp : Nat)] 41 (0, 0))))
  case first =>
    refine wp_region_held_drew (S := (fun W => W.cell? ⟨w.heap.size, 0, none⟩ = some (.pointer (some ⟨r, 0, none⟩)) ∧ W.cell? ⟨r, 0, none⟩ = some (.slice (some ⟨g, k, none⟩) L cap) ∧ W.cell? ⟨g, k, none⟩ = some (.int .i64 xk) ∧ W.cell? ⟨g, k + 1, none⟩ = some (.string xt) ∧ W.cell? ⟨g, k + 2, none⟩ = some (.int .i64 xn) ∧ W.cell? ⟨g, k + 3, none⟩ = some (.int .i64 (xp : Nat)) ∧ W.cell? ⟨g, k + 4, none⟩ = some (.int .i64 yk) ∧ W.cell? ⟨g, k + 4 + 1, none⟩ = some (.string yt) ∧ W.cell? ⟨g, k + 4 + 2, none⟩ = some (.int .i64 yn) ∧ W.cell? ⟨g, k + 4 + 3, none⟩ = some (.int .i64 (yp : Nat)))) (by kernel_rfl) (HS.out _ (Below.refl _ w1).drew) (fun hHeld14 => ?_)
    refine wpAnyH_take (i := 0) (oi := _) (v := ?v15) rfl (by kernel_rfl) (by kernel_rfl) (by kernel_rfl) (fun _ _ _ h => h) (Or.inl ⟨by rfl, ?y15⟩) (by assumption) ?r15
    case y15 => (intro w hSw; (try dsimp only at hSw); go_simp; try with_reducible rfl)
    try simp only [Act.put]
    try simp only [List.setIfInBounds_toArray]
    try simp only [List.set_cons_zero]
    try simp only [List.set_cons_succ]
    try simp only [List.set_cons_zero]
    refine wpAnyH_take (i := 1) (oi := _) (v := ?v16) rfl (by kernel_rfl) (by kernel_rfl) (by kernel_rfl) (fun _ _ _ h => h) (Or.inl ⟨by rfl, ?y16⟩) (by assumption) ?r16
    case y16 => (intro w hSw; (try dsimp only at hSw); go_simp; try with_reducible rfl)
    try simp only [Act.put]
    try simp only [List.setIfInBounds_toArray]
    try simp only [List.set_cons_zero]
    try simp only [List.set_cons_succ]
    try simp only [List.set_cons_zero]
    refine wpAnyH_take (i := 2) (oi := _) (v := ?v17) rfl (by kernel_rfl) (by kernel_rfl) (by kernel_rfl) (fun _ _ _ h => h) (Or.inl ⟨by rfl, ?y17⟩) (by assumption) ?r17
    case y17 => (intro w hSw; (try dsimp only at hSw); go_simp; try with_reducible rfl)
    try simp only [Act.put]
    try simp only [List.setIfInBounds_toArray]
    try simp only [List.set_cons_zero]
    try simp only [List.set_cons_succ]
    try simp only [List.set_cons_zero]
    refine wpAnyH_take (i := 3) (oi := _) (v := ?v18) rfl (by kernel_rfl) (by kernel_rfl) (by kernel_rfl) (fun _ _ _ h => h) (Or.inl ⟨by rfl, ?y18⟩) (by assumption) ?r18
    case y18 => (intro w hSw; (try dsimp only at hSw); go_simp; try with_reducible rfl)
    try simp only [Act.put]
    try simp only [List.setIfInBounds_toArray]
    try simp only [List.set_cons_zero]
    try simp only [List.set_cons_succ]
    try simp only [List.set_cons_zero]
    refine wpAnyH_take (i := 4) (oi := _) (v := ?v19) rfl (by kernel_rfl) (by kernel_rfl) (by kernel_rfl) (fun _ _ _ h => h) (Or.inl ⟨by rfl, ?y19⟩) (by assumption) ?r19
    case y19 => (intro w hSw; (try dsimp only at hSw); go_simp; try with_reducible rfl)
    try simp only [Act.put]
    try simp only [List.setIfInBounds_toArray]
    try simp only [List.set_cons_zero]
    try simp only [List.set_cons_succ]
    try simp only [List.set_cons_zero]
    refine wpAnyH_take (i := 5) (oi := _) (v := ?v20) rfl (by kernel_rfl) (by kernel_rfl) (by kernel_rfl) (fun _ _ _ h => h) (Or.inl ⟨by rfl, ?y20⟩) (by assumption) ?r20
    case y20 => (intro w hSw; (try dsimp only at hSw); go_simp; try with_reducible rfl)
    try simp only [Act.put]
    try simp only [List.setIfInBounds_toArray]
    try simp only [List.set_cons_zero]
    try simp only [List.set_cons_succ]
    try simp only [List.set_cons_zero]
    refine wpAnyH_take (i := 6) (oi := _) (v := ?v21) rfl (by kernel_rfl) (by kernel_rfl) (by kernel_rfl) (fun _ _ _ h => h) (Or.inl ⟨by rfl, ?y21⟩) (by assumption) ?r21
    case y21 => (intro w hSw; (try dsimp only at hSw); go_simp; try with_reducible rfl)
    try simp only [Act.put]
    try simp only [List.setIfInBounds_toArray]
    try simp only [List.set_cons_zero]
    try simp only [List.set_cons_succ]
    try simp only [List.set_cons_zero]
    refine wpAnyH_take (i := 7) (oi := _) (v := ?v22) rfl (by kernel_rfl) (by kernel_rfl) (by kernel_rfl) (fun _ _ _ h => h) (Or.inl ⟨by rfl, ?y22⟩) (by assumption) ?r22
    case y22 => (intro w hSw; (try dsimp only at hSw); go_simp; try with_reducible rfl)
    try simp only [Act.put]
    try simp only [List.setIfInBounds_toArray]
    try simp only [List.set_cons_zero]
    try simp only [List.set_cons_succ]
    try simp only [List.set_cons_zero]
    refine wpAnyH_take (i := 8) (oi := _) (v := ?v23) rfl (by kernel_rfl) (by kernel_rfl) (by kernel_rfl) (fun _ _ _ h => h) (Or.inl ⟨by rfl, ?y23⟩) (by assumption) ?r23
    case y23 => (intro w hSw; (try dsimp only at hSw); go_simp; try with_reducible rfl)
    try simp only [Act.put]
    try simp only [List.setIfInBounds_toArray]
    try simp only [List.set_cons_zero]
    try simp only [List.set_cons_succ]
    try simp only [List.set_cons_zero]
    refine wpAnyH_take (i := 9) (oi := _) (v := ?v24) rfl (by kernel_rfl) (by kernel_rfl) (by kernel_rfl) (fun _ _ _ h => h) (Or.inl ⟨by rfl, ?y24⟩) (by assumption) ?r24
    case y24 => (intro w hSw; (try dsimp only at hSw); go_simp; try with_reducible rfl)
    try simp only [Act.put]
    try simp only [List.setIfInBounds_toArray]
    try simp only [List.set_cons_zero]
    try simp only [List.set_cons_succ]
    try simp only [List.set_cons_zero]
    refine wpAnyH_take (i := 10) (oi := _) (v := ?v25) rfl (by kernel_rfl) (by kernel_rfl) (by kernel_rfl) (fun _ _ _ h => h) (Or.inl ⟨by rfl, ?y25⟩) (by assumption) ?r25
    case y25 => (intro w hSw; (try dsimp only at hSw); go_simp; try with_reducible rfl)
    try simp only [Act.put]
    try simp only [List.setIfInBounds_toArray]
    try simp only [List.set_cons_zero]
    try simp only [List.set_cons_succ]
    try simp only [List.set_cons_zero]
    refine wpAnyH_take (i := 11) (oi := _) (v := ?v26) rfl (by kernel_rfl) (by kernel_rfl) (by kernel_rfl) (fun _ _ _ h => h) (Or.inl ⟨by rfl, ?y26⟩) (by assumption) ?r26
    case y26 => (intro w hSw; (try dsimp only at hSw); go_simp; try with_reducible rfl)
    try simp only [Act.put]
    try simp only [List.setIfInBounds_toArray]
    try simp only [List.set_cons_zero]
    try simp only [List.set_cons_succ]
    try simp only [List.set_cons_zero]
    refine wpAnyH_ready (rs := [12, 13]) (by kernel_rfl) (by simp) ?_
    refine AllReadyH.cons (o := _) rfl (fun K hK => ?_) (AllReadyH.cons (o := _) rfl (fun K hK => ?_) AllReadyH.nil)
    · go_simp
      refine hK.out _ _ (HS.out _ (HBA.out _)) (fun hHeldA => ?_)
      clear hK K
      try simp only [Act.put]
      try simp only [List.setIfInBounds_toArray]
      try simp only [List.set_cons_zero]
      try simp only [List.set_cons_succ]
      try simp only [List.set_cons_zero]
      refine wpAnyH_ready (rs := [13]) (by kernel_rfl) (by simp) ?_
      refine AllReadyH.cons (o := _) rfl (fun K hK => ?_) AllReadyH.nil
      go_simp
      refine hK.out _ _ (HS.out _ (HBB.out _ _)) (fun hHeldB => ?_)
      clear hK K hHeldA
      try simp only [Act.put]
      try simp only [List.setIfInBounds_toArray]
      try simp only [List.set_cons_zero]
      try simp only [List.set_cons_succ]
      try simp only [List.set_cons_zero]
      refine wpAnyH_ready (rs := [14]) (by kernel_rfl) (by simp) ?_
      refine AllReadyH.cons (o := _) rfl (fun K hK => ?_) AllReadyH.nil
      go_simp
      refine hK.out _ _ (HS.out _ (HBC.out _ _)) (fun hHeld14 => ?_)
      clear hK K hHeldB
      try simp only [Act.put]
      try simp only [List.setIfInBounds_toArray]
      try simp only [List.set_cons_zero]
      try simp only [List.set_cons_succ]
      try simp only [List.set_cons_zero]
      refine wpAnyH_ready (rs := [15]) (by kernel_rfl) (by simp) ?_
      refine AllReadyH.cons (o := _) rfl (fun K hK => ?_) AllReadyH.nil
      go_simp
      refine hK.out _ _ (HS.out _ (HBC.out _ _)) (fun hHeld15 => ?_)
      clear hK K hHeld14
      try simp only [Act.put]
      try simp only [List.setIfInBounds_toArray]
      try simp only [List.set_cons_zero]
      try simp only [List.set_cons_succ]
      try simp only [List.set_cons_zero]
      refine wpAnyH_done (by kernel_rfl) ?_ _
      go_wp2_with fail
      go_meet
      exact ⟨w1.heap.size, w1.heap.size + 1, rfl, rfl, Lib.hid ⟨HBC.out _ _, Nat.le_refl _, Nat.le_succ _, (pastR (newR w1 (.cells #[.int .i64 xk, .string xt, .int .i64 xn, .int .i64 (xp : Nat)] 41)) (.cells #[.int .i64 yk, .string yt, .int .i64 yn, .int .i64 (yp : Nat)] 41) : ((w1.alloc (.cells #[.int .i64 xk, .string xt, .int .i64 xn, .int .i64 (xp : Nat)] 41)).alloc (.cells #[.int .i64 yk, .string yt, .int .i64 yn, .int .i64 (yp : Nat)] 41)).heap[w1.heap.size]? = _), (by have := newR (w1.alloc (.cells #[.int .i64 xk, .string xt, .int .i64 xn, .int .i64 (xp : Nat)] 41)) (.cells #[.int .i64 yk, .string yt, .int .i64 yn, .int .i64 (yp : Nat)] 41); rwa [World.size_alloc] at this : ((w1.alloc (.cells #[.int .i64 xk, .string xt, .int .i64 xn, .int .i64 (xp : Nat)] 41)).alloc (.cells #[.int .i64 yk, .string yt, .int .i64 yn, .int .i64 (yp : Nat)] 41)).heap[w1.heap.size + 1]? = some (.cells #[.int .i64 yk, .string yt, .int .i64 yn, .int .i64 (yp : Nat)] 41 (0, 0)))⟩⟩
    · go_simp
      refine hK.out _ _ (HS.out _ (HBA.out _)) (fun hHeldA => ?_)
      clear hK K
      try simp only [Act.put]
      try simp only [List.setIfInBounds_toArray]
      try simp only [List.set_cons_zero]
      try simp only [List.set_cons_succ]
      try simp only [List.set_cons_zero]
      refine wpAnyH_ready (rs := [12]) (by kernel_rfl) (by simp) ?_
      refine AllReadyH.cons (o := _) rfl (fun K hK => ?_) AllReadyH.nil
      go_simp
      refine hK.out _ _ (HS.out _ (HBB.out _ _)) (fun hHeldB => ?_)
      clear hK K hHeldA
      try simp only [Act.put]
      try simp only [List.setIfInBounds_toArray]
      try simp only [List.set_cons_zero]
      try simp only [List.set_cons_succ]
      try simp only [List.set_cons_zero]
      refine wpAnyH_ready (rs := [14]) (by kernel_rfl) (by simp) ?_
      refine AllReadyH.cons (o := _) rfl (fun K hK => ?_) AllReadyH.nil
      go_simp
      refine hK.out _ _ (HS.out _ (HBC.out _ _)) (fun hHeld14 => ?_)
      clear hK K hHeldB
      try simp only [Act.put]
      try simp only [List.setIfInBounds_toArray]
      try simp only [List.set_cons_zero]
      try simp only [List.set_cons_succ]
      try simp only [List.set_cons_zero]
      refine wpAnyH_ready (rs := [15]) (by kernel_rfl) (by simp) ?_
      refine AllReadyH.cons (o := _) rfl (fun K hK => ?_) AllReadyH.nil
      go_simp
      refine hK.out _ _ (HS.out _ (HBC.out _ _)) (fun hHeld15 => ?_)
      clear hK K hHeld14
      try simp only [Act.put]
      try simp only [List.setIfInBounds_toArray]
      try simp only [List.set_cons_zero]
      try simp only [List.set_cons_succ]
      try simp only [List.set_cons_zero]
      refine wpAnyH_done (by kernel_rfl) ?_ _
      go_wp2_with fail
      go_meet
      exact ⟨w1.heap.size + 1, w1.heap.size, rfl, rfl, Lib.hid ⟨HBC.out _ _, Nat.le_succ _, Nat.le_refl _, (by have := newR (w1.alloc (.cells #[.int .i64 yk, .string yt, .int .i64 yn, .int .i64 (yp : Nat)] 41)) (.cells #[.int .i64 xk, .string xt, .int .i64 xn, .int .i64 (xp : Nat)] 41); rwa [World.size_alloc] at this : ((w1.alloc (.cells #[.int .i64 yk, .string yt, .int .i64 yn, .int .i64 (yp : Nat)] 41)).alloc (.cells #[.int .i64 xk, .string xt, .int .i64 xn, .int .i64 (xp : Nat)] 41)).heap[w1.heap.size + 1]? = some (.cells #[.int .i64 xk, .string xt, .int .i64 xn, .int .i64 (xp : Nat)] 41 (0, 0))), (pastR (newR w1 (.cells #[.int .i64 yk, .string yt, .int .i64 yn, .int .i64 (yp : Nat)] 41)) (.cells #[.int .i64 xk, .string xt, .int .i64 xn, .int .i64 (xp : Nat)] 41) : ((w1.alloc (.cells #[.int .i64 yk, .string yt, .int .i64 yn, .int .i64 (yp : Nat)] 41)).alloc (.cells #[.int .i64 xk, .string xt, .int .i64 xn, .int .i64 (xp : Nat)] 41)).heap[w1.heap.size]? = _)⟩⟩
  case rest =>
    obtain ⟨X, Y, rfl, rfl, HXY⟩ := hcut
    obtain ⟨hbc, hX0, hY0, hX, hY⟩ := HXY.out
    have hs01 := HS01.out
    have HBW : Hid (Below w.heap.size w wc) := Lib.hid (HB01.out.trans (hbc.mono HB01.out.size))
    have HX := Lib.hid hX
    have HY := Lib.hid hY
    have HRB := Lib.hid (keptR hbc HR1.out)
    have HQB := Lib.hid (keptR hbc HQ1.out)
    obtain ⟨a0, a1, a2, a3, _⟩ := cellsR4 hX
    obtain ⟨b0, b1, b2, b3, _⟩ := cellsR4 hY
    obtain ⟨rr0, _⟩ := cellsR1 HRB.out
    have hX1 : w.heap.size + 2 ≤ X := by omega
    have hY1 : w.heap.size + 2 ≤ Y := by omega
    clear hbc hX hY HXY hs01 HBA HBB HBC HS hX0 hY0 HS01
    go_wp2_with (omega)
    refine (HPS.out _ (HH.out _ HBW.out)).mono ?_; rintro e w2 ⟨rfl, hm2', hg2⟩
    have rr1 := hg2.cell rr0 hnewR.1 hnewR.2
    have HG2 := Lib.hid ((RGo.of_below (r := r) (v := v) HBW.out (Nat.le_of_lt hlt)).trans hg2)
    have HQ2 := Lib.hid (hg2.at HQB.out hnewq.1 hnewq.2)
    have HR2 := Lib.hid (hg2.at HRB.out hnewR.1 hnewR.2)
    have hY2 := HNEW.out Y (by omega)
    have HY2 := Lib.hid (hg2.at HY.out hY2.1 hY2.2)
    have HM2 := Lib.hid hm2'
    have hs2 := hg2.below.size
    clear hm2' hg2
    go_wp2_with fail
    refine (HPT.out _ _ HM2.out).mono ?_; rintro e w3 ⟨rfl, hm3, hg3⟩
    have HG3 := Lib.hid (HG2.out.trans hg3)
    have HQ3 := Lib.hid (hg3.at HQ2.out hnewq.1 hnewq.2)
    obtain ⟨b0, b1, b2, b3, _⟩ := cellsR4 (hg3.at HY2.out hY2.1 hY2.2)
    have HM3 := Lib.hid hm3
    clear hm3 hg3
    go_wp2_with fail
    refine (rd_integer _ _).mono ?_; rintro e w4 ⟨rfl, hb4⟩
    have HG4 := Lib.hid (HG3.out.trans (RGo.of_below (r := r) (v := v) hb4 (Nat.le_trans (Nat.le_of_lt hlt) HG3.out.below.size)))
    have HQ4 := Lib.hid (keptR hb4 HQ3.out)
    have HM4 := Lib.hid (HM3.out.below hb4)
    obtain ⟨d0, d1, d2, d3, e0, e1, e2, e3⟩ := cellsR4 HQ4.out
    clear hb4
    go_wp2_with fail
    refine bodyPost_ret (v := .tuple #[.agg #[.int .i64 3, .string ⟨#[]⟩, .int .i64 (wrap64 (-yn)), .slice none 0 0], .int .i64 0]) (by simp [results, Tryz.results119, go_sem, d0, d1, d2, d3]) rfl ⟨v, none, 0, rfl, ?_⟩
    exact ROk.fin (B := w.heap.size + 2) HM4.out HG4.out (leafR _ _ _ (in64R (by decide) (by decide)) HN.out (Nat.zero_le _)) hlt (Nat.le_succ _) (by omega) hnewq.2 _ _ _ _

set_option maxRecDepth 100000 in
set_option maxHeartbeats 8000000 in
theorem rd_named_atom1 {m : Nat} (hM : m ≤ 10000) (p : Int) (ts : List Tok) (ns : Nms) (w : World) (r : Nat) (v : Value) (hm : ts.length ≤ m + 1) (hf : Fine ts) (hk : (fstT ts).isAtom = true) (h : RMem w r v ts ns)  (h7 : (fstT ts.tail).kind ≠ 7) (hneg : ¬((fstT ts).kind = 3 ∧ (fstT ts).text = [45] ∧ (fstT ts.tail).kind = 5 ∧ (fstT ts.tail).pos = (fstT ts).pos + 1)) (ho : opR (fstT ts).text 2 = none) :
    Calls Tryz.prog 119 #[.pointer (some ⟨r, 0, none⟩), .int .i64 p] w fun e w' => ROut2 r v w (.ok (atomT (fstT ts).text, 0) ts.tail ns) e w' := by
  have hlt := h.lt
  have h2 := hf.two (atom_not9 hk)
  obtain ⟨hft, hl2⟩ := hf.tail (atom_not9 hk)
  have hm2 : ts.tail.length ≤ m := by omega
  have hft1 := hft.pos
  have HH := Lib.hid (fun W' (hb : Below w.heap.size w W') => h.below hb)
  have hnewR := h.new_ne (b := w.heap.size) (Nat.le_refl _)
  have hnewq := h.new_ne (b := w.heap.size + 1) (Nat.le_succ _)
  have HNEW := Lib.hid (fun b (hb : w.heap.size ≤ b) => h.new_ne hb)
  obtain ⟨g, k, cap, hgr, hr, hlc, hcm, htr⟩ := h.ex
  have hgl : g < w.heap.size := by omega
  obtain ⟨r0, _, _, _⟩ := cellsR2 hr
  obtain ⟨c0, c1, c2, c3, htr2⟩ := htr.first hf.pos
  obtain ⟨c4, c5, c6, c7, _⟩ := htr2.first hft.pos
  have HTR := Lib.hid htr2
  have hL0 : 0 < ts.length := by omega
  have hL1 : (1 : Int) < (ts.length : Int) := by omega
  have hcap2 : 2 ≤ cap := by omega
  have hmf : ∀ (fn : Fn) (first cap : Array Value) (w : World), (Instr.makeFunc fn first cap).run Tryz.prog w = .ok (.func fn first cap) w := fun _ _ _ _ => rfl
  have HB := Lib.hid (fun o o2 : Obj => ((Below.refl w.heap.size w).alloc (Nat.le_refl _) o).alloc (by simp) o2)
  have HS1 : Hid (∀ W', Below w.heap.size w W' → W'.cell? ⟨r, 0, none⟩ = w.cell? ⟨r, 0, none⟩ ∧ ∀ i, W'.cell? ⟨g, i, none⟩ = w.cell? ⟨g, i, none⟩) := Lib.hid (fun W' hb => ⟨hb.cell (p := ⟨r, 0, none⟩) hlt, fun i => hb.cell (p := ⟨g, i, none⟩) hgl⟩)
  have HPS := Lib.hid (fun W' hm' => rd_pass W' r v ts ns hm' h2)
  have hpos := hf.first.pos
  have hsz := hf.first.size
  have HOP := Lib.hid (fun W' => by have h := ops_Prefix ⟨(fstT ts).text.toArray⟩ W'; rw [show findR tabR ⟨(fstT ts).text.toArray⟩ 2 = none from ho, opAns_none] at h; exact h)
  clear hf hft hk
  generalize fstT ts.tail = t1 at *
  generalize fstT ts = t0 at *
  obtain ⟨xk, xl, xn, xp⟩ := t0
  obtain ⟨yk, yl, yn, yp⟩ := t1
  dsimp only at *
  generalize (⟨yl.toArray⟩ : ByteArray) = yt at *
  have hb7 : (yk == 7) = false := by simpa using h7
  have HNB : Hid ((xk == 3 && (⟨xl.toArray⟩ : ByteArray).toList == [45] && yk == 5 && (yp : Int) == (xp : Int) + 1) = false) := Lib.hid (by
    rw [text_is]
    by_cases c1 : xk = 3
    · by_cases c2 : xl = [45]
      · by_cases c3 : yk = 5
        · have c4 : yp ≠ xp + 1 := fun c => hneg ⟨c1, c2, c3, c⟩
          have c5 : ¬ ((yp : Int) = (xp : Int) + 1) := by omega
          simp [c5]
        · simp [c3]
      · simp [c2]
    · simp [c1])
  have HSZ : Hid ((⟨xl.toArray⟩ : ByteArray).size ≤ maxLen) := Lib.hid (show xl.toArray.size ≤ maxLen by have e : maxLen = 9223372036854775807 := rfl; simp only [List.size_toArray]; omega)
  clear h7 hneg hsz
  have HE : Hid (Ending.returned (.tuple #[.agg #[.int .i64 2, .string ⟨xl.toArray⟩, .int .i64 0, .slice none 0 0], .int .i64 0]) = Ending.returned (.tuple #[tmv (atomT xl) none 0, .int .i64 0])) := Lib.hid rfl
  have HSZ2 : Hid (xl.toArray.size ≤ maxLen) := Lib.hid HSZ.out
  generalize (⟨xl.toArray⟩ : ByteArray) = xt at *
  generalize hLn : ts.length = L at *
  have HLN := Lib.hid hLn
  clear hLn h hr htr htr2
  have HS0 : Hid (∀ W, Below w.heap.size w W → W.cell? ⟨r, 0, none⟩ = some (.slice (some ⟨g, k, none⟩) L cap) ∧ W.cell? ⟨g, k, none⟩ = some (.int .i64 xk) ∧ W.cell? ⟨g, k + 1, none⟩ = some (.string xt) ∧ W.cell? ⟨g, k + 2, none⟩ = some (.int .i64 xn) ∧ W.cell? ⟨g, k + 3, none⟩ = some (.int .i64 (xp : Nat)) ∧ W.cell? ⟨g, k + 4, none⟩ = some (.int .i64 yk) ∧ W.cell? ⟨g, k + 4 + 1, none⟩ = some (.string yt) ∧ W.cell? ⟨g, k + 4 + 2, none⟩ = some (.int .i64 yn) ∧ W.cell? ⟨g, k + 4 + 3, none⟩ = some (.int .i64 (yp : Nat))) := Lib.hid (fun W hb => by obtain ⟨q1, q2⟩ := HS1.out W hb; rw [q1, q2, q2, q2, q2, q2, q2, q2, q2]; exact ⟨r0, c0, c1, c2, c3, c4, c5, c6, c7⟩)
  clear r0 c0 c1 c2 c3 c4 c5 c6 c7
  go_enter Tryz.func119, Tryz.ntmps119
  go_wp2_with fail
  generalize hw1 : (w.alloc (.cells #[.pointer (some ⟨r, 0, none⟩)] 53)).alloc (.cells #[.int .i64 0, .string ⟨#[]⟩, .int .i64 0, .slice none 0 0] 30) = w1
  have hb01 : Below w.heap.size w w1 := by rw [← hw1]; exact HB.out _ _
  have hs01 : w1.heap.size = w.heap.size + 2 := by rw [← hw1]; simp
  have hR1 : w1.heap[w.heap.size]? = some (.cells #[.pointer (some ⟨r, 0, none⟩)] 53 (0, 0)) := by rw [← hw1]; exact pastR (newR w _) _
  have hQ1 : w1.heap[w.heap.size + 1]? = some (.cells #[.int .i64 0, .string ⟨#[]⟩, .int .i64 0, .slice none 0 0] 30 (0, 0)) := by rw [← hw1]; have := newR (w.alloc (.cells #[.pointer (some ⟨r, 0, none⟩)] 53)) (.cells #[.int .i64 0, .string ⟨#[]⟩, .int .i64 0, .slice none 0 0] 30); rwa [World.size_alloc] at this
  have HS : Hid (∀ W, Below w1.heap.size w1 W → W.cell? ⟨w.heap.size, 0, none⟩ = some (.pointer (some ⟨r, 0, none⟩)) ∧ W.cell? ⟨r, 0, none⟩ = some (.slice (some ⟨g, k, none⟩) L cap) ∧ W.cell? ⟨g, k, none⟩ = some (.int .i64 xk) ∧ W.cell? ⟨g, k + 1, none⟩ = some (.string xt) ∧ W.cell? ⟨g, k + 2, none⟩ = some (.int .i64 xn) ∧ W.cell? ⟨g, k + 3, none⟩ = some (.int .i64 (xp : Nat)) ∧ W.cell? ⟨g, k + 4, none⟩ = some (.int .i64 yk) ∧ W.cell? ⟨g, k + 4 + 1, none⟩ = some (.string yt) ∧ W.cell? ⟨g, k + 4 + 2, none⟩ = some (.int .i64 yn) ∧ W.cell? ⟨g, k + 4 + 3, none⟩ = some (.int .i64 (yp : Nat))) := Lib.hid (fun W hb => ⟨(cellsR1 (keptR hb hR1)).1, HS0.out W (hb01.trans (hb.mono hb01.size))⟩)
  have HBA := Lib.hid (fun o : Obj => (Below.refl w1.heap.size w1).drew.alloc (w := w1.drew) (Nat.le_refl _) o)
  have HBB := Lib.hid (fun o o2 : Obj => (HBA.out o).alloc (by simp) o2)
  have HBC := Lib.hid (fun o o2 : Obj => (((Below.refl w1.heap.size w1).alloc (Nat.le_refl _) o).alloc (by simp) o2).drew)
  have HR1 := Lib.hid hR1
  have HQ1 := Lib.hid hQ1
  have HB01 := Lib.hid hb01
  have HS01 := Lib.hid hs01
  clear hw1 hb01 hR1 hQ1 hs01
  go_cut [6, 7] (fun s6 s7 wx => ∃ X Y, s6 = .pointer (some ⟨X, 0, none⟩) ∧ s7 = .pointer (some ⟨Y, 0, none⟩) ∧ Hid (Below w1.heap.size w1 wx ∧ w1.heap.size ≤ X ∧ w1.heap.size ≤ Y ∧ wx.heap[X]? = some (.cells #[.int .i64 xk, .string xt, .int .i64 xn, .int .i64 (xp : Nat)] 41 (0, 0)) ∧ wx.heap[Y]? = some (.cells #[.int .i64 yk, .string yt, .int .i64 yn, .int .i64 (yp : Nat)] 41 (0, 0))))
  case first =>
    refine wp_region_held_drew (S := (fun W => W.cell? ⟨w.heap.size, 0, none⟩ = some (.pointer (some ⟨r, 0, none⟩)) ∧ W.cell? ⟨r, 0, none⟩ = some (.slice (some ⟨g, k, none⟩) L cap) ∧ W.cell? ⟨g, k, none⟩ = some (.int .i64 xk) ∧ W.cell? ⟨g, k + 1, none⟩ = some (.string xt) ∧ W.cell? ⟨g, k + 2, none⟩ = some (.int .i64 xn) ∧ W.cell? ⟨g, k + 3, none⟩ = some (.int .i64 (xp : Nat)) ∧ W.cell? ⟨g, k + 4, none⟩ = some (.int .i64 yk) ∧ W.cell? ⟨g, k + 4 + 1, none⟩ = some (.string yt) ∧ W.cell? ⟨g, k + 4 + 2, none⟩ = some (.int .i64 yn) ∧ W.cell? ⟨g, k + 4 + 3, none⟩ = some (.int .i64 (yp : Nat)))) (by kernel_rfl) (HS.out _ (Below.refl _ w1).drew) (fun hHeld27 => ?_)
    refine wpAnyH_take (i := 0) (oi := _) (v := ?v28) rfl (by kernel_rfl) (by kernel_rfl) (by kernel_rfl) (fun _ _ _ h => h) (Or.inl ⟨by rfl, ?y28⟩) (by assumption) ?r28
    case y28 => (intro w hSw; (try dsimp only at hSw); go_simp; try with_reducible rfl)
    try simp only [Act.put]
    try simp only [List.setIfInBounds_toArray]
    try simp only [List.set_cons_zero]
    try simp only [List.set_cons_succ]
    try simp only [List.set_cons_zero]
    refine wpAnyH_take (i := 1) (oi := _) (v := ?v29) rfl (by kernel_rfl) (by kernel_rfl) (by kernel_rfl) (fun _ _ _ h => h) (Or.inl ⟨by rfl, ?y29⟩) (by assumption) ?r29
    case y29 => (intro w hSw; (try dsimp only at hSw); go_simp; try with_reducible rfl)
    try simp only [Act.put]
    try simp only [List.setIfInBounds_toArray]
    try simp only [List.set_cons_zero]
    try simp only [List.set_cons_succ]
    try simp only [List.set_cons_zero]
    refine wpAnyH_take (i := 2) (oi := _) (v := ?v30) rfl (by kernel_rfl) (by kernel_rfl) (by kernel_rfl) (fun _ _ _ h => h) (Or.inl ⟨by rfl, ?y30⟩) (by assumption) ?r30
    case y30 => (intro w hSw; (try dsimp only at hSw); go_simp; try with_reducible rfl)
    try simp only [Act.put]
    try simp only [List.setIfInBounds_toArray]
    try simp only [List.set_cons_zero]
    try simp only [List.set_cons_succ]
    try simp only [List.set_cons_zero]
    refine wpAnyH_take (i := 3) (oi := _) (v := ?v31) rfl (by kernel_rfl) (by kernel_rfl) (by kernel_rfl) (fun _ _ _ h => h) (Or.inl ⟨by rfl, ?y31⟩) (by assumption) ?r31
    case y31 => (intro w hSw; (try dsimp only at hSw); go_simp; try with_reducible rfl)
    try simp only [Act.put]
    try simp only [List.setIfInBounds_toArray]
    try simp only [List.set_cons_zero]
    try simp only [List.set_cons_succ]
    try simp only [List.set_cons_zero]
    refine wpAnyH_take (i := 4) (oi := _) (v := ?v32) rfl (by kernel_rfl) (by kernel_rfl) (by kernel_rfl) (fun _ _ _ h => h) (Or.inl ⟨by rfl, ?y32⟩) (by assumption) ?r32
    case y32 => (intro w hSw; (try dsimp only at hSw); go_simp; try with_reducible rfl)
    try simp only [Act.put]
    try simp only [List.setIfInBounds_toArray]
    try simp only [List.set_cons_zero]
    try simp only [List.set_cons_succ]
    try simp only [List.set_cons_zero]
    refine wpAnyH_take (i := 5) (oi := _) (v := ?v33) rfl (by kernel_rfl) (by kernel_rfl) (by kernel_rfl) (fun _ _ _ h => h) (Or.inl ⟨by rfl, ?y33⟩) (by assumption) ?r33
    case y33 => (intro w hSw; (try dsimp only at hSw); go_simp; try with_reducible rfl)
    try simp only [Act.put]
    try simp only [List.setIfInBounds_toArray]
    try simp only [List.set_cons_zero]
    try simp only [List.set_cons_succ]
    try simp only [List.set_cons_zero]
    refine wpAnyH_take (i := 6) (oi := _) (v := ?v34) rfl (by kernel_rfl) (by kernel_rfl) (by kernel_rfl) (fun _ _ _ h => h) (Or.inl ⟨by rfl, ?y34⟩) (by assumption) ?r34
    case y34 => (intro w hSw; (try dsimp only at hSw); go_simp; try with_reducible rfl)
    try simp only [Act.put]
    try simp only [List.setIfInBounds_toArray]
    try simp only [List.set_cons_zero]
    try simp only [List.set_cons_succ]
    try simp only [List.set_cons_zero]
    refine wpAnyH_take (i := 7) (oi := _) (v := ?v35) rfl (by kernel_rfl) (by kernel_rfl) (by kernel_rfl) (fun _ _ _ h => h) (Or.inl ⟨by rfl, ?y35⟩) (by assumption) ?r35
    case y35 => (intro w hSw; (try dsimp only at hSw); go_simp; try with_reducible rfl)
    try simp only [Act.put]
    try simp only [List.setIfInBounds_toArray]
    try simp only [List.set_cons_zero]
    try simp only [List.set_cons_succ]
    try simp only [List.set_cons_zero]
    refine wpAnyH_take (i := 8) (oi := _) (v := ?v36) rfl (by kernel_rfl) (by kernel_rfl) (by kernel_rfl) (fun _ _ _ h => h) (Or.inl ⟨by rfl, ?y36⟩) (by assumption) ?r36
    case y36 => (intro w hSw; (try dsimp only at hSw); go_simp; try with_reducible rfl)
    try simp only [Act.put]
    try simp only [List.setIfInBounds_toArray]
    try simp only [List.set_cons_zero]
    try simp only [List.set_cons_succ]
    try simp only [List.set_cons_zero]
    refine wpAnyH_take (i := 9) (oi := _) (v := ?v37) rfl (by kernel_rfl) (by kernel_rfl) (by kernel_rfl) (fun _ _ _ h => h) (Or.inl ⟨by rfl, ?y37⟩) (by assumption) ?r37
    case y37 => (intro w hSw; (try dsimp only at hSw); go_simp; try with_reducible rfl)
    try simp only [Act.put]
    try simp only [List.setIfInBounds_toArray]
    try simp only [List.set_cons_zero]
    try simp only [List.set_cons_succ]
    try simp only [List.set_cons_zero]
    refine wpAnyH_take (i := 10) (oi := _) (v := ?v38) rfl (by kernel_rfl) (by kernel_rfl) (by kernel_rfl) (fun _ _ _ h => h) (Or.inl ⟨by rfl, ?y38⟩) (by assumption) ?r38
    case y38 => (intro w hSw; (try dsimp only at hSw); go_simp; try with_reducible rfl)
    try simp only [Act.put]
    try simp only [List.setIfInBounds_toArray]
    try simp only [List.set_cons_zero]
    try simp only [List.set_cons_succ]
    try simp only [List.set_cons_zero]
    refine wpAnyH_take (i := 11) (oi := _) (v := ?v39) rfl (by kernel_rfl) (by kernel_rfl) (by kernel_rfl) (fun _ _ _ h => h) (Or.inl ⟨by rfl, ?y39⟩) (by assumption) ?r39
    case y39 => (intro w hSw; (try dsimp only at hSw); go_simp; try with_reducible rfl)
    try simp only [Act.put]
    try simp only [List.setIfInBounds_toArray]
    try simp only [List.set_cons_zero]
    try simp only [List.set_cons_succ]
    try simp only [List.set_cons_zero]
    refine wpAnyH_ready (rs := [12, 13]) (by kernel_rfl) (by simp) ?_
    refine AllReadyH.cons (o := _) rfl (fun K hK => ?_) (AllReadyH.cons (o := _) rfl (fun K hK => ?_) AllReadyH.nil)
    · go_simp
      refine hK.out _ _ (HS.out _ (HBA.out _)) (fun hHeldA => ?_)
      clear hK K
      try simp only [Act.put]
      try simp only [List.setIfInBounds_toArray]
      try simp only [List.set_cons_zero]
      try simp only [List.set_cons_succ]
      try simp only [List.set_cons_zero]
      refine wpAnyH_ready (rs := [13]) (by kernel_rfl) (by simp) ?_
      refine AllReadyH.cons (o := _) rfl (fun K hK => ?_) AllReadyH.nil
      go_simp
      refine hK.out _ _ (HS.out _ (HBB.out _ _)) (fun hHeldB => ?_)
      clear hK K hHeldA
      try simp only [Act.put]
      try simp only [List.setIfInBounds_toArray]
      try simp only [List.set_cons_zero]
      try simp only [List.set_cons_succ]
      try simp only [List.set_cons_zero]
      refine wpAnyH_ready (rs := [14]) (by kernel_rfl) (by simp) ?_
      refine AllReadyH.cons (o := _) rfl (fun K hK => ?_) AllReadyH.nil
      go_simp
      refine hK.out _ _ (HS.out _ (HBC.out _ _)) (fun hHeld14 => ?_)
      clear hK K hHeldB
      try simp only [Act.put]
      try simp only [List.setIfInBounds_toArray]
      try simp only [List.set_cons_zero]
      try simp only [List.set_cons_succ]
      try simp only [List.set_cons_zero]
      refine wpAnyH_ready (rs := [15]) (by kernel_rfl) (by simp) ?_
      refine AllReadyH.cons (o := _) rfl (fun K hK => ?_) AllReadyH.nil
      go_simp
      refine hK.out _ _ (HS.out _ (HBC.out _ _)) (fun hHeld15 => ?_)
      clear hK K hHeld14
      try simp only [Act.put]
      try simp only [List.setIfInBounds_toArray]
      try simp only [List.set_cons_zero]
      try simp only [List.set_cons_succ]
      try simp only [List.set_cons_zero]
      refine wpAnyH_done (by kernel_rfl) ?_ _
      go_wp2_with fail
      go_meet
      exact ⟨w1.heap.size, w1.heap.size + 1, rfl, rfl, Lib.hid ⟨HBC.out _ _, Nat.le_refl _, Nat.le_succ _, (pastR (newR w1 (.cells #[.int .i64 xk, .string xt, .int .i64 xn, .int .i64 (xp : Nat)] 41)) (.cells #[.int .i64 yk, .string yt, .int .i64 yn, .int .i64 (yp : Nat)] 41) : ((w1.alloc (.cells #[.int .i64 xk, .string xt, .int .i64 xn, .int .i64 (xp : Nat)] 41)).alloc (.cells #[.int .i64 yk, .string yt, .int .i64 yn, .int .i64 (yp : Nat)] 41)).heap[w1.heap.size]? = _), (by have := newR (w1.alloc (.cells #[.int .i64 xk, .string xt, .int .i64 xn, .int .i64 (xp : Nat)] 41)) (.cells #[.int .i64 yk, .string yt, .int .i64 yn, .int .i64 (yp : Nat)] 41); rwa [World.size_alloc] at this : ((w1.alloc (.cells #[.int .i64 xk, .string xt, .int .i64 xn, .int .i64 (xp : Nat)] 41)).alloc (.cells #[.int .i64 yk, .string yt, .int .i64 yn, .int .i64 (yp : Nat)] 41)).heap[w1.heap.size + 1]? = some (.cells #[.int .i64 yk, .string yt, .int .i64 yn, .int .i64 (yp : Nat)] 41 (0, 0)))⟩⟩
    · go_simp
      refine hK.out _ _ (HS.out _ (HBA.out _)) (fun hHeldA => ?_)
      clear hK K
      try simp only [Act.put]
      try simp only [List.setIfInBounds_toArray]
      try simp only [List.set_cons_zero]
      try simp only [List.set_cons_succ]
      try simp only [List.set_cons_zero]
      refine wpAnyH_ready (rs := [12]) (by kernel_rfl) (by simp) ?_
      refine AllReadyH.cons (o := _) rfl (fun K hK => ?_) AllReadyH.nil
      go_simp
      refine hK.out _ _ (HS.out _ (HBB.out _ _)) (fun hHeldB => ?_)
      clear hK K hHeldA
      try simp only [Act.put]
      try simp only [List.setIfInBounds_toArray]
      try simp only [List.set_cons_zero]
      try simp only [List.set_cons_succ]
      try simp only [List.set_cons_zero]
      refine wpAnyH_ready (rs := [14]) (by kernel_rfl) (by simp) ?_
      refine AllReadyH.cons (o := _) rfl (fun K hK => ?_) AllReadyH.nil
      go_simp
      refine hK.out _ _ (HS.out _ (HBC.out _ _)) (fun hHeld14 => ?_)
      clear hK K hHeldB
      try simp only [Act.put]
      try simp only [List.setIfInBounds_toArray]
      try simp only [List.set_cons_zero]
      try simp only [List.set_cons_succ]
      try simp only [List.set_cons_zero]
      refine wpAnyH_ready (rs := [15]) (by kernel_rfl) (by simp) ?_
      refine AllReadyH.cons (o := _) rfl (fun K hK => ?_) AllReadyH.nil
      go_simp
      refine hK.out _ _ (HS.out _ (HBC.out _ _)) (fun hHeld15 => ?_)
      clear hK K hHeld14
      try simp only [Act.put]
      try simp only [List.setIfInBounds_toArray]
      try simp only [List.set_cons_zero]
      try simp only [List.set_cons_succ]
      try simp only [List.set_cons_zero]
      refine wpAnyH_done (by kernel_rfl) ?_ _
      go_wp2_with fail
      go_meet
      exact ⟨w1.heap.size + 1, w1.heap.size, rfl, rfl, Lib.hid ⟨HBC.out _ _, Nat.le_succ _, Nat.le_refl _, (by have := newR (w1.alloc (.cells #[.int .i64 yk, .string yt, .int .i64 yn, .int .i64 (yp : Nat)] 41)) (.cells #[.int .i64 xk, .string xt, .int .i64 xn, .int .i64 (xp : Nat)] 41); rwa [World.size_alloc] at this : ((w1.alloc (.cells #[.int .i64 yk, .string yt, .int .i64 yn, .int .i64 (yp : Nat)] 41)).alloc (.cells #[.int .i64 xk, .string xt, .int .i64 xn, .int .i64 (xp : Nat)] 41)).heap[w1.heap.size + 1]? = some (.cells #[.int .i64 xk, .string xt, .int .i64 xn, .int .i64 (xp : Nat)] 41 (0, 0))), (pastR (newR w1 (.cells #[.int .i64 yk, .string yt, .int .i64 yn, .int .i64 (yp : Nat)] 41)) (.cells #[.int .i64 xk, .string xt, .int .i64 xn, .int .i64 (xp : Nat)] 41) : ((w1.alloc (.cells #[.int .i64 yk, .string yt, .int .i64 yn, .int .i64 (yp : Nat)] 41)).alloc (.cells #[.int .i64 xk, .string xt, .int .i64 xn, .int .i64 (xp : Nat)] 41)).heap[w1.heap.size]? = _)⟩⟩
  case rest =>
    obtain ⟨X, Y, rfl, rfl, HXY⟩ := hcut
    obtain ⟨hbc, hX0, hY0, hX, hY⟩ := HXY.out
    have hs01 := HS01.out
    have HBW : Hid (Below w.heap.size w wc) := Lib.hid (HB01.out.trans (hbc.mono HB01.out.size))
    have HX := Lib.hid hX
    have HY := Lib.hid hY
    have HRB := Lib.hid (keptR hbc HR1.out)
    have HQB := Lib.hid (keptR hbc HQ1.out)
    obtain ⟨a0, a1, a2, a3, _⟩ := cellsR4 hX
    obtain ⟨b0, b1, b2, b3, _⟩ := cellsR4 hY
    obtain ⟨rr0, _⟩ := cellsR1 HRB.out
    have hX1 : w.heap.size + 2 ≤ X := by omega
    have hY1 : w.heap.size + 2 ≤ Y := by omega
    clear hbc hX hY HXY hs01 HBA HBB HBC HS hX0 hY0 HS01
    go_upto_region 5 with fail
    go_cut [50] (fun s50 wx => s50 = .bool false ∧ wx = wc)
    case first =>
      have hnb := HNB.out
      cases hb3 : (xk == 3) with
      | false => (clear hnb; go_wp2_with (omega); go_meet; exact ⟨rfl, rfl⟩)
      | true =>
        cases hb4 : (xt.toList == [45]) with
        | false => (clear hnb; go_wp2_with (omega); go_meet; exact ⟨rfl, rfl⟩)
        | true =>
          cases hb5 : (yk == 5) with
          | false => (clear hnb; go_wp2_with (omega); go_meet; exact ⟨rfl, rfl⟩)
          | true =>
            have hbp : ((yp : Int) == (xp : Int) + 1) = false := by rw [hb3, hb4, hb5] at hnb; simpa using hnb
            clear hnb
            go_wp2_with (omega)
            go_meet
            exact ⟨rfl, rfl⟩
    case rest =>
      obtain ⟨rfl, hwc⟩ := hcut
      subst hwc
      go_wp2_with fail
      refine (HOP.out _).mono ?_; rintro e w2 ⟨rfl, hb2⟩
      have HB2 := Lib.hid (HBW.out.trans (hb2.mono HBW.out.size))
      have HBO := Lib.hid (fun o : Obj => HB2.out.alloc HB2.out.size o)
      go_upto_region 10 with fail
      generalize hw3 : w2.alloc (.cells #[.int .i64 0, .string ⟨#[]⟩] 102) = w3
      have hb3 : Below wc.heap.size wc w3 := by rw [← hw3]; exact hb2.alloc hb2.size _
      have HB3 : Hid (Below w.heap.size w w3) := Lib.hid (by rw [← hw3]; exact HBO.out _)
      have HO3 : Hid (w3.heap[w2.heap.size]? = some (.cells #[.int .i64 0, .string ⟨#[]⟩] 102 (0, 0))) := Lib.hid (by rw [← hw3]; exact newR w2 _)
      have hs3 : w3.heap.size = w2.heap.size + 1 := by rw [← hw3]; simp
      have HX3 := Lib.hid (keptR hb3 HX.out)
      have HR3 := Lib.hid (keptR hb3 HRB.out)
      have HQ3 := Lib.hid (keptR hb3 HQB.out)
      have hs2 := hb2.size
      have hXl := (Array.getElem?_eq_some_iff.1 HX.out).1
      obtain ⟨rr3, _⟩ := cellsR1 HR3.out
      clear hw3 hb2 HBO a0 a1 a2 a3 b0 b1 b2 b3 rr0 hb3
      go_wp2_with fail
      refine (HPS.out _ (HH.out _ HB3.out)).mono ?_; rintro e w4 ⟨rfl, hm4, hg4⟩
      have HG4 := Lib.hid ((RGo.of_below (r := r) (v := v) HB3.out (Nat.le_of_lt hlt)).trans hg4)
      have HQ4 := Lib.hid (hg4.at HQ3.out hnewq.1 hnewq.2)
      have hX2 := HNEW.out X (by omega)
      obtain ⟨a0, a1, a2, a3, _⟩ := cellsR4 (hg4.at HX3.out hX2.1 hX2.2)
      have HM4 := Lib.hid hm4
      clear hm4 hg4
      go_wp2_with fail
      refine (rd_atom _ _).mono ?_; rintro e w5 ⟨rfl, hb5⟩
      have HG5 := Lib.hid (HG4.out.trans (RGo.of_below (r := r) (v := v) hb5 (Nat.le_trans (Nat.le_of_lt hlt) HG4.out.below.size)))
      have HQ5 := Lib.hid (keptR hb5 HQ4.out)
      have HM5 := Lib.hid (HM4.out.below hb5)
      obtain ⟨d0, d1, d2, d3, e0, e1, e2, e3⟩ := cellsR4 HQ5.out
      clear hb5
      go_wp2_with fail
      refine bodyPost_ret (v := .tuple #[.agg #[.int .i64 2, .string xt, .int .i64 0, .slice none 0 0], .int .i64 0]) (by simp [results, Tryz.results119, go_sem, d0, d1, d2, d3]) rfl ⟨v, none, 0, HE.out, ?_⟩
      exact ROk.fin (B := w.heap.size + 2) HM5.out HG5.out (leafR _ _ _ (in64R (by decide) (by decide)) (in64R (by decide) (by decide)) HSZ2.out) hlt (Nat.le_succ _) (by omega) hnewq.2 _ _ _ _

set_option maxRecDepth 100000 in
set_option maxHeartbeats 8000000 in
theorem rd_named_atom2 {m : Nat} (hM : m ≤ 10000) (p : Int) (ts : List Tok) (ns : Nms) (w : World) (r : Nat) (v : Value) (hm : ts.length ≤ m + 1) (hf : Fine ts) (hk : (fstT ts).isAtom = true) (h : RMem w r v ts ns)  (h7 : (fstT ts.tail).kind ≠ 7) (hneg : ¬((fstT ts).kind = 3 ∧ (fstT ts).text = [45] ∧ (fstT ts.tail).kind = 5 ∧ (fstT ts.tail).pos = (fstT ts).pos + 1)) {o : R} (ho : opR (fstT ts).text 2 = some o) (ha : aloneT (fstT ts.tail) (fstT ts.tail.tail) = true) :
    Calls Tryz.prog 119 #[.pointer (some ⟨r, 0, none⟩), .int .i64 p] w fun e w' => ROut2 r v w (.ok (atomT (fstT ts).text, 0) ts.tail ns) e w' := by
  have hlt := h.lt
  have h2 := hf.two (atom_not9 hk)
  obtain ⟨hft, hl2⟩ := hf.tail (atom_not9 hk)
  have hm2 : ts.tail.length ≤ m := by omega
  have hft1 := hft.pos
  have HH := Lib.hid (fun W' (hb : Below w.heap.size w W') => h.below hb)
  have hnewR := h.new_ne (b := w.heap.size) (Nat.le_refl _)
  have hnewq := h.new_ne (b := w.heap.size + 1) (Nat.le_succ _)
  have HNEW := Lib.hid (fun b (hb : w.heap.size ≤ b) => h.new_ne hb)
  obtain ⟨g, k, cap, hgr, hr, hlc, hcm, htr⟩ := h.ex
  have hgl : g < w.heap.size := by omega
  obtain ⟨r0, _, _, _⟩ := cellsR2 hr
  obtain ⟨c0, c1, c2, c3, htr2⟩ := htr.first hf.pos
  obtain ⟨c4, c5, c6, c7, _⟩ := htr2.first hft.pos
  have HTR := Lib.hid htr2
  have hL0 : 0 < ts.length := by omega
  have hL1 : (1 : Int) < (ts.length : Int) := by omega
  have hcap2 : 2 ≤ cap := by omega
  have hmf : ∀ (fn : Fn) (first cap : Array Value) (w : World), (Instr.makeFunc fn first cap).run Tryz.prog w = .ok (.func fn first cap) w := fun _ _ _ _ => rfl
  have HB := Lib.hid (fun o o2 : Obj => ((Below.refl w.heap.size w).alloc (Nat.le_refl _) o).alloc (by simp) o2)
  have HS1 : Hid (∀ W', Below w.heap.size w W' → W'.cell? ⟨r, 0, none⟩ = w.cell? ⟨r, 0, none⟩ ∧ ∀ i, W'.cell? ⟨g, i, none⟩ = w.cell? ⟨g, i, none⟩) := Lib.hid (fun W' hb => ⟨hb.cell (p := ⟨r, 0, none⟩) hlt, fun i => hb.cell (p := ⟨g, i, none⟩) hgl⟩)
  have HPS := Lib.hid (fun W' hm' => rd_pass W' r v ts ns hm' h2)
  have hpos := hf.first.pos
  have hsz := hf.first.size
  have HOP := Lib.hid (fun W' => by have h := ops_Prefix ⟨(fstT ts).text.toArray⟩ W'; rw [show findR tabR ⟨(fstT ts).text.toArray⟩ 2 = some o from ho, opAns_some] at h; exact h)
  have HAL : Hid (∀ W', Below w.heap.size w W' → Calls Tryz.prog 143 #[.slice (some ⟨g, k + 4, none⟩) (ts.length - 1) (cap - 1)] W' fun e w' => e = .returned (.bool true) ∧ Below W'.heap.size W' w') := Lib.hid (fun W' hb => by
    have := rd_alone W' g (k + 4) (cap - 1) ts.tail (HTR.out.kept (fun _ => hb.block g hgl)) hft
    rw [ha, show ts.tail.length = ts.length - 1 from by omega] at this
    exact this)
  have HSL : Hid (sliced (some ⟨g, k, none⟩) 1 ts.length cap 4 = .slice (some ⟨g, k + 4, none⟩) (ts.length - 1) (cap - 1)) := Lib.hid (by have := sliced_tok g k (ts.length - 1) cap hcap2; rwa [Nat.sub_add_cancel (by omega)] at this)
  clear ha hf hft hk
  generalize fstT ts.tail = t1 at *
  generalize fstT ts = t0 at *
  obtain ⟨xk, xl, xn, xp⟩ := t0
  obtain ⟨yk, yl, yn, yp⟩ := t1
  dsimp only at *
  generalize (⟨yl.toArray⟩ : ByteArray) = yt at *
  have hb7 : (yk == 7) = false := by simpa using h7
  have HNB : Hid ((xk == 3 && (⟨xl.toArray⟩ : ByteArray).toList == [45] && yk == 5 && (yp : Int) == (xp : Int) + 1) = false) := Lib.hid (by
    rw [text_is]
    by_cases c1 : xk = 3
    · by_cases c2 : xl = [45]
      · by_cases c3 : yk = 5
        · have c4 : yp ≠ xp + 1 := fun c => hneg ⟨c1, c2, c3, c⟩
          have c5 : ¬ ((yp : Int) = (xp : Int) + 1) := by omega
          simp [c5]
        · simp [c3]
      · simp [c2]
    · simp [c1])
  have HSZ : Hid ((⟨xl.toArray⟩ : ByteArray).size ≤ maxLen) := Lib.hid (show xl.toArray.size ≤ maxLen by have e : maxLen = 9223372036854775807 := rfl; simp only [List.size_toArray]; omega)
  clear h7 hneg hsz
  have HE : Hid (Ending.returned (.tuple #[.agg #[.int .i64 2, .string ⟨xl.toArray⟩, .int .i64 0, .slice none 0 0], .int .i64 0]) = Ending.returned (.tuple #[tmv (atomT xl) none 0, .int .i64 0])) := Lib.hid rfl
  have HSZ2 : Hid (xl.toArray.size ≤ maxLen) := Lib.hid HSZ.out
  generalize (⟨xl.toArray⟩ : ByteArray) = xt at *
  generalize hLn : ts.length = L at *
  have HLN := Lib.hid hLn
  clear hLn h hr htr htr2
  have HS0 : Hid (∀ W, Below w.heap.size w W → W.cell? ⟨r, 0, none⟩ = some (.slice (some ⟨g, k, none⟩) L cap) ∧ W.cell? ⟨g, k, none⟩ = some (.int .i64 xk) ∧ W.cell? ⟨g, k + 1, none⟩ = some (.string xt) ∧ W.cell? ⟨g, k + 2, none⟩ = some (.int .i64 xn) ∧ W.cell? ⟨g, k + 3, none⟩ = some (.int .i64 (xp : Nat)) ∧ W.cell? ⟨g, k + 4, none⟩ = some (.int .i64 yk) ∧ W.cell? ⟨g, k + 4 + 1, none⟩ = some (.string yt) ∧ W.cell? ⟨g, k + 4 + 2, none⟩ = some (.int .i64 yn) ∧ W.cell? ⟨g, k + 4 + 3, none⟩ = some (.int .i64 (yp : Nat))) := Lib.hid (fun W hb => by obtain ⟨q1, q2⟩ := HS1.out W hb; rw [q1, q2, q2, q2, q2, q2, q2, q2, q2]; exact ⟨r0, c0, c1, c2, c3, c4, c5, c6, c7⟩)
  clear r0 c0 c1 c2 c3 c4 c5 c6 c7
  go_enter Tryz.func119, Tryz.ntmps119
  go_wp2_with fail
  generalize hw1 : (w.alloc (.cells #[.pointer (some ⟨r, 0, none⟩)] 53)).alloc (.cells #[.int .i64 0, .string ⟨#[]⟩, .int .i64 0, .slice none 0 0] 30) = w1
  have hb01 : Below w.heap.size w w1 := by rw [← hw1]; exact HB.out _ _
  have hs01 : w1.heap.size = w.heap.size + 2 := by rw [← hw1]; simp
  have hR1 : w1.heap[w.heap.size]? = some (.cells #[.pointer (some ⟨r, 0, none⟩)] 53 (0, 0)) := by rw [← hw1]; exact pastR (newR w _) _
  have hQ1 : w1.heap[w.heap.size + 1]? = some (.cells #[.int .i64 0, .string ⟨#[]⟩, .int .i64 0, .slice none 0 0] 30 (0, 0)) := by rw [← hw1]; have := newR (w.alloc (.cells #[.pointer (some ⟨r, 0, none⟩)] 53)) (.cells #[.int .i64 0, .string ⟨#[]⟩, .int .i64 0, .slice none 0 0] 30); rwa [World.size_alloc] at this
  have HS : Hid (∀ W, Below w1.heap.size w1 W → W.cell? ⟨w.heap.size, 0, none⟩ = some (.pointer (some ⟨r, 0, none⟩)) ∧ W.cell? ⟨r, 0, none⟩ = some (.slice (some ⟨g, k, none⟩) L cap) ∧ W.cell? ⟨g, k, none⟩ = some (.int .i64 xk) ∧ W.cell? ⟨g, k + 1, none⟩ = some (.string xt) ∧ W.cell? ⟨g, k + 2, none⟩ = some (.int .i64 xn) ∧ W.cell? ⟨g, k + 3, none⟩ = some (.int .i64 (xp : Nat)) ∧ W.cell? ⟨g, k + 4, none⟩ = some (.int .i64 yk) ∧ W.cell? ⟨g, k + 4 + 1, none⟩ = some (.string yt) ∧ W.cell? ⟨g, k + 4 + 2, none⟩ = some (.int .i64 yn) ∧ W.cell? ⟨g, k + 4 + 3, none⟩ = some (.int .i64 (yp : Nat))) := Lib.hid (fun W hb => ⟨(cellsR1 (keptR hb hR1)).1, HS0.out W (hb01.trans (hb.mono hb01.size))⟩)
  have HBA := Lib.hid (fun o : Obj => (Below.refl w1.heap.size w1).drew.alloc (w := w1.drew) (Nat.le_refl _) o)
  have HBB := Lib.hid (fun o o2 : Obj => (HBA.out o).alloc (by simp) o2)
  have HBC := Lib.hid (fun o o2 : Obj => (((Below.refl w1.heap.size w1).alloc (Nat.le_refl _) o).alloc (by simp) o2).drew)
  have HR1 := Lib.hid hR1
  have HQ1 := Lib.hid hQ1
  have HB01 := Lib.hid hb01
  have HS01 := Lib.hid hs01
  clear hw1 hb01 hR1 hQ1 hs01
  go_cut [6, 7] (fun s6 s7 wx => ∃ X Y, s6 = .pointer (some ⟨X, 0, none⟩) ∧ s7 = .pointer (some ⟨Y, 0, none⟩) ∧ Hid (Below w1.heap.size w1 wx ∧ w1.heap.size ≤ X ∧ w1.heap.size ≤ Y ∧ wx.heap[X]? = some (.cells #[.int .i64 xk, .string xt, .int .i64 xn, .int .i64 (xp : Nat)] 41 (0, 0)) ∧ wx.heap[Y]? = some (.cells #[.int .i64 yk, .string yt, .int .i64 yn, .int .i64 (yp : Nat)] 41 (0, 0))))
  case first =>
    refine wp_region_held_drew (S := (fun W => W.cell? ⟨w.heap.size, 0, none⟩ = some (.pointer (some ⟨r, 0, none⟩)) ∧ W.cell? ⟨r, 0, none⟩ = some (.slice (some ⟨g, k, none⟩) L cap) ∧ W.cell? ⟨g, k, none⟩ = some (.int .i64 xk) ∧ W.cell? ⟨g, k + 1, none⟩ = some (.string xt) ∧ W.cell? ⟨g, k + 2, none⟩ = some (.int .i64 xn) ∧ W.cell? ⟨g, k + 3, none⟩ = some (.int .i64 (xp : Nat)) ∧ W.cell? ⟨g, k + 4, none⟩ = some (.int .i64 yk) ∧ W.cell? ⟨g, k + 4 + 1, none⟩ = some (.string yt) ∧ W.cell? ⟨g, k + 4 + 2, none⟩ = some (.int .i64 yn) ∧ W.cell? ⟨g, k + 4 + 3, none⟩ = some (.int .i64 (yp : Nat)))) (by kernel_rfl) (HS.out _ (Below.refl _ w1).drew) (fun hHeld40 => ?_)
    refine wpAnyH_take (i := 0) (oi := _) (v := ?v41) rfl (by kernel_rfl) (by kernel_rfl) (by kernel_rfl) (fun _ _ _ h => h) (Or.inl ⟨by rfl, ?y41⟩) (by assumption) ?r41
    case y41 => (intro w hSw; (try dsimp only at hSw); go_simp; try with_reducible rfl)
    try simp only [Act.put]
    try simp only [List.setIfInBounds_toArray]
    try simp only [List.set_cons_zero]
    try simp only [List.set_cons_succ]
    try simp only [List.set_cons_zero]
    refine wpAnyH_take (i := 1) (oi := _) (v := ?v42) rfl (by kernel_rfl) (by kernel_rfl) (by kernel_rfl) (fun _ _ _ h => h) (Or.inl ⟨by rfl, ?y42⟩) (by assumption) ?r42
    case y42 => (intro w hSw; (try dsimp only at hSw); go_simp; try with_reducible rfl)
    try simp only [Act.put]
    try simp only [List.setIfInBounds_toArray]
    try simp only [List.set_cons_zero]
    try simp only [List.set_cons_succ]
    try simp only [List.set_cons_zero]
    refine wpAnyH_take (i := 2) (oi := _) (v := ?v43) rfl (by kernel_rfl) (by kernel_rfl) (by kernel_rfl) (fun _ _ _ h => h) (Or.inl ⟨by rfl, ?y43⟩) (by assumption) ?r43
    case y43 => (intro w hSw; (try dsimp only at hSw); go_simp; try with_reducible rfl)
    try simp only [Act.put]
    try simp only [List.setIfInBounds_toArray]
    try simp only [List.set_cons_zero]
    try simp only [List.set_cons_succ]
    try simp only [List.set_cons_zero]
    refine wpAnyH_take (i := 3) (oi := _) (v := ?v44) rfl (by kernel_rfl) (by kernel_rfl) (by kernel_rfl) (fun _ _ _ h => h) (Or.inl ⟨by rfl, ?y44⟩) (by assumption) ?r44
    case y44 => (intro w hSw; (try dsimp only at hSw); go_simp; try with_reducible rfl)
    try simp only [Act.put]
    try simp only [List.setIfInBounds_toArray]
    try simp only [List.set_cons_zero]
    try simp only [List.set_cons_succ]
    try simp only [List.set_cons_zero]
    refine wpAnyH_take (i := 4) (oi := _) (v := ?v45) rfl (by kernel_rfl) (by kernel_rfl) (by kernel_rfl) (fun _ _ _ h => h) (Or.inl ⟨by rfl, ?y45⟩) (by assumption) ?r45
    case y45 => (intro w hSw; (try dsimp only at hSw); go_simp; try with_reducible rfl)
    try simp only [Act.put]
    try simp only [List.setIfInBounds_toArray]
    try simp only [List.set_cons_zero]
    try simp only [List.set_cons_succ]
    try simp only [List.set_cons_zero]
    refine wpAnyH_take (i := 5) (oi := _) (v := ?v46) rfl (by kernel_rfl) (by kernel_rfl) (by kernel_rfl) (fun _ _ _ h => h) (Or.inl ⟨by rfl, ?y46⟩) (by assumption) ?r46
    case y46 => (intro w hSw; (try dsimp only at hSw); go_simp; try with_reducible rfl)
    try simp only [Act.put]
    try simp only [List.setIfInBounds_toArray]
    try simp only [List.set_cons_zero]
    try simp only [List.set_cons_succ]
    try simp only [List.set_cons_zero]
    refine wpAnyH_take (i := 6) (oi := _) (v := ?v47) rfl (by kernel_rfl) (by kernel_rfl) (by kernel_rfl) (fun _ _ _ h => h) (Or.inl ⟨by rfl, ?y47⟩) (by assumption) ?r47
    case y47 => (intro w hSw; (try dsimp only at hSw); go_simp; try with_reducible rfl)
    try simp only [Act.put]
    try simp only [List.setIfInBounds_toArray]
    try simp only [List.set_cons_zero]
    try simp only [List.set_cons_succ]
    try simp only [List.set_cons_zero]
    refine wpAnyH_take (i := 7) (oi := _) (v := ?v48) rfl (by kernel_rfl) (by kernel_rfl) (by kernel_rfl) (fun _ _ _ h => h) (Or.inl ⟨by rfl, ?y48⟩) (by assumption) ?r48
    case y48 => (intro w hSw; (try dsimp only at hSw); go_simp; try with_reducible rfl)
    try simp only [Act.put]
    try simp only [List.setIfInBounds_toArray]
    try simp only [List.set_cons_zero]
    try simp only [List.set_cons_succ]
    try simp only [List.set_cons_zero]
    refine wpAnyH_take (i := 8) (oi := _) (v := ?v49) rfl (by kernel_rfl) (by kernel_rfl) (by kernel_rfl) (fun _ _ _ h => h) (Or.inl ⟨by rfl, ?y49⟩) (by assumption) ?r49
    case y49 => (intro w hSw; (try dsimp only at hSw); go_simp; try with_reducible rfl)
    try simp only [Act.put]
    try simp only [List.setIfInBounds_toArray]
    try simp only [List.set_cons_zero]
    try simp only [List.set_cons_succ]
    try simp only [List.set_cons_zero]
    refine wpAnyH_take (i := 9) (oi := _) (v := ?v50) rfl (by kernel_rfl) (by kernel_rfl) (by kernel_rfl) (fun _ _ _ h => h) (Or.inl ⟨by rfl, ?y50⟩) (by assumption) ?r50
    case y50 => (intro w hSw; (try dsimp only at hSw); go_simp; try with_reducible rfl)
    try simp only [Act.put]
    try simp only [List.setIfInBounds_toArray]
    try simp only [List.set_cons_zero]
    try simp only [List.set_cons_succ]
    try simp only [List.set_cons_zero]
    refine wpAnyH_take (i := 10) (oi := _) (v := ?v51) rfl (by kernel_rfl) (by kernel_rfl) (by kernel_rfl) (fun _ _ _ h => h) (Or.inl ⟨by rfl, ?y51⟩) (by assumption) ?r51
    case y51 => (intro w hSw; (try dsimp only at hSw); go_simp; try with_reducible rfl)
    try simp only [Act.put]
    try simp only [List.setIfInBounds_toArray]
    try simp only [List.set_cons_zero]
    try simp only [List.set_cons_succ]
    try simp only [List.set_cons_zero]
    refine wpAnyH_take (i := 11) (oi := _) (v := ?v52) rfl (by kernel_rfl) (by kernel_rfl) (by kernel_rfl) (fun _ _ _ h => h) (Or.inl ⟨by rfl, ?y52⟩) (by assumption) ?r52
    case y52 => (intro w hSw; (try dsimp only at hSw); go_simp; try with_reducible rfl)
    try simp only [Act.put]
    try simp only [List.setIfInBounds_toArray]
    try simp only [List.set_cons_zero]
    try simp only [List.set_cons_succ]
    try simp only [List.set_cons_zero]
    refine wpAnyH_ready (rs := [12, 13]) (by kernel_rfl) (by simp) ?_
    refine AllReadyH.cons (o := _) rfl (fun K hK => ?_) (AllReadyH.cons (o := _) rfl (fun K hK => ?_) AllReadyH.nil)
    · go_simp
      refine hK.out _ _ (HS.out _ (HBA.out _)) (fun hHeldA => ?_)
      clear hK K
      try simp only [Act.put]
      try simp only [List.setIfInBounds_toArray]
      try simp only [List.set_cons_zero]
      try simp only [List.set_cons_succ]
      try simp only [List.set_cons_zero]
      refine wpAnyH_ready (rs := [13]) (by kernel_rfl) (by simp) ?_
      refine AllReadyH.cons (o := _) rfl (fun K hK => ?_) AllReadyH.nil
      go_simp
      refine hK.out _ _ (HS.out _ (HBB.out _ _)) (fun hHeldB => ?_)
      clear hK K hHeldA
      try simp only [Act.put]
      try simp only [List.setIfInBounds_toArray]
      try simp only [List.set_cons_zero]
      try simp only [List.set_cons_succ]
      try simp only [List.set_cons_zero]
      refine wpAnyH_ready (rs := [14]) (by kernel_rfl) (by simp) ?_
      refine AllReadyH.cons (o := _) rfl (fun K hK => ?_) AllReadyH.nil
      go_simp
      refine hK.out _ _ (HS.out _ (HBC.out _ _)) (fun hHeld14 => ?_)
      clear hK K hHeldB
      try simp only [Act.put]
      try simp only [List.setIfInBounds_toArray]
      try simp only [List.set_cons_zero]
      try simp only [List.set_cons_succ]
      try simp only [List.set_cons_zero]
      refine wpAnyH_ready (rs := [15]) (by kernel_rfl) (by simp) ?_
      refine AllReadyH.cons (o := _) rfl (fun K hK => ?_) AllReadyH.nil
      go_simp
      refine hK.out _ _ (HS.out _ (HBC.out _ _)) (fun hHeld15 => ?_)
      clear hK K hHeld14
      try simp only [Act.put]
      try simp only [List.setIfInBounds_toArray]
      try simp only [List.set_cons_zero]
      try simp only [List.set_cons_succ]
      try simp only [List.set_cons_zero]
      refine wpAnyH_done (by kernel_rfl) ?_ _
      go_wp2_with fail
      go_meet
      exact ⟨w1.heap.size, w1.heap.size + 1, rfl, rfl, Lib.hid ⟨HBC.out _ _, Nat.le_refl _, Nat.le_succ _, (pastR (newR w1 (.cells #[.int .i64 xk, .string xt, .int .i64 xn, .int .i64 (xp : Nat)] 41)) (.cells #[.int .i64 yk, .string yt, .int .i64 yn, .int .i64 (yp : Nat)] 41) : ((w1.alloc (.cells #[.int .i64 xk, .string xt, .int .i64 xn, .int .i64 (xp : Nat)] 41)).alloc (.cells #[.int .i64 yk, .string yt, .int .i64 yn, .int .i64 (yp : Nat)] 41)).heap[w1.heap.size]? = _), (by have := newR (w1.alloc (.cells #[.int .i64 xk, .string xt, .int .i64 xn, .int .i64 (xp : Nat)] 41)) (.cells #[.int .i64 yk, .string yt, .int .i64 yn, .int .i64 (yp : Nat)] 41); rwa [World.size_alloc] at this : ((w1.alloc (.cells #[.int .i64 xk, .string xt, .int .i64 xn, .int .i64 (xp : Nat)] 41)).alloc (.cells #[.int .i64 yk, .string yt, .int .i64 yn, .int .i64 (yp : Nat)] 41)).heap[w1.heap.size + 1]? = some (.cells #[.int .i64 yk, .string yt, .int .i64 yn, .int .i64 (yp : Nat)] 41 (0, 0)))⟩⟩
    · go_simp
      refine hK.out _ _ (HS.out _ (HBA.out _)) (fun hHeldA => ?_)
      clear hK K
      try simp only [Act.put]
      try simp only [List.setIfInBounds_toArray]
      try simp only [List.set_cons_zero]
      try simp only [List.set_cons_succ]
      try simp only [List.set_cons_zero]
      refine wpAnyH_ready (rs := [12]) (by kernel_rfl) (by simp) ?_
      refine AllReadyH.cons (o := _) rfl (fun K hK => ?_) AllReadyH.nil
      go_simp
      refine hK.out _ _ (HS.out _ (HBB.out _ _)) (fun hHeldB => ?_)
      clear hK K hHeldA
      try simp only [Act.put]
      try simp only [List.setIfInBounds_toArray]
      try simp only [List.set_cons_zero]
      try simp only [List.set_cons_succ]
      try simp only [List.set_cons_zero]
      refine wpAnyH_ready (rs := [14]) (by kernel_rfl) (by simp) ?_
      refine AllReadyH.cons (o := _) rfl (fun K hK => ?_) AllReadyH.nil
      go_simp
      refine hK.out _ _ (HS.out _ (HBC.out _ _)) (fun hHeld14 => ?_)
      clear hK K hHeldB
      try simp only [Act.put]
      try simp only [List.setIfInBounds_toArray]
      try simp only [List.set_cons_zero]
      try simp only [List.set_cons_succ]
      try simp only [List.set_cons_zero]
      refine wpAnyH_ready (rs := [15]) (by kernel_rfl) (by simp) ?_
      refine AllReadyH.cons (o := _) rfl (fun K hK => ?_) AllReadyH.nil
      go_simp
      refine hK.out _ _ (HS.out _ (HBC.out _ _)) (fun hHeld15 => ?_)
      clear hK K hHeld14
      try simp only [Act.put]
      try simp only [List.setIfInBounds_toArray]
      try simp only [List.set_cons_zero]
      try simp only [List.set_cons_succ]
      try simp only [List.set_cons_zero]
      refine wpAnyH_done (by kernel_rfl) ?_ _
      go_wp2_with fail
      go_meet
      exact ⟨w1.heap.size + 1, w1.heap.size, rfl, rfl, Lib.hid ⟨HBC.out _ _, Nat.le_succ _, Nat.le_refl _, (by have := newR (w1.alloc (.cells #[.int .i64 yk, .string yt, .int .i64 yn, .int .i64 (yp : Nat)] 41)) (.cells #[.int .i64 xk, .string xt, .int .i64 xn, .int .i64 (xp : Nat)] 41); rwa [World.size_alloc] at this : ((w1.alloc (.cells #[.int .i64 yk, .string yt, .int .i64 yn, .int .i64 (yp : Nat)] 41)).alloc (.cells #[.int .i64 xk, .string xt, .int .i64 xn, .int .i64 (xp : Nat)] 41)).heap[w1.heap.size + 1]? = some (.cells #[.int .i64 xk, .string xt, .int .i64 xn, .int .i64 (xp : Nat)] 41 (0, 0))), (pastR (newR w1 (.cells #[.int .i64 yk, .string yt, .int .i64 yn, .int .i64 (yp : Nat)] 41)) (.cells #[.int .i64 xk, .string xt, .int .i64 xn, .int .i64 (xp : Nat)] 41) : ((w1.alloc (.cells #[.int .i64 yk, .string yt, .int .i64 yn, .int .i64 (yp : Nat)] 41)).alloc (.cells #[.int .i64 xk, .string xt, .int .i64 xn, .int .i64 (xp : Nat)] 41)).heap[w1.heap.size]? = _)⟩⟩
  case rest =>
    obtain ⟨X, Y, rfl, rfl, HXY⟩ := hcut
    obtain ⟨hbc, hX0, hY0, hX, hY⟩ := HXY.out
    have hs01 := HS01.out
    have HBW : Hid (Below w.heap.size w wc) := Lib.hid (HB01.out.trans (hbc.mono HB01.out.size))
    have HX := Lib.hid hX
    have HY := Lib.hid hY
    have HRB := Lib.hid (keptR hbc HR1.out)
    have HQB := Lib.hid (keptR hbc HQ1.out)
    obtain ⟨a0, a1, a2, a3, _⟩ := cellsR4 hX
    obtain ⟨b0, b1, b2, b3, _⟩ := cellsR4 hY
    obtain ⟨rr0, _⟩ := cellsR1 HRB.out
    have hX1 : w.heap.size + 2 ≤ X := by omega
    have hY1 : w.heap.size + 2 ≤ Y := by omega
    clear hbc hX hY HXY hs01 HBA HBB HBC HS hX0 hY0 HS01
    go_upto_region 5 with fail
    go_cut [50] (fun s50 wx => s50 = .bool false ∧ wx = wc)
    case first =>
      have hnb := HNB.out
      cases hb3 : (xk == 3) with
      | false => (clear hnb; go_wp2_with (omega); go_meet; exact ⟨rfl, rfl⟩)
      | true =>
        cases hb4 : (xt.toList == [45]) with
        | false => (clear hnb; go_wp2_with (omega); go_meet; exact ⟨rfl, rfl⟩)
        | true =>
          cases hb5 : (yk == 5) with
          | false => (clear hnb; go_wp2_with (omega); go_meet; exact ⟨rfl, rfl⟩)
          | true =>
            have hbp : ((yp : Int) == (xp : Int) + 1) = false := by rw [hb3, hb4, hb5] at hnb; simpa using hnb
            clear hnb
            go_wp2_with (omega)
            go_meet
            exact ⟨rfl, rfl⟩
    case rest =>
      obtain ⟨rfl, hwc⟩ := hcut
      subst hwc
      go_wp2_with fail
      refine (HOP.out _).mono ?_; rintro e w2 ⟨rfl, hb2⟩
      have HB2 := Lib.hid (HBW.out.trans (hb2.mono HBW.out.size))
      have HBO := Lib.hid (fun o : Obj => HB2.out.alloc HB2.out.size o)
      go_upto_region 10 with fail
      generalize hw3 : w2.alloc (.cells #[.int .i64 o.p, .string o.k] 102) = w3
      have hb3 : Below wc.heap.size wc w3 := by rw [← hw3]; exact hb2.alloc hb2.size _
      have HB3 : Hid (Below w.heap.size w w3) := Lib.hid (by rw [← hw3]; exact HBO.out _)
      have HO3 : Hid (w3.heap[w2.heap.size]? = some (.cells #[.int .i64 o.p, .string o.k] 102 (0, 0))) := Lib.hid (by rw [← hw3]; exact newR w2 _)
      have hs3 : w3.heap.size = w2.heap.size + 1 := by rw [← hw3]; simp
      have HX3 := Lib.hid (keptR hb3 HX.out)
      have HR3 := Lib.hid (keptR hb3 HRB.out)
      have HQ3 := Lib.hid (keptR hb3 HQB.out)
      have hs2 := hb2.size
      have hXl := (Array.getElem?_eq_some_iff.1 HX.out).1
      obtain ⟨rr3, _⟩ := cellsR1 HR3.out
      clear hw3 hb2 HBO a0 a1 a2 a3 b0 b1 b2 b3 rr0 hb3
      obtain ⟨q0, _⟩ := HS0.out _ HB3.out
      have hsl := HSL.out
      have hl1 : (1 : Int) ≤ (L : Int) := by omega
      have hl2 : (L : Int) ≤ (cap : Int) := by omega
      go_wp2_with fail
      refine (HAL.out _ HB3.out).mono ?_; rintro e w4 ⟨rfl, hb4⟩
      have hs4 := hb4.size
      have HB3 := Lib.hid (HB3.out.trans (hb4.mono HB3.out.size))
      have HX3 := Lib.hid (keptR hb4 HX3.out)
      have HR3 := Lib.hid (keptR hb4 HR3.out)
      have HQ3 := Lib.hid (keptR hb4 HQ3.out)
      have HO3 := Lib.hid (keptR hb4 HO3.out)
      obtain ⟨rr3, _⟩ := cellsR1 HR3.out
      obtain ⟨oo0, oo1, _⟩ := cellsR2 HO3.out
      clear hb4 q0 hsl HSL HAL
      go_wp2_with fail
      refine (HPS.out _ (HH.out _ HB3.out)).mono ?_; rintro e w5 ⟨rfl, hm4, hg4⟩
      have HG4 := Lib.hid ((RGo.of_below (r := r) (v := v) HB3.out (Nat.le_of_lt hlt)).trans hg4)
      have HQ4 := Lib.hid (hg4.at HQ3.out hnewq.1 hnewq.2)
      have hX2 := HNEW.out X (by omega)
      obtain ⟨a0, a1, a2, a3, _⟩ := cellsR4 (hg4.at HX3.out hX2.1 hX2.2)
      have HM4 := Lib.hid hm4
      clear hm4 hg4
      go_wp2_with fail
      refine (rd_atom _ _).mono ?_; rintro e w6 ⟨rfl, hb6⟩
      have HG5 := Lib.hid (HG4.out.trans (RGo.of_below (r := r) (v := v) hb6 (Nat.le_trans (Nat.le_of_lt hlt) HG4.out.below.size)))
      have HQ5 := Lib.hid (keptR hb6 HQ4.out)
      have HM5 := Lib.hid (HM4.out.below hb6)
      obtain ⟨d0, d1, d2, d3, e0, e1, e2, e3⟩ := cellsR4 HQ5.out
      clear hb6
      go_wp2_with fail
      refine bodyPost_ret (v := .tuple #[.agg #[.int .i64 2, .string xt, .int .i64 0, .slice none 0 0], .int .i64 0]) (by simp [results, Tryz.results119, go_sem, d0, d1, d2, d3]) rfl ⟨v, none, 0, HE.out, ?_⟩
      exact ROk.fin (B := w.heap.size + 2) HM5.out HG5.out (leafR _ _ _ (in64R (by decide) (by decide)) (in64R (by decide) (by decide)) HSZ2.out) hlt (Nat.le_succ _) (by omega) hnewq.2 _ _ _ _

set_option maxRecDepth 100000 in
set_option maxHeartbeats 8000000 in
theorem rd_named_low {m : Nat} (hM : m ≤ 10000) (p : Int) (ts : List Tok) (ns : Nms) (w : World) (r : Nat) (v : Value) (hm : ts.length ≤ m + 1) (hf : Fine ts) (hk : (fstT ts).isAtom = true) (h : RMem w r v ts ns)  (h7 : (fstT ts.tail).kind ≠ 7) (hneg : ¬((fstT ts).kind = 3 ∧ (fstT ts).text = [45] ∧ (fstT ts.tail).kind = 5 ∧ (fstT ts.tail).pos = (fstT ts).pos + 1)) {o : R} (ho : opR (fstT ts).text 2 = some o) (ha : aloneT (fstT ts.tail) (fstT ts.tail.tail) = false) (hpo : p < o.p) :
    Calls Tryz.prog 119 #[.pointer (some ⟨r, 0, none⟩), .int .i64 p] w fun e w' => ROut2 r v w (.bad (fstT ts).pos) e w' := by
  have hlt := h.lt
  have h2 := hf.two (atom_not9 hk)
  obtain ⟨hft, hl2⟩ := hf.tail (atom_not9 hk)
  have hm2 : ts.tail.length ≤ m := by omega
  have hft1 := hft.pos
  have HH := Lib.hid (fun W' (hb : Below w.heap.size w W') => h.below hb)
  have hnewR := h.new_ne (b := w.heap.size) (Nat.le_refl _)
  have hnewq := h.new_ne (b := w.heap.size + 1) (Nat.le_succ _)
  have HNEW := Lib.hid (fun b (hb : w.heap.size ≤ b) => h.new_ne hb)
  obtain ⟨g, k, cap, hgr, hr, hlc, hcm, htr⟩ := h.ex
  have hgl : g < w.heap.size := by omega
  obtain ⟨r0, _, _, _⟩ := cellsR2 hr
  obtain ⟨c0, c1, c2, c3, htr2⟩ := htr.first hf.pos
  obtain ⟨c4, c5, c6, c7, _⟩ := htr2.first hft.pos
  have HTR := Lib.hid htr2
  have hL0 : 0 < ts.length := by omega
  have hL1 : (1 : Int) < (ts.length : Int) := by omega
  have hcap2 : 2 ≤ cap := by omega
  have hmf : ∀ (fn : Fn) (first cap : Array Value) (w : World), (Instr.makeFunc fn first cap).run Tryz.prog w = .ok (.func fn first cap) w := fun _ _ _ _ => rfl
  have HB := Lib.hid (fun o o2 : Obj => ((Below.refl w.heap.size w).alloc (Nat.le_refl _) o).alloc (by simp) o2)
  have HS1 : Hid (∀ W', Below w.heap.size w W' → W'.cell? ⟨r, 0, none⟩ = w.cell? ⟨r, 0, none⟩ ∧ ∀ i, W'.cell? ⟨g, i, none⟩ = w.cell? ⟨g, i, none⟩) := Lib.hid (fun W' hb => ⟨hb.cell (p := ⟨r, 0, none⟩) hlt, fun i => hb.cell (p := ⟨g, i, none⟩) hgl⟩)
  have HPS := Lib.hid (fun W' hm' => rd_pass W' r v ts ns hm' h2)
  have hpos := hf.first.pos
  have hsz := hf.first.size
  have HOP := Lib.hid (fun W' => by have h := ops_Prefix ⟨(fstT ts).text.toArray⟩ W'; rw [show findR tabR ⟨(fstT ts).text.toArray⟩ 2 = some o from ho, opAns_some] at h; exact h)
  have HAL : Hid (∀ W', Below w.heap.size w W' → Calls Tryz.prog 143 #[.slice (some ⟨g, k + 4, none⟩) (ts.length - 1) (cap - 1)] W' fun e w' => e = .returned (.bool false) ∧ Below W'.heap.size W' w') := Lib.hid (fun W' hb => by
    have := rd_alone W' g (k + 4) (cap - 1) ts.tail (HTR.out.kept (fun _ => hb.block g hgl)) hft
    rw [ha, show ts.tail.length = ts.length - 1 from by omega] at this
    exact this)
  have HSL : Hid (sliced (some ⟨g, k, none⟩) 1 ts.length cap 4 = .slice (some ⟨g, k + 4, none⟩) (ts.length - 1) (cap - 1)) := Lib.hid (by have := sliced_tok g k (ts.length - 1) cap hcap2; rwa [Nat.sub_add_cancel (by omega)] at this)
  have HRF := Lib.hid (fun W' hm' => rd_refuse W' r v ts ns hm' hf.pos)
  clear ha hf hft hk
  generalize fstT ts.tail = t1 at *
  generalize fstT ts = t0 at *
  obtain ⟨xk, xl, xn, xp⟩ := t0
  obtain ⟨yk, yl, yn, yp⟩ := t1
  dsimp only at *
  generalize (⟨yl.toArray⟩ : ByteArray) = yt at *
  have hb7 : (yk == 7) = false := by simpa using h7
  have HNB : Hid ((xk == 3 && (⟨xl.toArray⟩ : ByteArray).toList == [45] && yk == 5 && (yp : Int) == (xp : Int) + 1) = false) := Lib.hid (by
    rw [text_is]
    by_cases c1 : xk = 3
    · by_cases c2 : xl = [45]
      · by_cases c3 : yk = 5
        · have c4 : yp ≠ xp + 1 := fun c => hneg ⟨c1, c2, c3, c⟩
          have c5 : ¬ ((yp : Int) = (xp : Int) + 1) := by omega
          simp [c5]
        · simp [c3]
      · simp [c2]
    · simp [c1])
  have HSZ : Hid ((⟨xl.toArray⟩ : ByteArray).size ≤ maxLen) := Lib.hid (show xl.toArray.size ≤ maxLen by have e : maxLen = 9223372036854775807 := rfl; simp only [List.size_toArray]; omega)
  clear h7 hneg hsz
  have HE : Hid (Ending.returned (.tuple #[.agg #[.int .i64 2, .string ⟨xl.toArray⟩, .int .i64 0, .slice none 0 0], .int .i64 0]) = Ending.returned (.tuple #[tmv (atomT xl) none 0, .int .i64 0])) := Lib.hid rfl
  have HSZ2 : Hid (xl.toArray.size ≤ maxLen) := Lib.hid HSZ.out
  generalize (⟨xl.toArray⟩ : ByteArray) = xt at *
  generalize hLn : ts.length = L at *
  have HLN := Lib.hid hLn
  clear hLn h hr htr htr2
  have HS0 : Hid (∀ W, Below w.heap.size w W → W.cell? ⟨r, 0, none⟩ = some (.slice (some ⟨g, k, none⟩) L cap) ∧ W.cell? ⟨g, k, none⟩ = some (.int .i64 xk) ∧ W.cell? ⟨g, k + 1, none⟩ = some (.string xt) ∧ W.cell? ⟨g, k + 2, none⟩ = some (.int .i64 xn) ∧ W.cell? ⟨g, k + 3, none⟩ = some (.int .i64 (xp : Nat)) ∧ W.cell? ⟨g, k + 4, none⟩ = some (.int .i64 yk) ∧ W.cell? ⟨g, k + 4 + 1, none⟩ = some (.string yt) ∧ W.cell? ⟨g, k + 4 + 2, none⟩ = some (.int .i64 yn) ∧ W.cell? ⟨g, k + 4 + 3, none⟩ = some (.int .i64 (yp : Nat))) := Lib.hid (fun W hb => by obtain ⟨q1, q2⟩ := HS1.out W hb; rw [q1, q2, q2, q2, q2, q2, q2, q2, q2]; exact ⟨r0, c0, c1, c2, c3, c4, c5, c6, c7⟩)
  clear r0 c0 c1 c2 c3 c4 c5 c6 c7
  go_enter Tryz.func119, Tryz.ntmps119
  go_wp2_with fail
  generalize hw1 : (w.alloc (.cells #[.pointer (some ⟨r, 0, none⟩)] 53)).alloc (.cells #[.int .i64 0, .string ⟨#[]⟩, .int .i64 0, .slice none 0 0] 30) = w1
  have hb01 : Below w.heap.size w w1 := by rw [← hw1]; exact HB.out _ _
  have hs01 : w1.heap.size = w.heap.size + 2 := by rw [← hw1]; simp
  have hR1 : w1.heap[w.heap.size]? = some (.cells #[.pointer (some ⟨r, 0, none⟩)] 53 (0, 0)) := by rw [← hw1]; exact pastR (newR w _) _
  have hQ1 : w1.heap[w.heap.size + 1]? = some (.cells #[.int .i64 0, .string ⟨#[]⟩, .int .i64 0, .slice none 0 0] 30 (0, 0)) := by rw [← hw1]; have := newR (w.alloc (.cells #[.pointer (some ⟨r, 0, none⟩)] 53)) (.cells #[.int .i64 0, .string ⟨#[]⟩, .int .i64 0, .slice none 0 0] 30); rwa [World.size_alloc] at this
  have HS : Hid (∀ W, Below w1.heap.size w1 W → W.cell? ⟨w.heap.size, 0, none⟩ = some (.pointer (some ⟨r, 0, none⟩)) ∧ W.cell? ⟨r, 0, none⟩ = some (.slice (some ⟨g, k, none⟩) L cap) ∧ W.cell? ⟨g, k, none⟩ = some (.int .i64 xk) ∧ W.cell? ⟨g, k + 1, none⟩ = some (.string xt) ∧ W.cell? ⟨g, k + 2, none⟩ = some (.int .i64 xn) ∧ W.cell? ⟨g, k + 3, none⟩ = some (.int .i64 (xp : Nat)) ∧ W.cell? ⟨g, k + 4, none⟩ = some (.int .i64 yk) ∧ W.cell? ⟨g, k + 4 + 1, none⟩ = some (.string yt) ∧ W.cell? ⟨g, k + 4 + 2, none⟩ = some (.int .i64 yn) ∧ W.cell? ⟨g, k + 4 + 3, none⟩ = some (.int .i64 (yp : Nat))) := Lib.hid (fun W hb => ⟨(cellsR1 (keptR hb hR1)).1, HS0.out W (hb01.trans (hb.mono hb01.size))⟩)
  have HBA := Lib.hid (fun o : Obj => (Below.refl w1.heap.size w1).drew.alloc (w := w1.drew) (Nat.le_refl _) o)
  have HBB := Lib.hid (fun o o2 : Obj => (HBA.out o).alloc (by simp) o2)
  have HBC := Lib.hid (fun o o2 : Obj => (((Below.refl w1.heap.size w1).alloc (Nat.le_refl _) o).alloc (by simp) o2).drew)
  have HR1 := Lib.hid hR1
  have HQ1 := Lib.hid hQ1
  have HB01 := Lib.hid hb01
  have HS01 := Lib.hid hs01
  clear hw1 hb01 hR1 hQ1 hs01
  go_cut [6, 7] (fun s6 s7 wx => ∃ X Y, s6 = .pointer (some ⟨X, 0, none⟩) ∧ s7 = .pointer (some ⟨Y, 0, none⟩) ∧ Hid (Below w1.heap.size w1 wx ∧ w1.heap.size ≤ X ∧ w1.heap.size ≤ Y ∧ wx.heap[X]? = some (.cells #[.int .i64 xk, .string xt, .int .i64 xn, .int .i64 (xp : Nat)] 41 (0, 0)) ∧ wx.heap[Y]? = some (.cells #[.int .i64 yk, .string yt, .int .i64 yn, .int .i64 (yp : Nat)] 41 (0, 0))))
  case first =>
    refine wp_region_held_drew (S := (fun W => W.cell? ⟨w.heap.size, 0, none⟩ = some (.pointer (some ⟨r, 0, none⟩)) ∧ W.cell? ⟨r, 0, none⟩ = some (.slice (some ⟨g, k, none⟩) L cap) ∧ W.cell? ⟨g, k, none⟩ = some (.int .i64 xk) ∧ W.cell? ⟨g, k + 1, none⟩ = some (.string xt) ∧ W.cell? ⟨g, k + 2, none⟩ = some (.int .i64 xn) ∧ W.cell? ⟨g, k + 3, none⟩ = some (.int .i64 (xp : Nat)) ∧ W.cell? ⟨g, k + 4, none⟩ = some (.int .i64 yk) ∧ W.cell? ⟨g, k + 4 + 1, none⟩ = some (.string yt) ∧ W.cell? ⟨g, k + 4 + 2, none⟩ = some (.int .i64 yn) ∧ W.cell? ⟨g, k + 4 + 3, none⟩ = some (.int .i64 (yp : Nat)))) (by kernel_rfl) (HS.out _ (Below.refl _ w1).drew) (fun hHeld53 => ?_)
    refine wpAnyH_take (i := 0) (oi := _) (v := ?v54) rfl (by kernel_rfl) (by kernel_rfl) (by kernel_rfl) (fun _ _ _ h => h) (Or.inl ⟨by rfl, ?y54⟩) (by assumption) ?r54
    case y54 => (intro w hSw; (try dsimp only at hSw); go_simp; try with_reducible rfl)
    try simp only [Act.put]
    try simp only [List.setIfInBounds_toArray]
    try simp only [List.set_cons_zero]
    try simp only [List.set_cons_succ]
    try simp only [List.set_cons_zero]
    refine wpAnyH_take (i := 1) (oi := _) (v := ?v55) rfl (by kernel_rfl) (by kernel_rfl) (by kernel_rfl) (fun _ _ _ h => h) (Or.inl ⟨by rfl, ?y55⟩) (by assumption) ?r55
    case y55 => (intro w hSw; (try dsimp only at hSw); go_simp; try with_reducible rfl)
    try simp only [Act.put]
    try simp only [List.setIfInBounds_toArray]
    try simp only [List.set_cons_zero]
    try simp only [List.set_cons_succ]
    try simp only [List.set_cons_zero]
    refine wpAnyH_take (i := 2) (oi := _) (v := ?v56) rfl (by kernel_rfl) (by kernel_rfl) (by kernel_rfl) (fun _ _ _ h => h) (Or.inl ⟨by rfl, ?y56⟩) (by assumption) ?r56
    case y56 => (intro w hSw; (try dsimp only at hSw); go_simp; try with_reducible rfl)
    try simp only [Act.put]
    try simp only [List.setIfInBounds_toArray]
    try simp only [List.set_cons_zero]
    try simp only [List.set_cons_succ]
    try simp only [List.set_cons_zero]
    refine wpAnyH_take (i := 3) (oi := _) (v := ?v57) rfl (by kernel_rfl) (by kernel_rfl) (by kernel_rfl) (fun _ _ _ h => h) (Or.inl ⟨by rfl, ?y57⟩) (by assumption) ?r57
    case y57 => (intro w hSw; (try dsimp only at hSw); go_simp; try with_reducible rfl)
    try simp only [Act.put]
    try simp only [List.setIfInBounds_toArray]
    try simp only [List.set_cons_zero]
    try simp only [List.set_cons_succ]
    try simp only [List.set_cons_zero]
    refine wpAnyH_take (i := 4) (oi := _) (v := ?v58) rfl (by kernel_rfl) (by kernel_rfl) (by kernel_rfl) (fun _ _ _ h => h) (Or.inl ⟨by rfl, ?y58⟩) (by assumption) ?r58
    case y58 => (intro w hSw; (try dsimp only at hSw); go_simp; try with_reducible rfl)
    try simp only [Act.put]
    try simp only [List.setIfInBounds_toArray]
    try simp only [List.set_cons_zero]
    try simp only [List.set_cons_succ]
    try simp only [List.set_cons_zero]
    refine wpAnyH_take (i := 5) (oi := _) (v := ?v59) rfl (by kernel_rfl) (by kernel_rfl) (by kernel_rfl) (fun _ _ _ h => h) (Or.inl ⟨by rfl, ?y59⟩) (by assumption) ?r59
    case y59 => (intro w hSw; (try dsimp only at hSw); go_simp; try with_reducible rfl)
    try simp only [Act.put]
    try simp only [List.setIfInBounds_toArray]
    try simp only [List.set_cons_zero]
    try simp only [List.set_cons_succ]
    try simp only [List.set_cons_zero]
    refine wpAnyH_take (i := 6) (oi := _) (v := ?v60) rfl (by kernel_rfl) (by kernel_rfl) (by kernel_rfl) (fun _ _ _ h => h) (Or.inl ⟨by rfl, ?y60⟩) (by assumption) ?r60
    case y60 => (intro w hSw; (try dsimp only at hSw); go_simp; try with_reducible rfl)
    try simp only [Act.put]
    try simp only [List.setIfInBounds_toArray]
    try simp only [List.set_cons_zero]
    try simp only [List.set_cons_succ]
    try simp only [List.set_cons_zero]
    refine wpAnyH_take (i := 7) (oi := _) (v := ?v61) rfl (by kernel_rfl) (by kernel_rfl) (by kernel_rfl) (fun _ _ _ h => h) (Or.inl ⟨by rfl, ?y61⟩) (by assumption) ?r61
    case y61 => (intro w hSw; (try dsimp only at hSw); go_simp; try with_reducible rfl)
    try simp only [Act.put]
    try simp only [List.setIfInBounds_toArray]
    try simp only [List.set_cons_zero]
    try simp only [List.set_cons_succ]
    try simp only [List.set_cons_zero]
    refine wpAnyH_take (i := 8) (oi := _) (v := ?v62) rfl (by kernel_rfl) (by kernel_rfl) (by kernel_rfl) (fun _ _ _ h => h) (Or.inl ⟨by rfl, ?y62⟩) (by assumption) ?r62
    case y62 => (intro w hSw; (try dsimp only at hSw); go_simp; try with_reducible rfl)
    try simp only [Act.put]
    try simp only [List.setIfInBounds_toArray]
    try simp only [List.set_cons_zero]
    try simp only [List.set_cons_succ]
    try simp only [List.set_cons_zero]
    refine wpAnyH_take (i := 9) (oi := _) (v := ?v63) rfl (by kernel_rfl) (by kernel_rfl) (by kernel_rfl) (fun _ _ _ h => h) (Or.inl ⟨by rfl, ?y63⟩) (by assumption) ?r63
    case y63 => (intro w hSw; (try dsimp only at hSw); go_simp; try with_reducible rfl)
    try simp only [Act.put]
    try simp only [List.setIfInBounds_toArray]
    try simp only [List.set_cons_zero]
    try simp only [List.set_cons_succ]
    try simp only [List.set_cons_zero]
    refine wpAnyH_take (i := 10) (oi := _) (v := ?v64) rfl (by kernel_rfl) (by kernel_rfl) (by kernel_rfl) (fun _ _ _ h => h) (Or.inl ⟨by rfl, ?y64⟩) (by assumption) ?r64
    case y64 => (intro w hSw; (try dsimp only at hSw); go_simp; try with_reducible rfl)
    try simp only [Act.put]
    try simp only [List.setIfInBounds_toArray]
    try simp only [List.set_cons_zero]
    try simp only [List.set_cons_succ]
    try simp only [List.set_cons_zero]
    refine wpAnyH_take (i := 11) (oi := _) (v := ?v65) rfl (by kernel_rfl) (by kernel_rfl) (by kernel_rfl) (fun _ _ _ h => h) (Or.inl ⟨by rfl, ?y65⟩) (by assumption) ?r65
    case y65 => (intro w hSw; (try dsimp only at hSw); go_simp; try with_reducible rfl)
    try simp only [Act.put]
    try simp only [List.setIfInBounds_toArray]
    try simp only [List.set_cons_zero]
    try simp only [List.set_cons_succ]
    try simp only [List.set_cons_zero]
    refine wpAnyH_ready (rs := [12, 13]) (by kernel_rfl) (by simp) ?_
    refine AllReadyH.cons (o := _) rfl (fun K hK => ?_) (AllReadyH.cons (o := _) rfl (fun K hK => ?_) AllReadyH.nil)
    · go_simp
      refine hK.out _ _ (HS.out _ (HBA.out _)) (fun hHeldA => ?_)
      clear hK K
      try simp only [Act.put]
      try simp only [List.setIfInBounds_toArray]
      try simp only [List.set_cons_zero]
      try simp only [List.set_cons_succ]
      try simp only [List.set_cons_zero]
      refine wpAnyH_ready (rs := [13]) (by kernel_rfl) (by simp) ?_
      refine AllReadyH.cons (o := _) rfl (fun K hK => ?_) AllReadyH.nil
      go_simp
      refine hK.out _ _ (HS.out _ (HBB.out _ _)) (fun hHeldB => ?_)
      clear hK K hHeldA
      try simp only [Act.put]
      try simp only [List.setIfInBounds_toArray]
      try simp only [List.set_cons_zero]
      try simp only [List.set_cons_succ]
      try simp only [List.set_cons_zero]
      refine wpAnyH_ready (rs := [14]) (by kernel_rfl) (by simp) ?_
      refine AllReadyH.cons (o := _) rfl (fun K hK => ?_) AllReadyH.nil
      go_simp
      refine hK.out _ _ (HS.out _ (HBC.out _ _)) (fun hHeld14 => ?_)
      clear hK K hHeldB
      try simp only [Act.put]
      try simp only [List.setIfInBounds_toArray]
      try simp only [List.set_cons_zero]
      try simp only [List.set_cons_succ]
      try simp only [List.set_cons_zero]
      refine wpAnyH_ready (rs := [15]) (by kernel_rfl) (by simp) ?_
      refine AllReadyH.cons (o := _) rfl (fun K hK => ?_) AllReadyH.nil
      go_simp
      refine hK.out _ _ (HS.out _ (HBC.out _ _)) (fun hHeld15 => ?_)
      clear hK K hHeld14
      try simp only [Act.put]
      try simp only [List.setIfInBounds_toArray]
      try simp only [List.set_cons_zero]
      try simp only [List.set_cons_succ]
      try simp only [List.set_cons_zero]
      refine wpAnyH_done (by kernel_rfl) ?_ _
      go_wp2_with fail
      go_meet
      exact ⟨w1.heap.size, w1.heap.size + 1, rfl, rfl, Lib.hid ⟨HBC.out _ _, Nat.le_refl _, Nat.le_succ _, (pastR (newR w1 (.cells #[.int .i64 xk, .string xt, .int .i64 xn, .int .i64 (xp : Nat)] 41)) (.cells #[.int .i64 yk, .string yt, .int .i64 yn, .int .i64 (yp : Nat)] 41) : ((w1.alloc (.cells #[.int .i64 xk, .string xt, .int .i64 xn, .int .i64 (xp : Nat)] 41)).alloc (.cells #[.int .i64 yk, .string yt, .int .i64 yn, .int .i64 (yp : Nat)] 41)).heap[w1.heap.size]? = _), (by have := newR (w1.alloc (.cells #[.int .i64 xk, .string xt, .int .i64 xn, .int .i64 (xp : Nat)] 41)) (.cells #[.int .i64 yk, .string yt, .int .i64 yn, .int .i64 (yp : Nat)] 41); rwa [World.size_alloc] at this : ((w1.alloc (.cells #[.int .i64 xk, .string xt, .int .i64 xn, .int .i64 (xp : Nat)] 41)).alloc (.cells #[.int .i64 yk, .string yt, .int .i64 yn, .int .i64 (yp : Nat)] 41)).heap[w1.heap.size + 1]? = some (.cells #[.int .i64 yk, .string yt, .int .i64 yn, .int .i64 (yp : Nat)] 41 (0, 0)))⟩⟩
    · go_simp
      refine hK.out _ _ (HS.out _ (HBA.out _)) (fun hHeldA => ?_)
      clear hK K
      try simp only [Act.put]
      try simp only [List.setIfInBounds_toArray]
      try simp only [List.set_cons_zero]
      try simp only [List.set_cons_succ]
      try simp only [List.set_cons_zero]
      refine wpAnyH_ready (rs := [12]) (by kernel_rfl) (by simp) ?_
      refine AllReadyH.cons (o := _) rfl (fun K hK => ?_) AllReadyH.nil
      go_simp
      refine hK.out _ _ (HS.out _ (HBB.out _ _)) (fun hHeldB => ?_)
      clear hK K hHeldA
      try simp only [Act.put]
      try simp only [List.setIfInBounds_toArray]
      try simp only [List.set_cons_zero]
      try simp only [List.set_cons_succ]
      try simp only [List.set_cons_zero]
      refine wpAnyH_ready (rs := [14]) (by kernel_rfl) (by simp) ?_
      refine AllReadyH.cons (o := _) rfl (fun K hK => ?_) AllReadyH.nil
      go_simp
      refine hK.out _ _ (HS.out _ (HBC.out _ _)) (fun hHeld14 => ?_)
      clear hK K hHeldB
      try simp only [Act.put]
      try simp only [List.setIfInBounds_toArray]
      try simp only [List.set_cons_zero]
      try simp only [List.set_cons_succ]
      try simp only [List.set_cons_zero]
      refine wpAnyH_ready (rs := [15]) (by kernel_rfl) (by simp) ?_
      refine AllReadyH.cons (o := _) rfl (fun K hK => ?_) AllReadyH.nil
      go_simp
      refine hK.out _ _ (HS.out _ (HBC.out _ _)) (fun hHeld15 => ?_)
      clear hK K hHeld14
      try simp only [Act.put]
      try simp only [List.setIfInBounds_toArray]
      try simp only [List.set_cons_zero]
      try simp only [List.set_cons_succ]
      try simp only [List.set_cons_zero]
      refine wpAnyH_done (by kernel_rfl) ?_ _
      go_wp2_with fail
      go_meet
      exact ⟨w1.heap.size + 1, w1.heap.size, rfl, rfl, Lib.hid ⟨HBC.out _ _, Nat.le_succ _, Nat.le_refl _, (by have := newR (w1.alloc (.cells #[.int .i64 yk, .string yt, .int .i64 yn, .int .i64 (yp : Nat)] 41)) (.cells #[.int .i64 xk, .string xt, .int .i64 xn, .int .i64 (xp : Nat)] 41); rwa [World.size_alloc] at this : ((w1.alloc (.cells #[.int .i64 yk, .string yt, .int .i64 yn, .int .i64 (yp : Nat)] 41)).alloc (.cells #[.int .i64 xk, .string xt, .int .i64 xn, .int .i64 (xp : Nat)] 41)).heap[w1.heap.size + 1]? = some (.cells #[.int .i64 xk, .string xt, .int .i64 xn, .int .i64 (xp : Nat)] 41 (0, 0))), (pastR (newR w1 (.cells #[.int .i64 yk, .string yt, .int .i64 yn, .int .i64 (yp : Nat)] 41)) (.cells #[.int .i64 xk, .string xt, .int .i64 xn, .int .i64 (xp : Nat)] 41) : ((w1.alloc (.cells #[.int .i64 yk, .string yt, .int .i64 yn, .int .i64 (yp : Nat)] 41)).alloc (.cells #[.int .i64 xk, .string xt, .int .i64 xn, .int .i64 (xp : Nat)] 41)).heap[w1.heap.size]? = _)⟩⟩
  case rest =>
    obtain ⟨X, Y, rfl, rfl, HXY⟩ := hcut
    obtain ⟨hbc, hX0, hY0, hX, hY⟩ := HXY.out
    have hs01 := HS01.out
    have HBW : Hid (Below w.heap.size w wc) := Lib.hid (HB01.out.trans (hbc.mono HB01.out.size))
    have HX := Lib.hid hX
    have HY := Lib.hid hY
    have HRB := Lib.hid (keptR hbc HR1.out)
    have HQB := Lib.hid (keptR hbc HQ1.out)
    obtain ⟨a0, a1, a2, a3, _⟩ := cellsR4 hX
    obtain ⟨b0, b1, b2, b3, _⟩ := cellsR4 hY
    obtain ⟨rr0, _⟩ := cellsR1 HRB.out
    have hX1 : w.heap.size + 2 ≤ X := by omega
    have hY1 : w.heap.size + 2 ≤ Y := by omega
    clear hbc hX hY HXY hs01 HBA HBB HBC HS hX0 hY0 HS01
    go_upto_region 5 with fail
    go_cut [50] (fun s50 wx => s50 = .bool false ∧ wx = wc)
    case first =>
      have hnb := HNB.out
      cases hb3 : (xk == 3) with
      | false => (clear hnb; go_wp2_with (omega); go_meet; exact ⟨rfl, rfl⟩)
      | true =>
        cases hb4 : (xt.toList == [45]) with
        | false => (clear hnb; go_wp2_with (omega); go_meet; exact ⟨rfl, rfl⟩)
        | true =>
          cases hb5 : (yk == 5) with
          | false => (clear hnb; go_wp2_with (omega); go_meet; exact ⟨rfl, rfl⟩)
          | true =>
            have hbp : ((yp : Int) == (xp : Int) + 1) = false := by rw [hb3, hb4, hb5] at hnb; simpa using hnb
            clear hnb
            go_wp2_with (omega)
            go_meet
            exact ⟨rfl, rfl⟩
    case rest =>
      obtain ⟨rfl, hwc⟩ := hcut
      subst hwc
      go_wp2_with fail
      refine (HOP.out _).mono ?_; rintro e w2 ⟨rfl, hb2⟩
      have HB2 := Lib.hid (HBW.out.trans (hb2.mono HBW.out.size))
      have HBO := Lib.hid (fun o : Obj => HB2.out.alloc HB2.out.size o)
      go_upto_region 10 with fail
      generalize hw3 : w2.alloc (.cells #[.int .i64 o.p, .string o.k] 102) = w3
      have hb3 : Below wc.heap.size wc w3 := by rw [← hw3]; exact hb2.alloc hb2.size _
      have HB3 : Hid (Below w.heap.size w w3) := Lib.hid (by rw [← hw3]; exact HBO.out _)
      have HO3 : Hid (w3.heap[w2.heap.size]? = some (.cells #[.int .i64 o.p, .string o.k] 102 (0, 0))) := Lib.hid (by rw [← hw3]; exact newR w2 _)
      have hs3 : w3.heap.size = w2.heap.size + 1 := by rw [← hw3]; simp
      have HX3 := Lib.hid (keptR hb3 HX.out)
      have HR3 := Lib.hid (keptR hb3 HRB.out)
      have HQ3 := Lib.hid (keptR hb3 HQB.out)
      have hs2 := hb2.size
      have hXl := (Array.getElem?_eq_some_iff.1 HX.out).1
      obtain ⟨rr3, _⟩ := cellsR1 HR3.out
      clear hw3 hb2 HBO a0 a1 a2 a3 b0 b1 b2 b3 rr0 hb3
      obtain ⟨q0, _⟩ := HS0.out _ HB3.out
      have hsl := HSL.out
      have hl1 : (1 : Int) ≤ (L : Int) := by omega
      have hl2 : (L : Int) ≤ (cap : Int) := by omega
      go_wp2_with fail
      refine (HAL.out _ HB3.out).mono ?_; rintro e w4 ⟨rfl, hb4⟩
      have hs4 := hb4.size
      have HB3 := Lib.hid (HB3.out.trans (hb4.mono HB3.out.size))
      have HX3 := Lib.hid (keptR hb4 HX3.out)
      have HR3 := Lib.hid (keptR hb4 HR3.out)
      have HQ3 := Lib.hid (keptR hb4 HQ3.out)
      have HO3 := Lib.hid (keptR hb4 HO3.out)
      obtain ⟨rr3, _⟩ := cellsR1 HR3.out
      obtain ⟨oo0, oo1, _⟩ := cellsR2 HO3.out
      clear hb4 q0 hsl HSL HAL
      go_wp2_with fail
      refine (HRF.out _ (HH.out _ HB3.out)).mono ?_; rintro e w5 ⟨rfl, hb5⟩
      exact ⟨rfl, rfl, (HB3.out.mono (Nat.le_of_lt hlt)).trans (hb5.mono (Nat.le_trans (Nat.le_of_lt hlt) HB3.out.size))⟩

end Go.Proofs.YtlbdocdjijhkbaaGreatDoor
