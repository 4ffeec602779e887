/-
  The contract of package read's own named, given within's: a Comp.
-/
import Derived.Test.YtlbdocdjijhkbaaGreatDoorReadN
import Derived.Deep.DeepCutAuto
namespace Go.Proofs.YtlbdocdjijhkbaaGreatDoor
open Go.RowKit
attribute [-go_sem] sliced

set_option maxRecDepth 100000 in
set_option maxHeartbeats 8000000 in
theorem rd_named_args {m : Nat} {W : Rdr} (hW : GoodW W m) (hC : WithinC m W) (hM : m ≤ 10000) (p : Int) (ts : List Tok) (ns : Nms) (w : World) (r : Nat) (v : Value) (hm : ts.length ≤ m + 1) (hf : Fine ts) (hk : (fstT ts).isAtom = true) (hn : ns.length ≤ 200) (h : RMem w r v ts ns) (h7 : (fstT ts.tail).kind = 7) :
    Calls Tryz.prog 119 #[.pointer (some ⟨r, 0, none⟩), .int .i64 p] w fun e w' => ROut2 r v w ((argsR W (fstT ts).text ts.tail.tail ns).bind fun t ts' ns' => .ok (t, 0) ts' ns') e w' := by
  have hlt := h.lt
  have h2 := hf.two (atom_not9 hk)
  obtain ⟨hft, hl2⟩ := hf.tail (atom_not9 hk)
  have hm2 : ts.tail.length ≤ m := by omega
  have hft1 := hft.pos
  have HH := Lib.hid (fun W' (hb : Below w.heap.size w W') => h.below hb)
  have hnewR := h.new_ne (b := w.heap.size) (Nat.le_refl _)
  have hnewq := h.new_ne (b := w.heap.size + 1) (Nat.le_succ _)
  have HNEW := Lib.hid (fun b (hb : w.heap.size ≤ b) => h.new_ne hb)
  obtain ⟨g, k, cap, hgr, hr, hlc, hcm, htr⟩ := h.ex
  have hgl : g < w.heap.size := by omega
  obtain ⟨r0, _, _, _⟩ := cellsR2 hr
  obtain ⟨c0, c1, c2, c3, htr2⟩ := htr.first hf.pos
  obtain ⟨c4, c5, c6, c7, _⟩ := htr2.first hft.pos
  have HTR := Lib.hid htr2
  have hL0 : 0 < ts.length := by omega
  have hL1 : (1 : Int) < (ts.length : Int) := by omega
  have hcap2 : 2 ≤ cap := by omega
  have hmf : ∀ (fn : Fn) (first cap : Array Value) (w : World), (Instr.makeFunc fn first cap).run Tryz.prog w = .ok (.func fn first cap) w := fun _ _ _ _ => rfl
  have HB := Lib.hid (fun o o2 : Obj => ((Below.refl w.heap.size w).alloc (Nat.le_refl _) o).alloc (by simp) o2)
  have HS1 : Hid (∀ W', Below w.heap.size w W' → W'.cell? ⟨r, 0, none⟩ = w.cell? ⟨r, 0, none⟩ ∧ ∀ i, W'.cell? ⟨g, i, none⟩ = w.cell? ⟨g, i, none⟩) := Lib.hid (fun W' hb => ⟨hb.cell (p := ⟨r, 0, none⟩) hlt, fun i => hb.cell (p := ⟨g, i, none⟩) hgl⟩)
  obtain ⟨hft2, hl3⟩ := hft.tail (by rw [h7]; decide)
  have hlen := hf.first.size
  have HI := Lib.hid (fun W' X (hm' : RMem W' r v ts.tail ns) (hR' : W'.cell? ⟨w.heap.size, 0, none⟩ = some (.pointer (some ⟨r, 0, none⟩))) (hX' : W'.cell? ⟨X, 1, none⟩ = some (.string ⟨(fstT ts).text.toArray⟩)) (hXr : X ≠ r) (hXv : some X ≠ v.ownBlock) =>
    rd_inside 140 (enters_of Tryz.func140 (by kernel_rfl) rfl) #[.pointer (some ⟨X, 0, none⟩), .pointer (some ⟨w.heap.size, 0, none⟩)] [41] ⟨#[41]⟩ rfl ((manyR W 16 ts.tail.tail ns).bind fun l ts' ns' => .ok (compT (fstT ts).text l) ts' ns') ts.tail ns W' r v (hft.two (by rw [h7]; decide)) hm'
      (fun t ts' ns' hh => by
        obtain ⟨l, ts3, ns3, hl, h1⟩ := Rd.bind_is hh
        injection h1 with h1 h3 h4
        subst h3
        exact (manyR_left hW (by decide) (by omega) hft2 hn hl).1.fine)
      (fun W2 h1 h2' _ => rd_args hW hC hM ts.tail.tail ns W2 r w.heap.size X v (fstT ts).text (by omega) (by omega) hft2 hn h1 (h2'.cell hR' hnewR.1 hnewR.2) hnewR.1 hnewR.2 (h2'.cell hX' hXr hXv) hXr hXv))
  obtain ⟨E, hE⟩ : ∃ E, argsR W (fstT ts).text ts.tail.tail ns = E := ⟨_, rfl⟩
  rw [hE]
  unfold argsR at hE
  rw [hE] at HI
  have HPS := Lib.hid (fun W' hm' => rd_pass W' r v ts ns hm' h2)
  clear hE hC hW hf hft hft2 hk
  generalize fstT ts.tail = t1 at *
  generalize fstT ts = t0 at *
  obtain ⟨xk, xl, xn, xp⟩ := t0
  obtain ⟨yk, yl, yn, yp⟩ := t1
  dsimp only at *
  generalize (⟨yl.toArray⟩ : ByteArray) = yt at *
  have h7b : (yk == 7) = true := by rw [h7]; rfl
  clear h7
  generalize (⟨xl.toArray⟩ : ByteArray) = xt at *
  generalize hLn : ts.length = L at *
  have HLN := Lib.hid hLn
  clear hLn h hr htr htr2
  have HS0 : Hid (∀ W, Below w.heap.size w W → W.cell? ⟨r, 0, none⟩ = some (.slice (some ⟨g, k, none⟩) L cap) ∧ W.cell? ⟨g, k, none⟩ = some (.int .i64 xk) ∧ W.cell? ⟨g, k + 1, none⟩ = some (.string xt) ∧ W.cell? ⟨g, k + 2, none⟩ = some (.int .i64 xn) ∧ W.cell? ⟨g, k + 3, none⟩ = some (.int .i64 (xp : Nat)) ∧ W.cell? ⟨g, k + 4, none⟩ = some (.int .i64 yk) ∧ W.cell? ⟨g, k + 4 + 1, none⟩ = some (.string yt) ∧ W.cell? ⟨g, k + 4 + 2, none⟩ = some (.int .i64 yn) ∧ W.cell? ⟨g, k + 4 + 3, none⟩ = some (.int .i64 (yp : Nat))) := Lib.hid (fun W hb => by obtain ⟨q1, q2⟩ := HS1.out W hb; rw [q1, q2, q2, q2, q2, q2, q2, q2, q2]; exact ⟨r0, c0, c1, c2, c3, c4, c5, c6, c7⟩)
  clear r0 c0 c1 c2 c3 c4 c5 c6 c7
  go_enter Tryz.func119, Tryz.ntmps119
  go_wp2_with fail
  generalize hw1 : (w.alloc (.cells #[.pointer (some ⟨r, 0, none⟩)] 53)).alloc (.cells #[.int .i64 0, .string ⟨#[]⟩, .int .i64 0, .slice none 0 0] 30) = w1
  have hb01 : Below w.heap.size w w1 := by rw [← hw1]; exact HB.out _ _
  have hs01 : w1.heap.size = w.heap.size + 2 := by rw [← hw1]; simp
  have hR1 : w1.heap[w.heap.size]? = some (.cells #[.pointer (some ⟨r, 0, none⟩)] 53 (0, 0)) := by rw [← hw1]; exact pastR (newR w _) _
  have hQ1 : w1.heap[w.heap.size + 1]? = some (.cells #[.int .i64 0, .string ⟨#[]⟩, .int .i64 0, .slice none 0 0] 30 (0, 0)) := by rw [← hw1]; have := newR (w.alloc (.cells #[.pointer (some ⟨r, 0, none⟩)] 53)) (.cells #[.int .i64 0, .string ⟨#[]⟩, .int .i64 0, .slice none 0 0] 30); rwa [World.size_alloc] at this
  have HS : Hid (∀ W, Below w1.heap.size w1 W → W.cell? ⟨w.heap.size, 0, none⟩ = some (.pointer (some ⟨r, 0, none⟩)) ∧ W.cell? ⟨r, 0, none⟩ = some (.slice (some ⟨g, k, none⟩) L cap) ∧ W.cell? ⟨g, k, none⟩ = some (.int .i64 xk) ∧ W.cell? ⟨g, k + 1, none⟩ = some (.string xt) ∧ W.cell? ⟨g, k + 2, none⟩ = some (.int .i64 xn) ∧ W.cell? ⟨g, k + 3, none⟩ = some (.int .i64 (xp : Nat)) ∧ W.cell? ⟨g, k + 4, none⟩ = some (.int .i64 yk) ∧ W.cell? ⟨g, k + 4 + 1, none⟩ = some (.string yt) ∧ W.cell? ⟨g, k + 4 + 2, none⟩ = some (.int .i64 yn) ∧ W.cell? ⟨g, k + 4 + 3, none⟩ = some (.int .i64 (yp : Nat))) := Lib.hid (fun W hb => ⟨(cellsR1 (keptR hb hR1)).1, HS0.out W (hb01.trans (hb.mono hb01.size))⟩)
  have HBA := Lib.hid (fun o : Obj => (Below.refl w1.heap.size w1).drew.alloc (w := w1.drew) (Nat.le_refl _) o)
  have HBB := Lib.hid (fun o o2 : Obj => (HBA.out o).alloc (by simp) o2)
  have HBC := Lib.hid (fun o o2 : Obj => (((Below.refl w1.heap.size w1).alloc (Nat.le_refl _) o).alloc (by simp) o2).drew)
  have HR1 := Lib.hid hR1
  have HQ1 := Lib.hid hQ1
  have HB01 := Lib.hid hb01
  have HS01 := Lib.hid hs01
  clear hw1 hb01 hR1 hQ1 hs01
  go_cut [6, 7] (fun s6 s7 wx => ∃ X Y, s6 = .pointer (some ⟨X, 0, none⟩) ∧ s7 = .pointer (some ⟨Y, 0, none⟩) ∧ Hid (Below w1.heap.size w1 wx ∧ w1.heap.size ≤ X ∧ w1.heap.size ≤ Y ∧ wx.heap[X]? = some (.cells #[.int .i64 xk, .string xt, .int .i64 xn, .int .i64 (xp : Nat)] 41 (0, 0)) ∧ wx.heap[Y]? = some (.cells #[.int .i64 yk, .string yt, .int .i64 yn, .int .i64 (yp : Nat)] 41 (0, 0))))
  case first =>
    refine wp_region_held_drew (S := (fun W => W.cell? ⟨w.heap.size, 0, none⟩ = some (.pointer (some ⟨r, 0, none⟩)) ∧ W.cell? ⟨r, 0, none⟩ = some (.slice (some ⟨g, k, none⟩) L cap) ∧ W.cell? ⟨g, k, none⟩ = some (.int .i64 xk) ∧ W.cell? ⟨g, k + 1, none⟩ = some (.string xt) ∧ W.cell? ⟨g, k + 2, none⟩ = some (.int .i64 xn) ∧ W.cell? ⟨g, k + 3, none⟩ = some (.int .i64 (xp : Nat)) ∧ W.cell? ⟨g, k + 4, none⟩ = some (.int .i64 yk) ∧ W.cell? ⟨g, k + 4 + 1, none⟩ = some (.string yt) ∧ W.cell? ⟨g, k + 4 + 2, none⟩ = some (.int .i64 yn) ∧ W.cell? ⟨g, k + 4 + 3, none⟩ = some (.int .i64 (yp : Nat)))) (by kernel_rfl) (HS.out _ (Below.refl _ w1).drew) (fun hHeld1 => ?_)
    refine wpAnyH_take (i := 0) (oi := _) (v := ?v2) rfl (by kernel_rfl) (by kernel_rfl) (by kernel_rfl) (fun _ _ _ h => h) (Or.inl ⟨by rfl, ?y2⟩) (by assumption) ?r2
    case y2 => (intro w hSw; (try dsimp only at hSw); go_simp; try with_reducible rfl)
    try simp only [Act.put]
    try simp only [List.setIfInBounds_toArray]
    try simp only [List.set_cons_zero]
    try simp only [List.set_cons_succ]
    try simp only [List.set_cons_zero]
    refine wpAnyH_take (i := 1) (oi := _) (v := ?v3) rfl (by kernel_rfl) (by kernel_rfl) (by kernel_rfl) (fun _ _ _ h => h) (Or.inl ⟨by rfl, ?y3⟩) (by assumption) ?r3
    case y3 => (intro w hSw; (try dsimp only at hSw); go_simp; try with_reducible rfl)
    try simp only [Act.put]
    try simp only [List.setIfInBounds_toArray]
    try simp only [List.set_cons_zero]
    try simp only [List.set_cons_succ]
    try simp only [List.set_cons_zero]
    refine wpAnyH_take (i := 2) (oi := _) (v := ?v4) rfl (by kernel_rfl) (by kernel_rfl) (by kernel_rfl) (fun _ _ _ h => h) (Or.inl ⟨by rfl, ?y4⟩) (by assumption) ?r4
    case y4 => (intro w hSw; (try dsimp only at hSw); go_simp; try with_reducible rfl)
    try simp only [Act.put]
    try simp only [List.setIfInBounds_toArray]
    try simp only [List.set_cons_zero]
    try simp only [List.set_cons_succ]
    try simp only [List.set_cons_zero]
    refine wpAnyH_take (i := 3) (oi := _) (v := ?v5) rfl (by kernel_rfl) (by kernel_rfl) (by kernel_rfl) (fun _ _ _ h => h) (Or.inl ⟨by rfl, ?y5⟩) (by assumption) ?r5
    case y5 => (intro w hSw; (try dsimp only at hSw); go_simp; try with_reducible rfl)
    try simp only [Act.put]
    try simp only [List.setIfInBounds_toArray]
    try simp only [List.set_cons_zero]
    try simp only [List.set_cons_succ]
    try simp only [List.set_cons_zero]
    refine wpAnyH_take (i := 4) (oi := _) (v := ?v6) rfl (by kernel_rfl) (by kernel_rfl) (by kernel_rfl) (fun _ _ _ h => h) (Or.inl ⟨by rfl, ?y6⟩) (by assumption) ?r6
    case y6 => (intro w hSw; (try dsimp only at hSw); go_simp; try with_reducible rfl)
    try simp only [Act.put]
    try simp only [List.setIfInBounds_toArray]
    try simp only [List.set_cons_zero]
    try simp only [List.set_cons_succ]
    try simp only [List.set_cons_zero]
    refine wpAnyH_take (i := 5) (oi := _) (v := ?v7) rfl (by kernel_rfl) (by kernel_rfl) (by kernel_rfl) (fun _ _ _ h => h) (Or.inl ⟨by rfl, ?y7⟩) (by assumption) ?r7
    case y7 => (intro w hSw; (try dsimp only at hSw); go_simp; try with_reducible rfl)
    try simp only [Act.put]
    try simp only [List.setIfInBounds_toArray]
    try simp only [List.set_cons_zero]
    try simp only [List.set_cons_succ]
    try simp only [List.set_cons_zero]
    refine wpAnyH_take (i := 6) (oi := _) (v := ?v8) rfl (by kernel_rfl) (by kernel_rfl) (by kernel_rfl) (fun _ _ _ h => h) (Or.inl ⟨by rfl, ?y8⟩) (by assumption) ?r8
    case y8 => (intro w hSw; (try dsimp only at hSw); go_simp; try with_reducible rfl)
    try simp only [Act.put]
    try simp only [List.setIfInBounds_toArray]
    try simp only [List.set_cons_zero]
    try simp only [List.set_cons_succ]
    try simp only [List.set_cons_zero]
    refine wpAnyH_take (i := 7) (oi := _) (v := ?v9) rfl (by kernel_rfl) (by kernel_rfl) (by kernel_rfl) (fun _ _ _ h => h) (Or.inl ⟨by rfl, ?y9⟩) (by assumption) ?r9
    case y9 => (intro w hSw; (try dsimp only at hSw); go_simp; try with_reducible rfl)
    try simp only [Act.put]
    try simp only [List.setIfInBounds_toArray]
    try simp only [List.set_cons_zero]
    try simp only [List.set_cons_succ]
    try simp only [List.set_cons_zero]
    refine wpAnyH_take (i := 8) (oi := _) (v := ?v10) rfl (by kernel_rfl) (by kernel_rfl) (by kernel_rfl) (fun _ _ _ h => h) (Or.inl ⟨by rfl, ?y10⟩) (by assumption) ?r10
    case y10 => (intro w hSw; (try dsimp only at hSw); go_simp; try with_reducible rfl)
    try simp only [Act.put]
    try simp only [List.setIfInBounds_toArray]
    try simp only [List.set_cons_zero]
    try simp only [List.set_cons_succ]
    try simp only [List.set_cons_zero]
    refine wpAnyH_take (i := 9) (oi := _) (v := ?v11) rfl (by kernel_rfl) (by kernel_rfl) (by kernel_rfl) (fun _ _ _ h => h) (Or.inl ⟨by rfl, ?y11⟩) (by assumption) ?r11
    case y11 => (intro w hSw; (try dsimp only at hSw); go_simp; try with_reducible rfl)
    try simp only [Act.put]
    try simp only [List.setIfInBounds_toArray]
    try simp only [List.set_cons_zero]
    try simp only [List.set_cons_succ]
    try simp only [List.set_cons_zero]
    refine wpAnyH_take (i := 10) (oi := _) (v := ?v12) rfl (by kernel_rfl) (by kernel_rfl) (by kernel_rfl) (fun _ _ _ h => h) (Or.inl ⟨by rfl, ?y12⟩) (by assumption) ?r12
    case y12 => (intro w hSw; (try dsimp only at hSw); go_simp; try with_reducible rfl)
    try simp only [Act.put]
    try simp only [List.setIfInBounds_toArray]
    try simp only [List.set_cons_zero]
    try simp only [List.set_cons_succ]
    try simp only [List.set_cons_zero]
    refine wpAnyH_take (i := 11) (oi := _) (v := ?v13) rfl (by kernel_rfl) (by kernel_rfl) (by kernel_rfl) (fun _ _ _ h => h) (Or.inl ⟨by rfl, ?y13⟩) (by assumption) ?r13
    case y13 => (intro w hSw; (try dsimp only at hSw); go_simp; try with_reducible rfl)
    try simp only [Act.put]
    try simp only [List.setIfInBounds_toArray]
    try simp only [List.set_cons_zero]
    try simp only [List.set_cons_succ]
    try simp only [List.set_cons_zero]
    refine wpAnyH_ready (rs := [12, 13]) (by kernel_rfl) (by simp) ?_
    refine AllReadyH.cons (o := _) rfl (fun K hK => ?_) (AllReadyH.cons (o := _) rfl (fun K hK => ?_) AllReadyH.nil)
    · go_simp
      refine hK.out _ _ (HS.out _ (HBA.out _)) (fun hHeldA => ?_)
      clear hK K
      try simp only [Act.put]
      try simp only [List.setIfInBounds_toArray]
      try simp only [List.set_cons_zero]
      try simp only [List.set_cons_succ]
      try simp only [List.set_cons_zero]
      refine wpAnyH_ready (rs := [13]) (by kernel_rfl) (by simp) ?_
      refine AllReadyH.cons (o := _) rfl (fun K hK => ?_) AllReadyH.nil
      go_simp
      refine hK.out _ _ (HS.out _ (HBB.out _ _)) (fun hHeldB => ?_)
      clear hK K hHeldA
      try simp only [Act.put]
      try simp only [List.setIfInBounds_toArray]
      try simp only [List.set_cons_zero]
      try simp only [List.set_cons_succ]
      try simp only [List.set_cons_zero]
      refine wpAnyH_ready (rs := [14]) (by kernel_rfl) (by simp) ?_
      refine AllReadyH.cons (o := _) rfl (fun K hK => ?_) AllReadyH.nil
      go_simp
      refine hK.out _ _ (HS.out _ (HBC.out _ _)) (fun hHeld14 => ?_)
      clear hK K hHeldB
      try simp only [Act.put]
      try simp only [List.setIfInBounds_toArray]
      try simp only [List.set_cons_zero]
      try simp only [List.set_cons_succ]
      try simp only [List.set_cons_zero]
      refine wpAnyH_ready (rs := [15]) (by kernel_rfl) (by simp) ?_
      refine AllReadyH.cons (o := _) rfl (fun K hK => ?_) AllReadyH.nil
      go_simp
      refine hK.out _ _ (HS.out _ (HBC.out _ _)) (fun hHeld15 => ?_)
      clear hK K hHeld14
      try simp only [Act.put]
      try simp only [List.setIfInBounds_toArray]
      try simp only [List.set_cons_zero]
      try simp only [List.set_cons_succ]
      try simp only [List.set_cons_zero]
      refine wpAnyH_done (by kernel_rfl) ?_ _
      go_wp2_with fail
      go_meet
      exact ⟨w1.heap.size, w1.heap.size + 1, rfl, rfl, Lib.hid ⟨HBC.out _ _, Nat.le_refl _, Nat.le_succ _, (pastR (newR w1 (.cells #[.int .i64 xk, .string xt, .int .i64 xn, .int .i64 (xp : Nat)] 41)) (.cells #[.int .i64 yk, .string yt, .int .i64 yn, .int .i64 (yp : Nat)] 41) : ((w1.alloc (.cells #[.int .i64 xk, .string xt, .int .i64 xn, .int .i64 (xp : Nat)] 41)).alloc (.cells #[.int .i64 yk, .string yt, .int .i64 yn, .int .i64 (yp : Nat)] 41)).heap[w1.heap.size]? = _), (by have := newR (w1.alloc (.cells #[.int .i64 xk, .string xt, .int .i64 xn, .int .i64 (xp : Nat)] 41)) (.cells #[.int .i64 yk, .string yt, .int .i64 yn, .int .i64 (yp : Nat)] 41); rwa [World.size_alloc] at this : ((w1.alloc (.cells #[.int .i64 xk, .string xt, .int .i64 xn, .int .i64 (xp : Nat)] 41)).alloc (.cells #[.int .i64 yk, .string yt, .int .i64 yn, .int .i64 (yp : Nat)] 41)).heap[w1.heap.size + 1]? = some (.cells #[.int .i64 yk, .string yt, .int .i64 yn, .int .i64 (yp : Nat)] 41 (0, 0)))⟩⟩
    · go_simp
      refine hK.out _ _ (HS.out _ (HBA.out _)) (fun hHeldA => ?_)
      clear hK K
      try simp only [Act.put]
      try simp only [List.setIfInBounds_toArray]
      try simp only [List.set_cons_zero]
      try simp only [List.set_cons_succ]
      try simp only [List.set_cons_zero]
      refine wpAnyH_ready (rs := [12]) (by kernel_rfl) (by simp) ?_
      refine AllReadyH.cons (o := _) rfl (fun K hK => ?_) AllReadyH.nil
      go_simp
      refine hK.out _ _ (HS.out _ (HBB.out _ _)) (fun hHeldB => ?_)
      clear hK K hHeldA
      try simp only [Act.put]
      try simp only [List.setIfInBounds_toArray]
      try simp only [List.set_cons_zero]
      try simp only [List.set_cons_succ]
      try simp only [List.set_cons_zero]
      refine wpAnyH_ready (rs := [14]) (by kernel_rfl) (by simp) ?_
      refine AllReadyH.cons (o := _) rfl (fun K hK => ?_) AllReadyH.nil
      go_simp
      refine hK.out _ _ (HS.out _ (HBC.out _ _)) (fun hHeld14 => ?_)
      clear hK K hHeldB
      try simp only [Act.put]
      try simp only [List.setIfInBounds_toArray]
      try simp only [List.set_cons_zero]
      try simp only [List.set_cons_succ]
      try simp only [List.set_cons_zero]
      refine wpAnyH_ready (rs := [15]) (by kernel_rfl) (by simp) ?_
      refine AllReadyH.cons (o := _) rfl (fun K hK => ?_) AllReadyH.nil
      go_simp
      refine hK.out _ _ (HS.out _ (HBC.out _ _)) (fun hHeld15 => ?_)
      clear hK K hHeld14
      try simp only [Act.put]
      try simp only [List.setIfInBounds_toArray]
      try simp only [List.set_cons_zero]
      try simp only [List.set_cons_succ]
      try simp only [List.set_cons_zero]
      refine wpAnyH_done (by kernel_rfl) ?_ _
      go_wp2_with fail
      go_meet
      exact ⟨w1.heap.size + 1, w1.heap.size, rfl, rfl, Lib.hid ⟨HBC.out _ _, Nat.le_succ _, Nat.le_refl _, (by have := newR (w1.alloc (.cells #[.int .i64 yk, .string yt, .int .i64 yn, .int .i64 (yp : Nat)] 41)) (.cells #[.int .i64 xk, .string xt, .int .i64 xn, .int .i64 (xp : Nat)] 41); rwa [World.size_alloc] at this : ((w1.alloc (.cells #[.int .i64 yk, .string yt, .int .i64 yn, .int .i64 (yp : Nat)] 41)).alloc (.cells #[.int .i64 xk, .string xt, .int .i64 xn, .int .i64 (xp : Nat)] 41)).heap[w1.heap.size + 1]? = some (.cells #[.int .i64 xk, .string xt, .int .i64 xn, .int .i64 (xp : Nat)] 41 (0, 0))), (pastR (newR w1 (.cells #[.int .i64 yk, .string yt, .int .i64 yn, .int .i64 (yp : Nat)] 41)) (.cells #[.int .i64 xk, .string xt, .int .i64 xn, .int .i64 (xp : Nat)] 41) : ((w1.alloc (.cells #[.int .i64 yk, .string yt, .int .i64 yn, .int .i64 (yp : Nat)] 41)).alloc (.cells #[.int .i64 xk, .string xt, .int .i64 xn, .int .i64 (xp : Nat)] 41)).heap[w1.heap.size]? = _)⟩⟩
  case rest =>
    obtain ⟨X, Y, rfl, rfl, HXY⟩ := hcut
    obtain ⟨hbc, hX0, hY0, hX, hY⟩ := HXY.out
    have hs01 := HS01.out
    have HBW : Hid (Below w.heap.size w wc) := Lib.hid (HB01.out.trans (hbc.mono HB01.out.size))
    have HX := Lib.hid hX
    have HY := Lib.hid hY
    have HRB := Lib.hid (keptR hbc HR1.out)
    have HQB := Lib.hid (keptR hbc HQ1.out)
    obtain ⟨a0, a1, a2, a3, _⟩ := cellsR4 hX
    obtain ⟨b0, b1, b2, b3, _⟩ := cellsR4 hY
    obtain ⟨rr0, _⟩ := cellsR1 HRB.out
    have hX1 : w.heap.size + 2 ≤ X := by omega
    have hY1 : w.heap.size + 2 ≤ Y := by omega
    clear hbc hX hY HXY hs01 HBA HBB HBC HS hX0 hY0 HS01
    go_wp2_with fail
    refine (HPS.out _ (HH.out _ HBW.out)).mono ?_; rintro e w2 ⟨rfl, hm2', hg2⟩
    have rr1 := hg2.cell rr0 hnewR.1 hnewR.2
    have hX2 := HNEW.out X (by omega)
    have xx1 := hg2.cell a1 hX2.1 hX2.2
    have HG2 := Lib.hid ((RGo.of_below (r := r) (v := v) HBW.out (Nat.le_of_lt hlt)).trans hg2)
    have HQ2 := Lib.hid (hg2.at HQB.out hnewq.1 hnewq.2)
    have HM2 := Lib.hid hm2'
    have hs2 := hg2.below.size
    clear hm2' hg2
    go_wp2_with fail
    cases E with
    | bad o =>
      refine (HI.out _ X HM2.out rr1 xx1 hX2.1 hX2.2).mono ?_; rintro e w3 ⟨rfl, hb3⟩
      exact ⟨rfl, rfl, HG2.out.below.trans hb3⟩
    | ok t ts1 ns1 =>
      refine (HI.out _ X HM2.out rr1 xx1 hX2.1 hX2.2).mono ?_; rintro e w3 ⟨v3, ad, cap3, rfl, hm3, hg3, ht3⟩
      have hq3 := hg3.at HQ2.out hnewq.1 hnewq.2
      have hqlt := (Array.getElem?_eq_some_iff.1 HQ2.out).1
      have hv3 := hg3.ne (b := w.heap.size + 1) hqlt hnewq.2
      obtain ⟨d0, d1, d2, d3, e0, e1, e2, e3⟩ := cellsR4 hq3
      have HM3 := Lib.hid hm3
      have HG3 := Lib.hid (HG2.out.trans hg3)
      have HT3 := Lib.hid ht3
      clear hm3 hg3 ht3 hq3
      unfold tmv
      go_wp2_with fail
      refine bodyPost_ret (v := .tuple #[tmv t ad cap3, .int .i64 0]) (by simp [results, Tryz.results119, go_sem, d0, d1, d2, d3, tmv]) rfl ⟨v3, ad, cap3, rfl, ?_⟩
      exact ROk.fin HM3.out HG3.out HT3.out hlt (Nat.le_succ _) hqlt hv3 _ _ _ _
end Go.Proofs.YtlbdocdjijhkbaaGreatDoor
