/-
  What the walk of UnifyMakes wants: a copy of a term; a row of bindings that is being written over; the answer's sizes.
-/
import Derived.Test.YtlpmofmhcnclhaaUniV
import Derived.Test.YtlpmofmhcnclhaaTermMk
import Derived.Test.YtlpmofmhcnclhaaIterAll
namespace Go.Proofs.Ytlpmofmhcnclhaa
open Go.RowKit

theorem wrap64_sameU {n : Int} (h : In64 n) : wrap64 n = n := by
  unfold In64 at h
  unfold wrap64
  omega
theorem made_storeU {w w2 : World} {q : Nat} {R : Tm} {ad : Option Addr} {cap : Nat} (htp : TmP w2 (fun b => q < b) R ad cap) (hb : Below w.heap.size w w2) (hq : w.heap.size ≤ q) (v0 v1 v2 v3 : Value) :
    MadeTerm w.heap.size w R (.returned (tmv R ad cap)) ((((w2.setCell ⟨q, 0, none⟩ v0).setCell ⟨q, 1, none⟩ v1).setCell ⟨q, 2, none⟩ v2).setCell ⟨q, 3, none⟩ v3) := by
  refine ⟨ad, cap, rfl, htp.kept (fun b hp _ => ?_) (fun b hp _ => by omega), (((hb.setCell hq _).setCell hq _).setCell hq _).setCell hq _⟩
  rw [Below.heap_setCell _ _ _ _ (show b ≠ q by omega), Below.heap_setCell _ _ _ _ (show b ≠ q by omega), Below.heap_setCell _ _ _ _ (show b ≠ q by omega), Below.heap_setCell _ _ _ _ (show b ≠ q by omega)]

set_option maxHeartbeats 2000000 in
theorem law_Copy10 (T : Tm) (ad : Option Addr) (cap : Nat) (w : World) (hM : T.size ≤ 1000000) (hin : TmIn w T ad cap) :
    Calls Try.prog 8 #[tmv T ad cap] w (MadeTerm w.heap.size w T) := by
  have HB := Lib.hid (fun o1 o2 : Obj => (((Below.refl w.heap.size w).alloc (Nat.le_refl _) o1).alloc (by simp) o2))
  have hC := fun o1 o2 => ref_Shift 0 T.size T ad cap ((w.alloc o1).alloc o2) (Nat.le_refl _) hM (hin.on (HB.out o1 o2))
  rw [Tm.shift_zero T (fun n h => wrap64_sameU h) ((Tm.n64_eq T).2 ⟨hin.n, hin.args.n64⟩)] at hC
  have HC := Lib.hid hC
  clear hin hC
  unfold tmv at *
  go_enter Try.func8, Try.ntmps8
  go_wp2_with fail
  refine (HC.out _ _).mono ?_; rintro e w2 ⟨ad2, cap2, rfl, htp, hb2⟩
  have hq1 := (hb2.block (w.heap.size + 1) (by rw [World.size_alloc, World.size_alloc]; omega)).trans (alloc_new2 w _ _)
  obtain ⟨g0, g1, g2, g3, k0, k1, k2, k3⟩ := cellsT hq1
  have HM := Lib.hid (made_storeU (w := w) (q := w.heap.size + 1) (htp.kept (fun _ _ _ => rfl) (fun b hp _ => by rw [World.size_alloc, World.size_alloc] at hp; omega)) ((HB.out _ _).trans (hb2.mono (by rw [World.size_alloc, World.size_alloc]; omega))) (by omega))
  clear htp hb2 hq1
  unfold tmv
  go_wp2_with fail
  exact bodyPost_ret (v := tmv T ad2 cap2) (by unfold tmv; simp [results, Try.results8, go_sem, g0, g1, g2, g3]) rfl (HM.out _ _ _ _)

/-- A row of bindings of the call's own that is being written over: all other blocks are as they were. -/
structure RbI (w : World) (g n : Nat) (W : World) : Prop where
  turn : Turn (fun j => 0 < n ∧ j = g) w W
  row : 0 < n → (∀ j, j < n * 5 → ∃ u, W.cell? ⟨g, j, none⟩ = some u) ∧ ∀ j, W.frozen? ⟨g, j, none⟩ = false
theorem rb_there {w : World} {a : Addr} {v : Value} {g o : Nat} (h : ∃ u, w.cell? ⟨g, o, none⟩ = some u) : ∃ u, (w.setCell a v).cell? ⟨g, o, none⟩ = some u := by
  obtain ⟨u, hu⟩ := h
  by_cases e : a = ⟨g, o, none⟩
  · subst e; exact ⟨v, World.cell?_setCell_same _ _ _ hu⟩
  · exact ⟨u, (World.cell?_setCell_other _ _ _ _ e).trans hu⟩
theorem RbI.set {w : World} {g n : Nat} {W : World} (h : RbI w g n W) (hn : 0 < n) (j : Nat) (v : Value) : RbI w g n (W.setCell ⟨g, j, none⟩ v) :=
  ⟨h.turn.trans (Turn.set _ _ ⟨hn, rfl⟩ v), fun _ => ⟨fun i hi => rb_there ((h.row hn).1 i hi), fun i => (World.frozen?_setCell _ _ _ _).trans ((h.row hn).2 i)⟩⟩
theorem own_rb {M : Nat → Prop} {B : Nat} {w w' : World} {v : Value} {bs : Bds} (h : OwnBds M B w v bs) (hb : Below w.heap.size w w') :
    ∃ g ad cap, v = .slice ad bs.length cap ∧ (0 < bs.length → ad = some ⟨g, 0, none⟩ ∧ B ≤ g ∧ g < w.heap.size) ∧ RbI w' g bs.length w' := by
  obtain ⟨xs, h1, _⟩ := h.below hb
  obtain ⟨xs0, h0, _⟩ := h
  have h9 := h0
  obtain ⟨hl, ⟨e, hz⟩ | ⟨g, c, cur, e, hbg, hh, hn, hm, _⟩⟩ := h9
  · exact ⟨0, none, 0, by rw [e, hz], fun hp => by omega, Turn.refl _ _, fun hp => by omega⟩
  · subst e
    have hxl := h1.1
    refine ⟨g, _, _, rfl, fun _ => ⟨rfl, hbg, (h0.lt g rfl).2⟩, Turn.refl _ _, fun _ => ⟨fun j hj => ?_, fun j => h1.frozenAt j⟩⟩
    have h2 : w'.cell? ⟨g, j, none⟩ = xs[j]? := World.ownsRow.cellAt (base := B) (e := 34) (size := 5) (n := bs.length) h1 j hj
    exact ⟨_, h2.trans (List.getElem?_eq_getElem (by omega))⟩
theorem uni_get (bs : Bds) (x y : Tm) (hle : bs.length ≤ 100000) (hz : ∀ b ∈ bs, b.2.size ≤ 300) (hx : x.size ≤ 3000) (hy : y.size ≤ 3000) : ((uni bs 0 [(x, y)]).1.getD []).length ≤ 1000000 ∧ ∀ b ∈ (uni bs 0 [(x, y)]).1.getD [], b.2.size ≤ 1000000 := by
  rcases uni_out _ bs 0 [(x, y)] (Nat.le_refl _) (Nat.zero_le _) with ⟨L, n', h, _, hn'⟩ | ⟨n', h, _⟩ | h
  · have := uni_sizes (M := 3000) (Nat.zero_le _) (fun p hp => Nat.le_trans (hz p hp) (by decide)) (fun p hp => by rw [List.mem_singleton.1 hp]; exact ⟨hx, hy⟩) h
    rw [h]
    exact ⟨by show L.length ≤ _; omega, fun b hb => Nat.le_trans (this.1 b hb) (by decide)⟩
  · rw [h]; exact ⟨Nat.zero_le _, fun b hb => by cases hb⟩
  · rw [h]; exact ⟨Nat.zero_le _, fun b hb => by cases hb⟩
end Go.Proofs.Ytlpmofmhcnclhaa
