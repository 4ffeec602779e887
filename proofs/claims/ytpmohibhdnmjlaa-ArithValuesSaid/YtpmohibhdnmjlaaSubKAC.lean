/-
  Joined texts: SubKA, SubKB, SubKC.
-/
import Derived.Test.YtpmohibhdnmjlaaSubBE
import Derived.Test.YtpmohibhdnmjlaaSubH
import Derived.Test.YtpmohibhdnmjlaaTermDevCS

/-
  The contracts of package subst's own look and spend.
-/
namespace Go.Proofs.Ytpmohibhdnmjlaa
open Go.RowKit

theorem setL_setL (L : List (Nat × Obj)) (q : Nat) (o1 o2 : Obj) : setL (setL L q o1) q o2 = setL L q o2 := by
  unfold setL
  rw [List.map_map]
  refine List.map_congr_left fun p _ => ?_
  show (if (if p.1 = q then (q, o1) else p).1 = q then (q, o2) else if p.1 = q then (q, o1) else p) = _
  by_cases h : p.1 = q
  · rw [if_pos h, if_pos rfl, if_pos h]
  · rw [if_neg h, if_neg h]
theorem setL_mem {L : List (Nat × Obj)} {q : Nat} {o o1 : Obj} (h : (q, o) ∈ L) : (q, o1) ∈ setL L q o1 := List.mem_map.2 ⟨(q, o), h, by rw [if_pos rfl]⟩
theorem setL_oth {L : List (Nat × Obj)} {q q' : Nat} {o o1 : Obj} (h : (q', o) ∈ L) (hne : q' ≠ q) : (q', o) ∈ setL L q o1 := List.mem_map.2 ⟨(q', o), h, by rw [if_neg hne]⟩
/-- A term's four cells stored into one of the blocks. -/
theorem Stay.store4 {n₀ : Nat} {w W : World} {L : List (Nat × Obj)} {M : Nat → Prop} (h : Stay n₀ w L M W) {q t : Nat} {a b c d : Value} (hq : (q, .cells #[a, b, c, d] t (0, 0)) ∈ L) (hn : n₀ ≤ q) (x y z u : Value) :
    Keeps M W ((((W.setCell ⟨q, 0, none⟩ x).setCell ⟨q, 1, none⟩ y).setCell ⟨q, 2, none⟩ z).setCell ⟨q, 3, none⟩ u) ∧ Below n₀ W ((((W.setCell ⟨q, 0, none⟩ x).setCell ⟨q, 1, none⟩ y).setCell ⟨q, 2, none⟩ z).setCell ⟨q, 3, none⟩ u) ∧
      Stay n₀ w (setL L q (.cells #[x, y, z, u] t (0, 0))) M ((((W.setCell ⟨q, 0, none⟩ x).setCell ⟨q, 1, none⟩ y).setCell ⟨q, 2, none⟩ z).setCell ⟨q, 3, none⟩ u) := by
  obtain ⟨k1, b1, s1⟩ := h.store hq hn 0 x
  obtain ⟨k2, b2, s2⟩ := s1.store (setL_mem hq) hn 1 y
  rw [setL_setL] at s2
  obtain ⟨k3, b3, s3⟩ := s2.store (setL_mem hq) hn 2 z
  rw [setL_setL] at s3
  obtain ⟨k4, b4, s4⟩ := s3.store (setL_mem hq) hn 3 u
  rw [setL_setL] at s4
  exact ⟨((k1.trans k2).trans k3).trans k4, ((b1.trans b2).trans b3).trans b4, s4⟩
theorem cells5 {W : World} {q t : Nat} {v0 v1 v2 v3 v4 : Value} (h : W.heap[q]? = some (.cells #[v0, v1, v2, v3, v4] t (0, 0))) : W.cell? ⟨q, 0, none⟩ = some v0 ∧ W.cell? ⟨q, 1, none⟩ = some v1 ∧ W.cell? ⟨q, 2, none⟩ = some v2 ∧ W.cell? ⟨q, 3, none⟩ = some v3 ∧ W.cell? ⟨q, 4, none⟩ = some v4 := by
  simp [World.cell?, h]
theorem stayB4 (w : World) (o1 o2 o3 o4 : Obj) : Stay w.heap.size w [(w.heap.size, o1), (w.heap.size + 1, o2), (w.heap.size + 2, o3), (w.heap.size + 3, o4)] (fun _ => False) ((((w.alloc o1).alloc o2).alloc o3).alloc o4) := by
  have s1 : (w.alloc o1).heap.size = w.heap.size + 1 := World.size_alloc _ _
  have s2 : ((w.alloc o1).alloc o2).heap.size = w.heap.size + 2 := by rw [World.size_alloc, s1]
  have s3 : (((w.alloc o1).alloc o2).alloc o3).heap.size = w.heap.size + 3 := by rw [World.size_alloc, s2]
  have h4 := alloc_new (((w.alloc o1).alloc o2).alloc o3) o4
  have h3 := alloc_new ((w.alloc o1).alloc o2) o3
  have h2 := alloc_new (w.alloc o1) o2
  have h1 := alloc_new w o1
  rw [s3] at h4
  rw [s2] at h3
  rw [s1] at h2
  refine ⟨(((((Below.refl _ w).alloc (Nat.le_refl _) _).alloc (by omega) _).alloc (by omega) _).alloc (by omega) _), fun _ h => h.elim, fun p hp => ?_⟩
  rcases List.mem_cons.1 hp with rfl | hp
  · exact (Below.heap_alloc _ _ _ (by dsimp only; omega)).trans ((Below.heap_alloc _ _ _ (by dsimp only; omega)).trans ((Below.heap_alloc _ _ _ (by dsimp only; omega)).trans h1))
  rcases List.mem_cons.1 hp with rfl | hp
  · exact (Below.heap_alloc _ _ _ (by dsimp only; omega)).trans ((Below.heap_alloc _ _ _ (by dsimp only; omega)).trans h2)
  rcases List.mem_cons.1 hp with rfl | hp
  · exact (Below.heap_alloc _ _ _ (by dsimp only; omega)).trans h3
  · obtain rfl := List.mem_singleton.1 hp
    exact h4

attribute [local go_sem] Oper.semAt_some
set_option maxRecDepth 100000 in
set_option maxHeartbeats 4000000 in
theorem dv_look (bs : List (Int × Tm)) (v : Int) (ad : Option Addr) (cap : Nat) (w : World) (P : Nat → Prop) (hP : ∀ b, P b → b < w.heap.size) (hlen : bs.length ≤ 1000000) (h : BdsAt w P ad bs) :
    Calls Try.prog 49 #[.slice ad bs.length cap, .int .i64 v] w fun e w' => ∃ a2 c2, e = .returned (.tuple #[tmv ((lookL bs v).getD zeroT) a2 c2, .bool (lookL bs v).isSome]) ∧ TmP w' P ((lookL bs v).getD zeroT) a2 c2 ∧ Below w.heap.size w w' := by
  have HB := Lib.hid h
  have HP := Lib.hid hP
  clear h hP
  refine (callsIn_wide (n := 4)).1 ?_
  refine callsIn_of_wp_marks Try.func49 rfl trivial ?_ rfl
  simp only [Try.ntmps49, List.size_toArray, List.length_cons, List.length_nil, Nat.reduceAdd, Nat.reduceSub, Array.replicate_succ, Array.replicate_zero, List.push_toArray, List.append_toArray, List.nil_append, List.cons_append]
  gi_wp2_with ((refine ⟨trivial, ?_⟩; gi_at_call 65; refine (callsIn_wide.2 (sl_BackwardB _ _ _ _)).mono ?_; rintro e w' ⟨rfl, rfl⟩))
  have hst := stayB4 w (.cells #[.int .i64 v] 2) (.cells #[.int .i64 0, .string ⟨#[]⟩, .int .i64 0, .slice none 0 0] 25) (.cells #[.bool false] 4) (.cells #[.slice ad bs.length cap] 22)
  have hsz : ((((w.alloc (.cells #[.int .i64 v] 2)).alloc (.cells #[.int .i64 0, .string ⟨#[]⟩, .int .i64 0, .slice none 0 0] 25)).alloc (.cells #[.bool false] 4)).alloc (.cells #[.slice ad bs.length cap] 22)).heap.size = w.heap.size + 4 := by simp
  generalize ((((w.alloc _).alloc _).alloc _).alloc _) = W0 at *
  have hseq := backb_seq bs ad cap (w.heap.size + 3) w.heap.size W0 P HP.out hlen (HB.out.kept (fun b _ hl => hst.below.block b hl) fun _ h _ => h) (by omega)
  refine range_walkG (gf := 67) (lb := #[.pointer (some ⟨w.heap.size + 3, 0, none⟩)]) rfl (enters_of Try.func67 (by kernel_rfl) rfl) hseq (Below.refl _ _) (by omega) (fun _ => rfl)
    (StayI w.heap.size w (fun k (_ : Unit) => [(w.heap.size, .cells #[.int .i64 v] 2 (0, 0)), (w.heap.size + 1, .cells #[.int .i64 0, .string ⟨#[]⟩, .int .i64 0, .slice none 0 0] 25 (0, 0)), (w.heap.size + 2, .cells #[.bool false] 4 (0, 0)), (w.heap.size + 3, .cells #[.slice ad bs.length cap] 22 (0, 0))]) (fun k _ => ∀ j (hj : j < bs.length), bs.length ≤ j + k → bs[j].1 ≠ v))
    (fun c => StayI w.heap.size w (fun _ (x : Tm × Option Addr × Nat) => [(w.heap.size + 1, .cells #[.int .i64 x.1.kind, .string x.1.name, .int .i64 x.1.n, .slice x.2.1 x.1.args.length x.2.2] 25 (0, 0)), (w.heap.size + 2, .cells #[.bool true] 4 (0, 0))]) (fun _ x => c = .ret ∧ lookL bs v = some x.1 ∧ TmP W0 P x.1 x.2.1 x.2.2))
    (fun M k W h => by obtain ⟨_, hS, _⟩ := h; exact hS.has _ (.tail _ (.tail _ (.tail _ (.head _))))) (stay_abides (Nat.le_refl _) _ _) (fun _ => stay_abides (Nat.le_refl _) _ _) ⟨(), hst, fun j hj hk => by omega⟩ ?round ?done ?stop
  case round =>
    rintro l M k ⟨j, ⟨n, t⟩, ta, tc⟩ W ⟨_, hS, hN⟩ hk hx hMl
    dsimp only [BackBd] at hx
    obtain ⟨x1, x2, x3, x4⟩ := hx
    have hM1 : ∀ j, M j → j < W.heap.size := fun j hj => (hMl j hj).2
    have hjl : j < bs.length := by omega
    have hbj : bs[j] = (n, t) := by rw [List.getElem?_eq_getElem hjl] at x2; injection x2
    have HAT : Hid (n = v → lookL bs v = some t) := Lib.hid (fun e => by
      have := lookL_drop (bs := bs) (v := v) j hjl (by rw [hbj]; exact e) fun i hi hji => hN i hi (by omega)
      rw [hbj] at this
      exact this)
    have HNX : Hid (n ≠ v → ∀ i (hi : i < bs.length), bs.length ≤ i + (k + 1) → bs[i].1 ≠ v) := Lib.hid (fun hf i hi hik => by
      by_cases e : i = j
      · subst e; rw [hbj]; exact hf
      · exact hN i hi (by omega))
    have HS := Lib.hid hS
    have HM1 := Lib.hid hM1
    have HX4 := Lib.hid x4
    clear hS hN x2 x4 hMl hM1 hst hseq hbj
    unfold backbv
    dsimp only
    gi_wp2
    obtain ⟨a1, a2, a3⟩ := HS.out.grow (Nat.le_refl _) HM1.out ((Below.refl W.heap.size W).alloc (Nat.le_refl _) (.cells #[.int .i64 n, .int .i64 t.kind, .string t.name, .int .i64 t.n, .slice ta t.args.length tc] 45))
    refine ⟨a1, a2, fun W₂ ht hs2 => ?_⟩
    have hS3 := (a3.cons (q := W.heap.size) (fun j hj e => by have := HM1.out j hj; omega) (heap_alloc_new W _)).turn (M' := M) (Nat.le_refl _) ht (fun j hj => .inl hj)
    obtain ⟨c0, c1, c2, c3, c4⟩ := cells5 (hS3.has _ (.head _))
    obtain ⟨d0, _⟩ := cell1 (hS3.has _ (.tail _ (.head _)))
    obtain ⟨z0, z1, z2, z3, f0, f1, f2, f3⟩ := cellsT (hS3.has _ (.tail _ (.tail _ (.head _))))
    obtain ⟨y0, e0⟩ := cell1 (hS3.has _ (.tail _ (.tail _ (.tail _ (.head _)))))
    have HS3 := Lib.hid hS3
    clear hS3 ht a1 a2 a3
    cases hxv : (n == v) with
    | true =>
      have HL := Lib.hid (HAT.out (by simpa using hxv))
      obtain ⟨g1, g2, g3⟩ := HS3.out.store4 (.tail _ (.tail _ (.head _))) (by omega) (.int .i64 t.kind) (.string t.name) (.int .i64 t.n) (.slice ta t.args.length tc)
      obtain ⟨k1, k2, k3⟩ := g3.store (q := w.heap.size + 2) (i := 0) (cs := #[.bool false]) (t := 4) (setL_oth (.tail _ (.tail _ (.tail _ (.head _)))) (by omega)) (by omega) (.bool true)
      have G1 := Lib.hid (g1.trans k1)
      have G3 := Lib.hid k3
      clear g1 g2 g3 k1 k2 k3
      gi_wp2
      refine ⟨G1.out, (t, ta, tc), G3.out.less fun p hp => ?_, rfl, HL.out, HX4.out⟩
      rcases List.mem_cons.1 hp with rfl | hp
      · exact setL_oth (setL_mem (.tail _ (.tail _ (.head _)))) (by omega)
      · obtain rfl := List.mem_singleton.1 hp
        exact setL_mem (o1 := .cells #[.bool true] 4 (0, 0)) (setL_oth (.tail _ (.tail _ (.tail _ (.head _)))) (by omega))
    | false =>
      have HN := Lib.hid (HNX.out (by simpa using hxv))
      gi_wp2
      exact ⟨Keeps.refl _ _, Below.refl _ _, (), HS3.out.less fun p hp => .tail _ hp, HN.out⟩
  case done =>
    rintro D M W hD _ ⟨_, hS, hN⟩ hK
    have HN : Hid (lookL bs v = none) := Lib.hid (lookL_none fun b hb => by obtain ⟨j, hj, rfl⟩ := List.mem_iff_getElem.1 hb; exact hN j hj (by omega))
    obtain ⟨z0, z1, z2, z3, f0, f1, f2, f3⟩ := cellsT (hS.has _ (.tail _ (.head _)))
    obtain ⟨y0, e0⟩ := cell1 (hS.has _ (.tail _ (.tail _ (.head _))))
    obtain ⟨g1, g2, g3⟩ := hS.store4 (.tail _ (.head _)) (by omega) (.int .i64 0) (.string ⟨#[]⟩) (.int .i64 0) (.slice none 0 0)
    obtain ⟨k1, k2, k3⟩ := g3.store (q := w.heap.size + 2) (i := 0) (cs := #[.bool false]) (t := 4) (setL_oth (.tail _ (.tail _ (.head _))) (by omega)) (by omega) (.bool false)
    have HS := Lib.hid k3
    have HK : Hid (∀ x y z u q : Value, (((((W.setCell ⟨w.heap.size + 1, 0, none⟩ x).setCell ⟨w.heap.size + 1, 1, none⟩ y).setCell ⟨w.heap.size + 1, 2, none⟩ z).setCell ⟨w.heap.size + 1, 3, none⟩ u).setCell ⟨w.heap.size + 2, 0, none⟩ q).heap[D]? = some (.deferred (some []))) := Lib.hid (fun x y z u q => by
      rw [Below.heap_setCell _ _ _ _ (show D ≠ w.heap.size + 2 by omega), set4_oth _ _ _ _ (show D ≠ w.heap.size + 1 by omega)]; exact hK)
    have hD' : w.heap.size + 4 ≤ D := by omega
    clear hS hN hK hst hseq g1 g2 g3 k1 k2 k3 hD
    gi_wp2
    refine ⟨by simp, .inl ⟨_, _, rfl, run_takeDeferred (HK.out _ _ _ _ _), ?_⟩⟩
    have m1 : (w.heap.size + 1, Obj.cells #[.int .i64 0, .string ⟨#[]⟩, .int .i64 0, .slice none 0 0] 25 (0, 0)) ∈ setL (setL [(w.heap.size, .cells #[.int .i64 v] 2 (0, 0)), (w.heap.size + 1, .cells #[.int .i64 0, .string ⟨#[]⟩, .int .i64 0, .slice none 0 0] 25 (0, 0)), (w.heap.size + 2, .cells #[.bool false] 4 (0, 0)), (w.heap.size + 3, .cells #[.slice ad bs.length cap] 22 (0, 0))] (w.heap.size + 1) (.cells #[.int .i64 0, .string ⟨#[]⟩, .int .i64 0, .slice none 0 0] 25 (0, 0))) (w.heap.size + 2) (.cells (#[.bool false].setIfInBounds 0 (.bool false)) 4 (0, 0)) :=
      setL_oth (setL_mem (.tail _ (.head _))) (by omega)
    have b1 := HS.out.has _ m1
    have b2 := HS.out.has (w.heap.size + 2, .cells #[.bool false] 4 (0, 0)) (setL_mem (o := .cells #[.bool false] 4 (0, 0)) (setL_oth (.tail _ (.tail _ (.head _))) (by omega)))
    dsimp only at b1 b2
    obtain ⟨r0, r1, r2, r3, _⟩ := cellsT ((World.putObj_heap_other (o := .deferred none) (show w.heap.size + 1 ≠ D by omega)).trans b1)
    obtain ⟨r4, _⟩ := cell1 ((World.putObj_heap_other (o := .deferred none) (show w.heap.size + 2 ≠ D by omega)).trans b2)
    refine ⟨_, by simp [results, Try.results49, go_sem, r0, r1, r2, r3, r4]; rfl, ?_⟩
    rw [HN.out]
    exact ⟨none, 0, rfl, zero_tmS, below_mark HS.out.below (by omega)⟩
  case stop =>
    rintro D c M k W hD _ _ ⟨⟨x, xa, xc⟩, hS, rfl, hl, hp⟩ hK
    have HS := Lib.hid hS
    have HL := Lib.hid hl
    have HK := Lib.hid hK
    have HX : Hid (TmP w P x xa xc) := Lib.hid (hp.kept (fun b hb _ => (hst.below.block b (HP.out b hb)).symm) fun _ h _ => h)
    have hD' : w.heap.size + 4 ≤ D := by omega
    dsimp only at *
    clear hS hl hp hK hst hseq hD
    gi_wp2
    refine ⟨by simp, .inl ⟨_, _, rfl, run_takeDeferred HK.out, ?_⟩⟩
    obtain ⟨r0, r1, r2, r3, _⟩ := cellsT ((World.putObj_heap_other (o := .deferred none) (show w.heap.size + 1 ≠ D by omega)).trans (HS.out.has _ (.head _)))
    obtain ⟨r4, _⟩ := cell1 ((World.putObj_heap_other (o := .deferred none) (show w.heap.size + 2 ≠ D by omega)).trans (HS.out.has _ (.tail _ (.head _))))
    have hb := below_mark HS.out.below (show w.heap.size ≤ D by omega)
    refine ⟨.tuple #[tmv x xa xc, .bool true], by simp [results, Try.results49, go_sem, tmv, r0, r1, r2, r3, r4], ?_⟩
    rw [HL.out]
    exact ⟨xa, xc, rfl, HX.out.kept (fun b _ hl => hb.block b hl) fun _ h _ => h, hb⟩

/-- What is left, in memory. -/
def LfAt (w : World) (mb n : Nat) : Prop := w.heap[mb]? = some (.cells #[.int .i64 (n : Nat)] 3 (0, 0))
theorem LfAt.lt {w : World} {mb n : Nat} (h : LfAt w mb n) : mb < w.heap.size := (Array.getElem?_eq_some_iff.1 h).1

set_option maxRecDepth 100000 in
set_option maxHeartbeats 2000000 in
theorem dv_spend (mb n : Nat) (w : World) (hn : n ≤ 2000) (h : LfAt w mb n) :
    Calls Try.prog 50 #[.pointer (some ⟨mb, 0, none⟩)] w fun e w' => e = .returned (.bool (decide (0 < n))) ∧ LfAt w' mb (n - 1) ∧ Turn (fun j => j = mb) w w' ∧ w'.heap.size = w.heap.size := by
  have hm := h
  unfold LfAt at hm
  have c0 : w.cell? ⟨mb, 0, none⟩ = some (.int .i64 (n : Nat)) := by simp [World.cell?, hm]
  have f0 : w.frozen? ⟨mb, 0, none⟩ = false := by simp [World.frozen?, hm]
  have H0 := Lib.hid h
  clear h
  by_cases hz : n = 0
  · subst hz
    clear hm
    go_enter Try.func50, Try.ntmps50
    go_wp2_with fail
    go_ret
    exact ⟨rfl, H0.out, Turn.refl _ _, rfl⟩
  · rw [show decide (0 < n) = true from decide_eq_true (by omega)]
    have g0 := Lib.heap_setCell_same (i := 0) hm (.int .i64 ((n : Int) - 1))
    have HM : Hid (LfAt (w.setCell ⟨mb, 0, none⟩ (.int .i64 ((n : Int) - 1))) mb (n - 1)) := Lib.hid (by unfold LfAt; rw [show ((n - 1 : Nat) : Int) = (n : Int) - 1 by omega]; simpa using g0)
    have HT := Lib.hid (Turn.set (fun j => j = mb) w (p := ⟨mb, 0, none⟩) rfl (.int .i64 ((n : Int) - 1)))
    have HZ : Hid ((w.setCell ⟨mb, 0, none⟩ (.int .i64 ((n : Int) - 1))).heap.size = w.heap.size) := Lib.hid (by simp [World.setCell])
    have h2 : ((n : Int) == 0) = false := by simp; omega
    clear hm g0
    go_enter Try.func50, Try.ntmps50
    go_wp2_with fail
    go_ret
    exact ⟨rfl, HM.out, HT.out, HZ.out⟩
end Go.Proofs.Ytpmohibhdnmjlaa

/-
  The contract of package subst's own walk.
-/
namespace Go.Proofs.Ytpmohibhdnmjlaa
open Go.RowKit

/-- What a walk leaves: its answer, what is left, all else as it was. -/
def DWalk (P : Nat → Prop) (mb : Nat) (w : World) (r : Tm × Int × Nat) (e : Ending) (w' : World) : Prop :=
  ∃ a2 c2, e = .returned (.tuple #[tmv r.1 a2 c2, .int .i64 r.2.1]) ∧ TmP w' P r.1 a2 c2 ∧ LfAt w' mb (2000 - r.2.2) ∧ Turn (fun j => j = mb) w w'
/-- How much is left. -/
def lfOf (w : World) (mb : Nat) : Nat := match w.cell? ⟨mb, 0, none⟩ with | some (.int _ n) => n.toNat | _ => 0
theorem lfOf_at {w : World} {mb n : Nat} (h : LfAt w mb n) : lfOf w mb = n := by
  unfold LfAt at h
  have c0 : w.cell? ⟨mb, 0, none⟩ = some (.int .i64 (n : Nat)) := by simp [World.cell?, h]
  unfold lfOf
  rw [c0]
  exact Int.toNat_natCast n
theorem LfAt.on {w w' : World} {mb n : Nat} (h : LfAt w mb n) (hb : Below w.heap.size w w') : LfAt w' mb n := (hb.block mb h.lt).trans h
theorem LfAt.turn {M : Nat → Prop} {w w' : World} {mb n : Nat} (h : LfAt w mb n) (ht : Turn M w w') (hM : ¬ M mb) : LfAt w' mb n := (ht.block mb h.lt hM).trans h
theorem dwalk_fin {P : Nat → Prop} {mb n : Nat} {w W : World} {t : Tm} {ad : Option Addr} {cap : Nat} (hm : mb < w.heap.size) (hP : ∀ b, P b → b < w.heap.size ∧ b ≠ mb) (ht : Turn (fun j => j = mb ∨ w.heap.size ≤ j) w W) (hmt : LfAt W mb (2000 - n)) (hp : TmP W P t ad cap) :
    DWalk P mb w (t, 0, n) (.returned (.tuple #[tmv t ad cap, .int .i64 0])) ((((W.setCell ⟨w.heap.size + 1, 0, none⟩ (.int .i64 t.kind)).setCell ⟨w.heap.size + 1, 1, none⟩ (.string t.name)).setCell ⟨w.heap.size + 1, 2, none⟩ (.int .i64 t.n)).setCell ⟨w.heap.size + 1, 3, none⟩ (.slice ad t.args.length cap)) :=
  have k := Turn.set4 (M := fun j => w.heap.size ≤ j) (W := W) (q := w.heap.size + 1) (Nat.le_succ _) (.int .i64 t.kind) (.string t.name) (.int .i64 t.n) (.slice ad t.args.length cap)
  ⟨ad, cap, rfl, hp.turnS k fun b hb => Nat.not_le.2 (hP b hb).1, hmt.turn k (Nat.not_le.2 hm), turn_own ht k⟩
theorem dwalk_err {P : Nat → Prop} {mb n : Nat} {er : Int} {w W : World} (hm : mb < w.heap.size) (ht : Turn (fun j => j = mb ∨ w.heap.size ≤ j) w W) (hmt : LfAt W mb (2000 - n)) :
    DWalk P mb w (zeroT, er, n) (.returned (.tuple #[.agg #[.int .i64 0, .string ⟨#[]⟩, .int .i64 0, .slice none 0 0], .int .i64 er])) ((((W.setCell ⟨w.heap.size + 1, 0, none⟩ (.int .i64 0)).setCell ⟨w.heap.size + 1, 1, none⟩ (.string ⟨#[]⟩)).setCell ⟨w.heap.size + 1, 2, none⟩ (.int .i64 0)).setCell ⟨w.heap.size + 1, 3, none⟩ (.slice none 0 0)) :=
  have k := Turn.set4 (M := fun j => w.heap.size ≤ j) (W := W) (q := w.heap.size + 1) (Nat.le_succ _) (.int .i64 0) (.string ⟨#[]⟩) (.int .i64 0) (.slice none 0 0)
  ⟨none, 0, rfl, zero_tmS, hmt.turn k (Nat.not_le.2 hm), turn_own ht k⟩
/-- Within the walk: the term's own box, the meter, what is still to walk. -/
structure DlkI (bs : List (Int × Tm)) (P : Nat → Prop) (mb : Nat) (w : World) (r : Tm × Int × Nat) (n : Nat) (t : Tm) (W : World) : Prop where
  le : n ≤ 2000
  ans : walkL bs n t = r
  mt : LfAt W mb (2000 - n)
  box : ∃ ad cap, W.heap[w.heap.size]? = some (.cells #[.int .i64 t.kind, .string t.name, .int .i64 t.n, .slice ad t.args.length cap] 25 (0, 0)) ∧ TmP W P t ad cap
  res : W.heap[w.heap.size + 1]? = some (.cells #[.int .i64 0, .string ⟨#[]⟩, .int .i64 0, .slice none 0 0] 25 (0, 0))
  turn : Turn (fun j => j = mb ∨ w.heap.size ≤ j) w W
theorem DlkI.on {bs : List (Int × Tm)} {P : Nat → Prop} {mb : Nat} {w : World} {r : Tm × Int × Nat} {n : Nat} {t : Tm} {W W' : World} (h : DlkI bs P mb w r n t W) (hb : Below W.heap.size W W') : DlkI bs P mb w r n t W' := by
  obtain ⟨ad, cap, h1, h2⟩ := h.box
  exact ⟨h.le, h.ans, h.mt.on hb, ⟨ad, cap, keptR9 hb h1, h2.onS hb⟩, keptR9 hb h.res, ⟨hb.os.trans h.turn.os, hb.tape.trans h.turn.tape, hb.output.trans h.turn.output, Nat.le_trans h.turn.size hb.size, fun k hk hn => (hb.block k (Nat.lt_of_lt_of_le hk h.turn.size)).trans (h.turn.block k hk hn)⟩⟩
/-- One binding followed. -/
theorem DlkI.step {bs : List (Int × Tm)} {P : Nat → Prop} {mb : Nat} {w : World} {r : Tm × Int × Nat} {n : Nat} {t x : Tm} {W W3 : World} {xa : Option Addr} {xc : Nat} (h : DlkI bs P mb w r n t W) (hm : mb < w.heap.size) (hP : ∀ b, P b → b < w.heap.size ∧ b ≠ mb) (hn : n < 2000) (hk : t.kind = 1) (hl : lookL bs t.n = some x)
    (hx : TmP W P x xa xc) (h3 : Turn (fun j => j = mb) W W3) (hm3 : LfAt W3 mb (2000 - (n + 1))) : DlkI bs P mb w r (n + 1) x ((((W3.setCell ⟨w.heap.size, 0, none⟩ (.int .i64 x.kind)).setCell ⟨w.heap.size, 1, none⟩ (.string x.name)).setCell ⟨w.heap.size, 2, none⟩ (.int .i64 x.n)).setCell ⟨w.heap.size, 3, none⟩ (.slice xa x.args.length xc)) := by
  obtain ⟨ad, cap, h1, _⟩ := h.box
  have h1l := (Array.getElem?_eq_some_iff.1 h1).1
  have h2l := (Array.getElem?_eq_some_iff.1 h.res).1
  have k := Turn.set4 (M := fun j => j = w.heap.size) (W := W3) (q := w.heap.size) rfl (.int .i64 x.kind) (.string x.name) (.int .i64 x.n) (.slice xa x.args.length xc)
  refine ⟨hn, (walk_step hn hk hl).symm.trans h.ans, hm3.turn k (by omega), ⟨xa, xc, set4_blk ((h3.block _ h1l (by omega)).trans h1) _ _ _ _, (hx.turnS h3 fun b hb => (hP b hb).2).turnS k fun b hb => by have := (hP b hb).1; omega⟩, (k.block _ (Nat.lt_of_lt_of_le h2l h3.size) (by omega)).trans ((h3.block _ h2l (by omega)).trans h.res), ?_⟩
  exact (h.turn.trans (h3.more fun j e => .inl e)).trans (k.more fun j e => .inr (by omega))

set_option maxRecDepth 100000 in
set_option maxHeartbeats 4000000 in
theorem dv_walk (bs : List (Int × Tm)) (ab : Option Addr) (cb mb n : Nat) (t : Tm) (ad : Option Addr) (cap : Nat) (w : World) (P : Nat → Prop) (hlen : bs.length ≤ 1000000) (hP : ∀ b, P b → b < w.heap.size ∧ b ≠ mb) (hb : BdsAt w P ab bs) (hm : LfAt w mb (2000 - n)) (hn : n ≤ 2000) (ht : TmP w P t ad cap) :
    Calls Try.prog 40 #[.slice ab bs.length cb, tmv t ad cap, .pointer (some ⟨mb, 0, none⟩)] w (DWalk P mb w (walkL bs n t)) := by
  obtain ⟨r, hr⟩ : ∃ r, walkL bs n t = r := ⟨_, rfl⟩
  rw [hr]
  have hml := hm.lt
  have HP := Lib.hid hP
  have HBD := Lib.hid hb
  have hI : DlkI bs P mb w r n t ((w.alloc (.cells #[.int .i64 t.kind, .string t.name, .int .i64 t.n, .slice ad t.args.length cap] 25)).alloc (.cells #[.int .i64 0, .string ⟨#[]⟩, .int .i64 0, .slice none 0 0] 25)) := by
    have hb1 : ∀ o1 o2 : Obj, Below w.heap.size w ((w.alloc o1).alloc o2) := fun o1 o2 => ((Below.refl _ w).alloc (Nat.le_refl _) o1).alloc (by simp) o2
    exact ⟨hn, hr, hm.on (hb1 _ _), ⟨ad, cap, (Below.heap_alloc (w.alloc _) _ _ (by simp)).trans (alloc_new w _), ht.onS (hb1 _ _)⟩, alloc_new2 w _ _, ⟨(hb1 _ _).os, (hb1 _ _).tape, (hb1 _ _).output, (hb1 _ _).size, fun k hk _ => (hb1 _ _).block k hk⟩⟩
  have HI := Lib.hid hI
  clear hI hm ht hr hb hP
  unfold tmv
  go_enter Try.func40, Try.ntmps40
  go_wp2_with fail
  go_loopw [] (fun wr => ∃ n t, DlkI bs P mb w r n t wr) (fun wr => lfOf wr mb)
  case atStart => exact ⟨n, t, HI.out⟩
  case round =>
    obtain ⟨n, t, hi⟩ := hrel
    obtain ⟨ad, cap, hbx, hp⟩ := hi.box
    have hsz := hi.turn.size
    have hle := hi.le
    have hs2 := (Array.getElem?_eq_some_iff.1 hi.res).1
    have HIN := Lib.hid hi
    have HPT := Lib.hid hp
    have HBX := Lib.hid hbx
    have hML := hi.mt.lt
    clear hi hp hbx
    obtain ⟨c0, c1, c2, c3, f0, f1, f2, f3⟩ := cellsT HBX.out
    cases hk : (t.kind == 1) with
    | false =>
      have HR : Hid (r = (t, 0, n)) := Lib.hid (HIN.out.ans.symm.trans (walk_stop hle (.inl (by simpa using hk))))
      obtain ⟨z0, z1, z2, z3, e0, e1, e2, e3⟩ := cellsT HIN.out.res
      have HF := Lib.hid (dwalk_fin hml HP.out HIN.out.turn HIN.out.mt HPT.out)
      have g4 := set4_blk HIN.out.res (.int .i64 t.kind) (.string t.name) (.int .i64 t.n) (.slice ad t.args.length cap)
      have G4 := Lib.hid g4
      clear g4
      go_wp2_with fail
      obtain ⟨y0, y1, y2, y3, _⟩ := cellsT G4.out
      refine bodyPost_ret (v := .tuple #[tmv t ad cap, .int .i64 0]) (by simp [results, Try.results40, go_sem, tmv, y0, y1, y2, y3]) rfl ?_
      rw [HR.out]
      exact HF.out
    | true =>
      have HLK := Lib.hid (dv_look bs t.n ab cb wr P (fun b hb => by have := HP.out b hb; omega) hlen (HBD.out.turn HIN.out.turn fun b hb => by have := HP.out b hb; omega))
      obtain ⟨lk, hlk⟩ : ∃ lk, lookL bs t.n = lk := ⟨_, rfl⟩
      rw [hlk] at HLK
      cases lk with
      | none =>
        have HR : Hid (r = (t, 0, n)) := Lib.hid (HIN.out.ans.symm.trans (walk_stop hle (.inr hlk)))
        clear hlk
        unfold tmv at HLK
        go_wp2_with fail
        refine HLK.out.mono ?_; rintro e w1 ⟨xa, xc, rfl, hx, hb1⟩
        have hs1 := hb1.size
        go_upto_region 3 with fail
        have hb2 := hb1.trans (((Below.refl _ w1).alloc (Nat.le_refl _) (.cells #[.int .i64 zeroT.kind, .string zeroT.name, .int .i64 zeroT.n, .slice xa zeroT.args.length xc] 25)).mono hs1)
        generalize w1.alloc (.cells #[.int .i64 zeroT.kind, .string zeroT.name, .int .i64 zeroT.n, .slice xa zeroT.args.length xc] 25) = w2 at *
        have HI2 := Lib.hid (HIN.out.on hb2)
        have HF := Lib.hid (dwalk_fin hml HP.out HI2.out.turn HI2.out.mt (HPT.out.onS hb2))
        have g4 := set4_blk HI2.out.res (.int .i64 t.kind) (.string t.name) (.int .i64 t.n) (.slice ad t.args.length cap)
        have G4 := Lib.hid g4
        have hbx2 := keptR9 hb2 HBX.out
        clear g4 c0 c1 c2 c3 f0 f1 f2 f3 hx hb1 hb2
        obtain ⟨c0, c1, c2, c3, _⟩ := cellsT hbx2
        obtain ⟨z0, z1, z2, z3, e0, e1, e2, e3⟩ := cellsT HI2.out.res
        go_wp2_with fail
        obtain ⟨y0, y1, y2, y3, _⟩ := cellsT G4.out
        refine bodyPost_ret (v := .tuple #[tmv t ad cap, .int .i64 0]) (by simp [results, Try.results40, go_sem, tmv, y0, y1, y2, y3]) rfl ?_
        rw [HR.out]
        exact HF.out
      | some x =>
        have HST := Lib.hid (fun (hn : n < 2000) W W3 xa xc (h : DlkI bs P mb w r n t W) (hx : TmP W P x xa xc) h3 hm3 => DlkI.step (W3 := W3) (xa := xa) (xc := xc) h hml HP.out hn (by simpa using hk) hlk hx h3 hm3)
        have HRO : Hid (n = 2000 → r = (zeroT, 140, 2001)) := Lib.hid (fun e => by
          have h := HIN.out.ans
          rw [e, walk_over (by simpa using hk) hlk] at h
          exact h.symm)
        clear hlk
        unfold tmv at HLK
        dsimp only [Option.getD, Option.isSome] at HLK
        go_wp2_with fail
        refine HLK.out.mono ?_; rintro e w1 ⟨xa, xc, rfl, hx, hb1⟩
        have hs1 := hb1.size
        go_upto_region 4 with fail
        have hba := (Below.refl _ w1).alloc (Nat.le_refl _) (.cells #[.int .i64 x.kind, .string x.name, .int .i64 x.n, .slice xa x.args.length xc] 25)
        have hb2 := hb1.trans (hba.mono hs1)
        have hqx := alloc_new w1 (.cells #[.int .i64 x.kind, .string x.name, .int .i64 x.n, .slice xa x.args.length xc] 25)
        have hs2' : (w1.alloc (.cells #[.int .i64 x.kind, .string x.name, .int .i64 x.n, .slice xa x.args.length xc] 25)).heap.size = w1.heap.size + 1 := World.size_alloc _ _
        generalize w1.alloc (.cells #[.int .i64 x.kind, .string x.name, .int .i64 x.n, .slice xa x.args.length xc] 25) = w2 at *
        have HI2 := Lib.hid (HIN.out.on hb2)
        have HX2 := Lib.hid (hx.onS hba)
        have HQX := Lib.hid hqx
        have HSP := Lib.hid (dv_spend mb (2000 - n) w2 (by omega) HI2.out.mt)
        have hbx2 := Lib.hid (keptR9 hb2 HBX.out)
        clear c0 c1 c2 c3 f0 f1 f2 f3 hx hb1 hb2 hba hqx HLK
        go_wp2_with fail
        refine HSP.out.mono ?_; rintro e w3 ⟨rfl, hm3, ht3, hs3⟩
        rw [show 2000 - n - 1 = 2000 - (n + 1) by omega] at hm3
        have HM3 := Lib.hid hm3
        have HT3 := Lib.hid ht3
        obtain ⟨x0, x1, x2, x3, _⟩ := cellsT ((ht3.block w1.heap.size (by omega) (by omega)).trans HQX.out)
        obtain ⟨c0, c1, c2, c3, f0, f1, f2, f3⟩ := cellsT ((ht3.block w.heap.size (by omega) (by omega)).trans hbx2.out)
        clear hm3 ht3
        by_cases hn2 : n < 2000
        · have hd : decide (0 < 2000 - n) = true := decide_eq_true (by omega)
          have HN := Lib.hid (HST.out hn2 w2 w3 xa xc HI2.out HX2.out HT3.out HM3.out)
          have HMS := Lib.hid (lfOf_at HIN.out.mt)
          have HMT := Lib.hid (lfOf_at HN.out.mt)
          go_wp2_with fail
          go_roundw
          case rel => exact ⟨n + 1, x, HN.out⟩
          case measure => rw [HMS.out, HMT.out]; omega
        · have hd : decide (0 < 2000 - n) = false := decide_eq_false (by omega)
          have HR := Lib.hid (HRO.out (by omega))
          have HN9 : Hid (LfAt w3 mb (2000 - 2001)) := Lib.hid (by have h := HM3.out; rwa [show n + 1 = 2001 by omega] at h)
          have hres := (HT3.out.block (w.heap.size + 1) (by omega) (by omega)).trans HI2.out.res
          have HF := Lib.hid (dwalk_err (P := P) (er := 140) hml (HI2.out.turn.trans (HT3.out.more fun j e => .inl e)) HN9.out)
          have G4 := Lib.hid (set4_blk hres (.int .i64 0) (.string ⟨#[]⟩) (.int .i64 0) (.slice none 0 0))
          obtain ⟨z0, z1, z2, z3, e0, e1, e2, e3⟩ := cellsT hres
          clear hres
          go_wp2_with fail
          obtain ⟨y0, y1, y2, y3, _⟩ := cellsT G4.out
          refine bodyPost_ret (v := .tuple #[.agg #[.int .i64 0, .string ⟨#[]⟩, .int .i64 0, .slice none 0 0], .int .i64 140]) (by simp [results, Try.results40, go_sem, y0, y1, y2, y3]) rfl ?_
          rw [HR.out]
          exact HF.out
end Go.Proofs.Ytpmohibhdnmjlaa

/-
  The contracts of package subst's own Look, Walk, Fresh, from outside.
-/
namespace Go.Proofs.Ytpmohibhdnmjlaa
open Go.RowKit

theorem zeroK_size : zeroT.size ≤ 1000000 := by decide +kernel
theorem lookK_size {bs : List (Int × Tm)} (hsz : ∀ b ∈ bs, b.2.size ≤ 1000000) (v : Int) : ((lookL bs v).getD zeroT).size ≤ 1000000 := by
  cases hl : lookL bs v with
  | none => exact zeroK_size
  | some t => exact hsz _ (lookL_mem hl)
theorem walkK_size {bs : List (Int × Tm)} (hsz : ∀ b ∈ bs, b.2.size ≤ 1000000) : ∀ (f n : Nat) (t : Tm), t.size ≤ 1000000 → (walkF bs f n t).1.size ≤ 1000000
  | 0, _, _, _ => zeroK_size
  | f + 1, n, t, ht => by
    unfold walkF
    by_cases hk : t.kind = 1
    · rw [if_pos hk]
      cases hl : lookL bs t.n with
      | none => exact ht
      | some x =>
        dsimp only
        by_cases hn : n < 2000
        · rw [if_pos hn]; exact walkK_size hsz f (n + 1) x (hsz _ (lookL_mem hl))
        · rw [if_neg hn]; exact zeroK_size
    · rw [if_neg hk]; exact ht
/-- A term laid into the result's own block. -/
theorem laid_result {w w0 w2 : World} {B q : Nat} {R : Tm} {ad : Option Addr} {cap : Nat} (hp : TmP w2 (fun b => B ≤ b) R ad cap) (h0 : Below w.heap.size w w0) (hb : Below w0.heap.size w0 w2) (hB : q < B) (hq : w.heap.size ≤ q) (x y z u : Value) :
    TmIn ((((w2.setCell ⟨q, 0, none⟩ x).setCell ⟨q, 1, none⟩ y).setCell ⟨q, 2, none⟩ z).setCell ⟨q, 3, none⟩ u) R ad cap ∧ Below w.heap.size w ((((w2.setCell ⟨q, 0, none⟩ x).setCell ⟨q, 1, none⟩ y).setCell ⟨q, 2, none⟩ z).setCell ⟨q, 3, none⟩ u) :=
  ⟨(hp.kept (Q := fun _ => True) (fun b hb _ => set4_oth (W := w2) (q := q) x y z u (by omega)) fun _ _ _ => trivial).toIn, set4_low (h0.trans (hb.mono h0.size)) hq⟩
theorem laid_resultP {w w2 : World} {B q : Nat} {R : Tm} {ad : Option Addr} {cap : Nat} (hp : TmP w2 (fun b => B ≤ b) R ad cap) (hB : q < B) (hw : w.heap.size ≤ B) (x y z u : Value) :
    TmP ((((w2.setCell ⟨q, 0, none⟩ x).setCell ⟨q, 1, none⟩ y).setCell ⟨q, 2, none⟩ z).setCell ⟨q, 3, none⟩ u) (fun b => w.heap.size ≤ b) R ad cap :=
  hp.kept (Q := fun b => w.heap.size ≤ b) (fun b hb _ => set4_oth (W := w2) (q := q) x y z u (by omega)) fun b hb _ => Nat.le_trans hw hb

/-- Three blocks laid, one behind the other. -/
theorem stayB3 (w : World) (o1 o2 o3 : Obj) : (((w.alloc o1).alloc o2).alloc o3).heap[w.heap.size]? = some o1 ∧ (((w.alloc o1).alloc o2).alloc o3).heap[w.heap.size + 1]? = some o2 ∧ (((w.alloc o1).alloc o2).alloc o3).heap[w.heap.size + 2]? = some o3 := by
  have h := stayB4 w o1 o2 o3 o3
  have s3 : (((w.alloc o1).alloc o2).alloc o3).heap.size = w.heap.size + 3 := by simp
  have k : ∀ j, j < w.heap.size + 3 → (((w.alloc o1).alloc o2).alloc o3).heap[j]? = ((((w.alloc o1).alloc o2).alloc o3).alloc o3).heap[j]? := fun j hj => (Below.heap_alloc _ _ _ (by omega)).symm
  exact ⟨(k _ (by omega)).trans (h.has _ (.head _)), (k _ (by omega)).trans (h.has _ (.tail _ (.head _))), (k _ (by omega)).trans (h.has _ (.tail _ (.tail _ (.head _))))⟩

set_option maxRecDepth 100000 in
set_option maxHeartbeats 4000000 in
theorem sb_WalkN (bs : List (Int × Tm)) (ab : Option Addr) (cb : Nat) (t : Tm) (ad : Option Addr) (cap : Nat) (w : World) (hlen : bs.length ≤ 1000000) (_hl : bs.length ≤ cb) (_hc : cb ≤ maxLen) (hsz : ∀ b ∈ bs, b.2.size ≤ 1000000) (hb : BdsAt w (fun b => b < w.heap.size) ab bs) (hts : t.size ≤ 1000000) (ht : TmIn w t ad cap) :
    Calls Try.prog 33 #[.slice ab bs.length cb, tmv t ad cap] w fun e w' => ∃ a2 c2, e = .returned (.tuple #[tmv (walkL bs 0 t).1 a2 c2, .int .i64 (walkL bs 0 t).2.1]) ∧ TmP w' (fun b => w.heap.size ≤ b) (walkL bs 0 t).1 a2 c2 ∧ Below w.heap.size w w' := by
  have hXs : (walkL bs 0 t).1.size ≤ 1000000 := walkK_size hsz (2001 - 0) 0 t hts
  have HW := Lib.hid (fun W (h : Below w.heap.size w W) (hm : LfAt W (w.heap.size + 2) (2000 - 0)) => dv_walk bs ab cb (w.heap.size + 2) 0 t ad cap W (fun b => b < w.heap.size) hlen (fun b hb' => ⟨Nat.lt_of_lt_of_le hb' h.size, by omega⟩) (hb.kept (fun b hb' _ => h.block b hb') fun _ h _ => h) hm (Nat.zero_le _) (ht.inP.kept (fun b hb' _ => h.block b hb') fun _ h _ => h))
  clear hb ht hts hsz
  generalize walkL bs 0 t = r at *
  obtain ⟨X, er, n⟩ := r
  dsimp only at *
  have HC := Lib.hid (fun a c W (hin : TmIn W X a c) => term_Copy X a c W hXs hin)
  clear hXs
  unfold DWalk at HW
  unfold MadeTerm at HC
  unfold tmv at *
  have HB0 := Lib.hid ((((Below.refl w.heap.size w).alloc (Nat.le_refl _) (.cells #[.int .i64 t.kind, .string t.name, .int .i64 t.n, .slice ad t.args.length cap] 25)).alloc (by simp) (.cells #[.int .i64 0, .string ⟨#[]⟩, .int .i64 0, .slice none 0 0] 25)).alloc (by simp; omega) (.cells #[.int .i64 2000] 3))
  have HA := Lib.hid (stayB3 w (.cells #[.int .i64 t.kind, .string t.name, .int .i64 t.n, .slice ad t.args.length cap] 25) (.cells #[.int .i64 0, .string ⟨#[]⟩, .int .i64 0, .slice none 0 0] 25) (.cells #[.int .i64 2000] 3))
  go_enter Try.func33, Try.ntmps33
  go_wp2_with fail
  generalize ((w.alloc _).alloc _).alloc _ = w0 at *
  obtain ⟨hq0, hq1, hq2⟩ := HA.out
  refine (HW.out _ HB0.out hq2).mono ?_; rintro e w1 ⟨a2, c2, rfl, hx, _, ht1⟩
  have hz := (Array.getElem?_eq_some_iff.1 hq2).1
  have g0 := (ht1.block w.heap.size (by omega) (by omega)).trans hq0
  have g1 := (ht1.block (w.heap.size + 1) (by omega) (by omega)).trans hq1
  have hb1 := below_turn HB0.out ht1 (fun j e => by omega) HB0.out.size
  have HB1 := Lib.hid (set4_low (q := w.heap.size) (x := .int .i64 X.kind) (y := .string X.name) (z := .int .i64 X.n) (u := .slice a2 X.args.length c2) hb1 (Nat.le_refl _))
  have HG0 := Lib.hid (set4_blk g0 (.int .i64 X.kind) (.string X.name) (.int .i64 X.n) (.slice a2 X.args.length c2))
  have HG1 := Lib.hid ((set4_oth (W := w1) (q := w.heap.size) (j := w.heap.size + 1) (.int .i64 X.kind) (.string X.name) (.int .i64 X.n) (.slice a2 X.args.length c2) (by omega)).trans g1)
  have HX1 := Lib.hid (hx.kept (Q := fun _ => True) (fun b hb _ => set4_oth (W := w1) (q := w.heap.size) (.int .i64 X.kind) (.string X.name) (.int .i64 X.n) (.slice a2 X.args.length c2) (by omega)) fun _ _ _ => trivial).toIn
  obtain ⟨z0, z1, z2, z3, e0, e1, e2, e3⟩ := cellsT g0
  clear hx ht1 hb1 g0 g1 hq0 hq1 hq2 HA HW
  go_upto_region 3 with fail
  generalize (((w1.setCell _ _).setCell _ _).setCell _ _).setCell _ _ = w3 at *
  obtain ⟨y0, y1, y2, y3, _⟩ := cellsT HG0.out
  clear z0 z1 z2 z3 e0 e1 e2 e3
  go_wp2_with fail
  refine (HC.out a2 c2 _ HX1.out).mono ?_; rintro e w2 ⟨a3, c3, rfl, hp, hb2⟩
  have hz3 := (Array.getElem?_eq_some_iff.1 HG1.out).1
  have hq2 := keptR9 hb2 HG1.out
  have HR := Lib.hid (laid_result (q := w.heap.size + 1) hp HB1.out hb2 (by omega) (by omega) (.int .i64 X.kind) (.string X.name) (.int .i64 X.n) (.slice a3 X.args.length c3))
  have HRP := Lib.hid (laid_resultP (w := w) (q := w.heap.size + 1) hp (by omega) (by omega) (.int .i64 X.kind) (.string X.name) (.int .i64 X.n) (.slice a3 X.args.length c3))
  have G4 := Lib.hid (set4_blk hq2 (.int .i64 X.kind) (.string X.name) (.int .i64 X.n) (.slice a3 X.args.length c3))
  obtain ⟨z0, z1, z2, z3, e0, e1, e2, e3⟩ := cellsT hq2
  clear hp hb2 hq2 y0 y1 y2 y3
  go_wp2_with fail
  obtain ⟨y0, y1, y2, y3, _⟩ := cellsT G4.out
  refine bodyPost_ret (v := .tuple #[tmv X a3 c3, .int .i64 er]) (by simp [results, Try.results33, go_sem, tmv, y0, y1, y2, y3]) rfl ?_
  exact ⟨a3, c3, rfl, HRP.out, HR.out.2⟩
theorem sb_Walk (bs : List (Int × Tm)) (ab : Option Addr) (cb : Nat) (t : Tm) (ad : Option Addr) (cap : Nat) (w : World) (hlen : bs.length ≤ 1000000) (_hl : bs.length ≤ cb) (_hc : cb ≤ maxLen) (hsz : ∀ b ∈ bs, b.2.size ≤ 1000000) (hb : BdsAt w (fun b => b < w.heap.size) ab bs) (hts : t.size ≤ 1000000) (ht : TmIn w t ad cap) :
    Calls Try.prog 33 #[.slice ab bs.length cb, tmv t ad cap] w fun e w' => ∃ a2 c2, e = .returned (.tuple #[tmv (walkL bs 0 t).1 a2 c2, .int .i64 (walkL bs 0 t).2.1]) ∧ TmIn w' (walkL bs 0 t).1 a2 c2 ∧ Below w.heap.size w w' :=
  (sb_WalkN bs ab cb t ad cap w hlen _hl _hc hsz hb hts ht).mono fun _ _ ⟨a2, c2, h1, h2, h3⟩ => ⟨a2, c2, h1, h2.toIn, h3⟩

end Go.Proofs.Ytpmohibhdnmjlaa
