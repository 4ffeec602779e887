/-
  Joined texts: SubKA, SubKB, SubKC.
-/
import Derived.Test.YtlpmofmhcnclhaaSubBE
import Derived.Test.YtlpmofmhcnclhaaSubH
import Derived.Test.YtlpmofmhcnclhaaTermDevCS

/-
  The contracts of package subst's own look and spend.
-/
namespace Go.Proofs.Ytlpmofmhcnclhaa
open Go.RowKit

theorem setL_setL (L : List (Nat × Obj)) (q : Nat) (o1 o2 : Obj) : setL (setL L q o1) q o2 = setL L q o2 := by
  unfold setL
  rw [List.map_map]
  refine List.map_congr_left fun p _ => ?_
  show (if (if p.1 = q then (q, o1) else p).1 = q then (q, o2) else if p.1 = q then (q, o1) else p) = _
  by_cases h : p.1 = q
  · rw [if_pos h, if_pos rfl, if_pos h]
  · rw [if_neg h, if_neg h]
theorem setL_mem {L : List (Nat × Obj)} {q : Nat} {o o1 : Obj} (h : (q, o) ∈ L) : (q, o1) ∈ setL L q o1 := List.mem_map.2 ⟨(q, o), h, by rw [if_pos rfl]⟩
theorem setL_oth {L : List (Nat × Obj)} {q q' : Nat} {o o1 : Obj} (h : (q', o) ∈ L) (hne : q' ≠ q) : (q', o) ∈ setL L q o1 := List.mem_map.2 ⟨(q', o), h, by rw [if_neg hne]⟩
/-- A term's four cells stored into one of the blocks. -/
theorem Stay.store4 {n₀ : Nat} {w W : World} {L : List (Nat × Obj)} {M : Nat → Prop} (h : Stay n₀ w L M W) {q t : Nat} {a b c d : Value} (hq : (q, .cells #[a, b, c, d] t (0, 0)) ∈ L) (hn : n₀ ≤ q) (x y z u : Value) :
    Keeps M W ((((W.setCell ⟨q, 0, none⟩ x).setCell ⟨q, 1, none⟩ y).setCell ⟨q, 2, none⟩ z).setCell ⟨q, 3, none⟩ u) ∧ Below n₀ W ((((W.setCell ⟨q, 0, none⟩ x).setCell ⟨q, 1, none⟩ y).setCell ⟨q, 2, none⟩ z).setCell ⟨q, 3, none⟩ u) ∧
      Stay n₀ w (setL L q (.cells #[x, y, z, u] t (0, 0))) M ((((W.setCell ⟨q, 0, none⟩ x).setCell ⟨q, 1, none⟩ y).setCell ⟨q, 2, none⟩ z).setCell ⟨q, 3, none⟩ u) := by
  obtain ⟨k1, b1, s1⟩ := h.store hq hn 0 x
  obtain ⟨k2, b2, s2⟩ := s1.store (setL_mem hq) hn 1 y
  rw [setL_setL] at s2
  obtain ⟨k3, b3, s3⟩ := s2.store (setL_mem hq) hn 2 z
  rw [setL_setL] at s3
  obtain ⟨k4, b4, s4⟩ := s3.store (setL_mem hq) hn 3 u
  rw [setL_setL] at s4
  exact ⟨((k1.trans k2).trans k3).trans k4, ((b1.trans b2).trans b3).trans b4, s4⟩
theorem cells5 {W : World} {q t : Nat} {v0 v1 v2 v3 v4 : Value} (h : W.heap[q]? = some (.cells #[v0, v1, v2, v3, v4] t (0, 0))) : W.cell? ⟨q, 0, none⟩ = some v0 ∧ W.cell? ⟨q, 1, none⟩ = some v1 ∧ W.cell? ⟨q, 2, none⟩ = some v2 ∧ W.cell? ⟨q, 3, none⟩ = some v3 ∧ W.cell? ⟨q, 4, none⟩ = some v4 := by
  simp [World.cell?, h]
theorem stayB4 (w : World) (o1 o2 o3 o4 : Obj) : Stay w.heap.size w [(w.heap.size, o1), (w.heap.size + 1, o2), (w.heap.size + 2, o3), (w.heap.size + 3, o4)] (fun _ => False) ((((w.alloc o1).alloc o2).alloc o3).alloc o4) := by
  have s1 : (w.alloc o1).heap.size = w.heap.size + 1 := World.size_alloc _ _
  have s2 : ((w.alloc o1).alloc o2).heap.size = w.heap.size + 2 := by rw [World.size_alloc, s1]
  have s3 : (((w.alloc o1).alloc o2).alloc o3).heap.size = w.heap.size + 3 := by rw [World.size_alloc, s2]
  have h4 := alloc_new (((w.alloc o1).alloc o2).alloc o3) o4
  have h3 := alloc_new ((w.alloc o1).alloc o2) o3
  have h2 := alloc_new (w.alloc o1) o2
  have h1 := alloc_new w o1
  rw [s3] at h4
  rw [s2] at h3
  rw [s1] at h2
  refine ⟨(((((Below.refl _ w).alloc (Nat.le_refl _) _).alloc (by omega) _).alloc (by omega) _).alloc (by omega) _), fun _ h => h.elim, fun p hp => ?_⟩
  rcases List.mem_cons.1 hp with rfl | hp
  · exact (Below.heap_alloc _ _ _ (by dsimp only; omega)).trans ((Below.heap_alloc _ _ _ (by dsimp only; omega)).trans ((Below.heap_alloc _ _ _ (by dsimp only; omega)).trans h1))
  rcases List.mem_cons.1 hp with rfl | hp
  · exact (Below.heap_alloc _ _ _ (by dsimp only; omega)).trans ((Below.heap_alloc _ _ _ (by dsimp only; omega)).trans h2)
  rcases List.mem_cons.1 hp with rfl | hp
  · exact (Below.heap_alloc _ _ _ (by dsimp only; omega)).trans h3
  · obtain rfl := List.mem_singleton.1 hp
    exact h4

attribute [local go_sem] Oper.semAt_some
set_option maxRecDepth 100000 in
set_option maxHeartbeats 4000000 in
theorem dv_look (bs : List (Int × Tm)) (v : Int) (ad : Option Addr) (cap : Nat) (w : World) (P : Nat → Prop) (hP : ∀ b, P b → b < w.heap.size) (hlen : bs.length ≤ 1000000) (h : BdsAt w P ad bs) :
    Calls Try.prog 48 #[.slice ad bs.length cap, .int .i64 v] w fun e w' => ∃ a2 c2, e = .returned (.tuple #[tmv ((lookL bs v).getD zeroT) a2 c2, .bool (lookL bs v).isSome]) ∧ TmP w' P ((lookL bs v).getD zeroT) a2 c2 ∧ Below w.heap.size w w' := by
  have HB := Lib.hid h
  have HP := Lib.hid hP
  clear h hP
  refine (callsIn_wide (n := 4)).1 ?_
  refine callsIn_of_wp_marks Try.func48 rfl trivial ?_ rfl
  simp only [Try.ntmps48, List.size_toArray, List.length_cons, List.length_nil, Nat.reduceAdd, Nat.reduceSub, Array.replicate_succ, Array.replicate_zero, List.push_toArray, List.append_toArray, List.nil_append, List.cons_append]
  gi_wp2_with ((refine ⟨trivial, ?_⟩; gi_at_call 56; refine (callsIn_wide.2 (sl_BackwardB _ _ _ _)).mono ?_; rintro e w' ⟨rfl, rfl⟩))
  have hst := stayB4 w (.cells #[.int .i64 v] 2) (.cells #[.int .i64 0, .string ⟨#[]⟩, .int .i64 0, .slice none 0 0] 25) (.cells #[.bool false] 4) (.cells #[.slice ad bs.length cap] 22)
  have hsz : ((((w.alloc (.cells #[.int .i64 v] 2)).alloc (.cells #[.int .i64 0, .string ⟨#[]⟩, .int .i64 0, .slice none 0 0] 25)).alloc (.cells #[.bool false] 4)).alloc (.cells #[.slice ad bs.length cap] 22)).heap.size = w.heap.size + 4 := by simp
  generalize ((((w.alloc _).alloc _).alloc _).alloc _) = W0 at *
  have hseq := backb_seq bs ad cap (w.heap.size + 3) w.heap.size W0 P HP.out hlen (HB.out.kept (fun b _ hl => hst.below.block b hl) fun _ h _ => h) (by omega)
  refine range_walkG (gf := 58) (lb := #[.pointer (some ⟨w.heap.size + 3, 0, none⟩)]) rfl (enters_of Try.func58 (by kernel_rfl) rfl) hseq (Below.refl _ _) (by omega) (fun _ => rfl)
    (StayI w.heap.size w (fun k (_ : Unit) => [(w.heap.size, .cells #[.int .i64 v] 2 (0, 0)), (w.heap.size + 1, .cells #[.int .i64 0, .string ⟨#[]⟩, .int .i64 0, .slice none 0 0] 25 (0, 0)), (w.heap.size + 2, .cells #[.bool false] 4 (0, 0)), (w.heap.size + 3, .cells #[.slice ad bs.length cap] 22 (0, 0))]) (fun k _ => ∀ j (hj : j < bs.length), bs.length ≤ j + k → bs[j].1 ≠ v))
    (fun c => StayI w.heap.size w (fun _ (x : Tm × Option Addr × Nat) => [(w.heap.size + 1, .cells #[.int .i64 x.1.kind, .string x.1.name, .int .i64 x.1.n, .slice x.2.1 x.1.args.length x.2.2] 25 (0, 0)), (w.heap.size + 2, .cells #[.bool true] 4 (0, 0))]) (fun _ x => c = .ret ∧ lookL bs v = some x.1 ∧ TmP W0 P x.1 x.2.1 x.2.2))
    (fun M k W h => by obtain ⟨_, hS, _⟩ := h; exact hS.has _ (.tail _ (.tail _ (.tail _ (.head _))))) (stay_abides (Nat.le_refl _) _ _) (fun _ => stay_abides (Nat.le_refl _) _ _) ⟨(), hst, fun j hj hk => by omega⟩ ?round ?done ?stop
  case round =>
    rintro l M k ⟨j, ⟨n, t⟩, ta, tc⟩ W ⟨_, hS, hN⟩ hk hx hMl
    dsimp only [BackBd] at hx
    obtain ⟨x1, x2, x3, x4⟩ := hx
    have hM1 : ∀ j, M j → j < W.heap.size := fun j hj => (hMl j hj).2
    have hjl : j < bs.length := by omega
    have hbj : bs[j] = (n, t) := by rw [List.getElem?_eq_getElem hjl] at x2; injection x2
    have HAT : Hid (n = v → lookL bs v = some t) := Lib.hid (fun e => by
      have := lookL_drop (bs := bs) (v := v) j hjl (by rw [hbj]; exact e) fun i hi hji => hN i hi (by omega)
      rw [hbj] at this
      exact this)
    have HNX : Hid (n ≠ v → ∀ i (hi : i < bs.length), bs.length ≤ i + (k + 1) → bs[i].1 ≠ v) := Lib.hid (fun hf i hi hik => by
      by_cases e : i = j
      · subst e; rw [hbj]; exact hf
      · exact hN i hi (by omega))
    have HS := Lib.hid hS
    have HM1 := Lib.hid hM1
    have HX4 := Lib.hid x4
    clear hS hN x2 x4 hMl hM1 hst hseq hbj
    unfold backbv
    dsimp only
    gi_wp2
    obtain ⟨a1, a2, a3⟩ := HS.out.grow (Nat.le_refl _) HM1.out ((Below.refl W.heap.size W).alloc (Nat.le_refl _) (.cells #[.int .i64 n, .int .i64 t.kind, .string t.name, .int .i64 t.n, .slice ta t.args.length tc] 34))
    refine ⟨a1, a2, fun W₂ ht hs2 => ?_⟩
    have hS3 := (a3.cons (q := W.heap.size) (fun j hj e => by have := HM1.out j hj; omega) (heap_alloc_new W _)).turn (M' := M) (Nat.le_refl _) ht (fun j hj => .inl hj)
    obtain ⟨c0, c1, c2, c3, c4⟩ := cells5 (hS3.has _ (.head _))
    obtain ⟨d0, _⟩ := cell1 (hS3.has _ (.tail _ (.head _)))
    obtain ⟨z0, z1, z2, z3, f0, f1, f2, f3⟩ := cellsT (hS3.has _ (.tail _ (.tail _ (.head _))))
    obtain ⟨y0, e0⟩ := cell1 (hS3.has _ (.tail _ (.tail _ (.tail _ (.head _)))))
    have HS3 := Lib.hid hS3
    clear hS3 ht a1 a2 a3
    cases hxv : (n == v) with
    | true =>
      have HL := Lib.hid (HAT.out (by simpa using hxv))
      obtain ⟨g1, g2, g3⟩ := HS3.out.store4 (.tail _ (.tail _ (.head _))) (by omega) (.int .i64 t.kind) (.string t.name) (.int .i64 t.n) (.slice ta t.args.length tc)
      obtain ⟨k1, k2, k3⟩ := g3.store (q := w.heap.size + 2) (i := 0) (cs := #[.bool false]) (t := 4) (setL_oth (.tail _ (.tail _ (.tail _ (.head _)))) (by omega)) (by omega) (.bool true)
      have G1 := Lib.hid (g1.trans k1)
      have G3 := Lib.hid k3
      clear g1 g2 g3 k1 k2 k3
      gi_wp2
      refine ⟨G1.out, (t, ta, tc), G3.out.less fun p hp => ?_, rfl, HL.out, HX4.out⟩
      rcases List.mem_cons.1 hp with rfl | hp
      · exact setL_oth (setL_mem (.tail _ (.tail _ (.head _)))) (by omega)
      · obtain rfl := List.mem_singleton.1 hp
        exact setL_mem (o1 := .cells #[.bool true] 4 (0, 0)) (setL_oth (.tail _ (.tail _ (.tail _ (.head _)))) (by omega))
    | false =>
      have HN := Lib.hid (HNX.out (by simpa using hxv))
      gi_wp2
      exact ⟨Keeps.refl _ _, Below.refl _ _, (), HS3.out.less fun p hp => .tail _ hp, HN.out⟩
  case done =>
    rintro D M W hD _ ⟨_, hS, hN⟩ hK
    have HN : Hid (lookL bs v = none) := Lib.hid (lookL_none fun b hb => by obtain ⟨j, hj, rfl⟩ := List.mem_iff_getElem.1 hb; exact hN j hj (by omega))
    obtain ⟨z0, z1, z2, z3, f0, f1, f2, f3⟩ := cellsT (hS.has _ (.tail _ (.head _)))
    obtain ⟨y0, e0⟩ := cell1 (hS.has _ (.tail _ (.tail _ (.head _))))
    obtain ⟨g1, g2, g3⟩ := hS.store4 (.tail _ (.head _)) (by omega) (.int .i64 0) (.string ⟨#[]⟩) (.int .i64 0) (.slice none 0 0)
    obtain ⟨k1, k2, k3⟩ := g3.store (q := w.heap.size + 2) (i := 0) (cs := #[.bool false]) (t := 4) (setL_oth (.tail _ (.tail _ (.head _))) (by omega)) (by omega) (.bool false)
    have HS := Lib.hid k3
    have HK : Hid (∀ x y z u q : Value, (((((W.setCell ⟨w.heap.size + 1, 0, none⟩ x).setCell ⟨w.heap.size + 1, 1, none⟩ y).setCell ⟨w.heap.size + 1, 2, none⟩ z).setCell ⟨w.heap.size + 1, 3, none⟩ u).setCell ⟨w.heap.size + 2, 0, none⟩ q).heap[D]? = some (.deferred (some []))) := Lib.hid (fun x y z u q => by
      rw [Below.heap_setCell _ _ _ _ (show D ≠ w.heap.size + 2 by omega), set4_oth _ _ _ _ (show D ≠ w.heap.size + 1 by omega)]; exact hK)
    have hD' : w.heap.size + 4 ≤ D := by omega
    clear hS hN hK hst hseq g1 g2 g3 k1 k2 k3 hD
    gi_wp2
    refine ⟨by simp, .inl ⟨_, _, rfl, run_takeDeferred (HK.out _ _ _ _ _), ?_⟩⟩
    have m1 : (w.heap.size + 1, Obj.cells #[.int .i64 0, .string ⟨#[]⟩, .int .i64 0, .slice none 0 0] 25 (0, 0)) ∈ setL (setL [(w.heap.size, .cells #[.int .i64 v] 2 (0, 0)), (w.heap.size + 1, .cells #[.int .i64 0, .string ⟨#[]⟩, .int .i64 0, .slice none 0 0] 25 (0, 0)), (w.heap.size + 2, .cells #[.bool false] 4 (0, 0)), (w.heap.size + 3, .cells #[.slice ad bs.length cap] 22 (0, 0))] (w.heap.size + 1) (.cells #[.int .i64 0, .string ⟨#[]⟩, .int .i64 0, .slice none 0 0] 25 (0, 0))) (w.heap.size + 2) (.cells (#[.bool false].setIfInBounds 0 (.bool false)) 4 (0, 0)) :=
      setL_oth (setL_mem (.tail _ (.head _))) (by omega)
    have b1 := HS.out.has _ m1
    have b2 := HS.out.has (w.heap.size + 2, .cells #[.bool false] 4 (0, 0)) (setL_mem (o := .cells #[.bool false] 4 (0, 0)) (setL_oth (.tail _ (.tail _ (.head _))) (by omega)))
    dsimp only at b1 b2
    obtain ⟨r0, r1, r2, r3, _⟩ := cellsT ((World.putObj_heap_other (o := .deferred none) (show w.heap.size + 1 ≠ D by omega)).trans b1)
    obtain ⟨r4, _⟩ := cell1 ((World.putObj_heap_other (o := .deferred none) (show w.heap.size + 2 ≠ D by omega)).trans b2)
    refine ⟨_, by simp [results, Try.results48, go_sem, r0, r1, r2, r3, r4]; rfl, ?_⟩
    rw [HN.out]
    exact ⟨none, 0, rfl, zero_tmS, below_mark HS.out.below (by omega)⟩
  case stop =>
    rintro D c M k W hD _ _ ⟨⟨x, xa, xc⟩, hS, rfl, hl, hp⟩ hK
    have HS := Lib.hid hS
    have HL := Lib.hid hl
    have HK := Lib.hid hK
    have HX : Hid (TmP w P x xa xc) := Lib.hid (hp.kept (fun b hb _ => (hst.below.block b (HP.out b hb)).symm) fun _ h _ => h)
    have hD' : w.heap.size + 4 ≤ D := by omega
    dsimp only at *
    clear hS hl hp hK hst hseq hD
    gi_wp2
    refine ⟨by simp, .inl ⟨_, _, rfl, run_takeDeferred HK.out, ?_⟩⟩
    obtain ⟨r0, r1, r2, r3, _⟩ := cellsT ((World.putObj_heap_other (o := .deferred none) (show w.heap.size + 1 ≠ D by omega)).trans (HS.out.has _ (.head _)))
    obtain ⟨r4, _⟩ := cell1 ((World.putObj_heap_other (o := .deferred none) (show w.heap.size + 2 ≠ D by omega)).trans (HS.out.has _ (.tail _ (.head _))))
    have hb := below_mark HS.out.below (show w.heap.size ≤ D by omega)
    refine ⟨.tuple #[tmv x xa xc, .bool true], by simp [results, Try.results48, go_sem, tmv, r0, r1, r2, r3, r4], ?_⟩
    rw [HL.out]
    exact ⟨xa, xc, rfl, HX.out.kept (fun b _ hl => hb.block b hl) fun _ h _ => h, hb⟩

/-- What is left, in memory. -/
def LfAt (w : World) (mb n : Nat) : Prop := w.heap[mb]? = some (.cells #[.int .i64 (n : Nat)] 3 (0, 0))
theorem LfAt.lt {w : World} {mb n : Nat} (h : LfAt w mb n) : mb < w.heap.size := (Array.getElem?_eq_some_iff.1 h).1

end Go.Proofs.Ytlpmofmhcnclhaa

/-
  The contract of package subst's own walk.
-/
namespace Go.Proofs.Ytlpmofmhcnclhaa
open Go.RowKit

/-- What a walk leaves: its answer, what is left, all else as it was. -/
def DWalk (P : Nat → Prop) (mb : Nat) (w : World) (r : Tm × Int × Nat) (e : Ending) (w' : World) : Prop :=
  ∃ a2 c2, e = .returned (.tuple #[tmv r.1 a2 c2, .int .i64 r.2.1]) ∧ TmP w' P r.1 a2 c2 ∧ LfAt w' mb (2000 - r.2.2) ∧ Turn (fun j => j = mb) w w'
/-- How much is left. -/
def lfOf (w : World) (mb : Nat) : Nat := match w.cell? ⟨mb, 0, none⟩ with | some (.int _ n) => n.toNat | _ => 0
theorem lfOf_at {w : World} {mb n : Nat} (h : LfAt w mb n) : lfOf w mb = n := by
  unfold LfAt at h
  have c0 : w.cell? ⟨mb, 0, none⟩ = some (.int .i64 (n : Nat)) := by simp [World.cell?, h]
  unfold lfOf
  rw [c0]
  exact Int.toNat_natCast n
theorem LfAt.on {w w' : World} {mb n : Nat} (h : LfAt w mb n) (hb : Below w.heap.size w w') : LfAt w' mb n := (hb.block mb h.lt).trans h
theorem LfAt.turn {M : Nat → Prop} {w w' : World} {mb n : Nat} (h : LfAt w mb n) (ht : Turn M w w') (hM : ¬ M mb) : LfAt w' mb n := (ht.block mb h.lt hM).trans h
theorem dwalk_fin {P : Nat → Prop} {mb n : Nat} {w W : World} {t : Tm} {ad : Option Addr} {cap : Nat} (hm : mb < w.heap.size) (hP : ∀ b, P b → b < w.heap.size ∧ b ≠ mb) (ht : Turn (fun j => j = mb ∨ w.heap.size ≤ j) w W) (hmt : LfAt W mb (2000 - n)) (hp : TmP W P t ad cap) :
    DWalk P mb w (t, 0, n) (.returned (.tuple #[tmv t ad cap, .int .i64 0])) ((((W.setCell ⟨w.heap.size + 1, 0, none⟩ (.int .i64 t.kind)).setCell ⟨w.heap.size + 1, 1, none⟩ (.string t.name)).setCell ⟨w.heap.size + 1, 2, none⟩ (.int .i64 t.n)).setCell ⟨w.heap.size + 1, 3, none⟩ (.slice ad t.args.length cap)) :=
  have k := Turn.set4 (M := fun j => w.heap.size ≤ j) (W := W) (q := w.heap.size + 1) (Nat.le_succ _) (.int .i64 t.kind) (.string t.name) (.int .i64 t.n) (.slice ad t.args.length cap)
  ⟨ad, cap, rfl, hp.turnS k fun b hb => Nat.not_le.2 (hP b hb).1, hmt.turn k (Nat.not_le.2 hm), turn_own ht k⟩
theorem dwalk_err {P : Nat → Prop} {mb n : Nat} {er : Int} {w W : World} (hm : mb < w.heap.size) (ht : Turn (fun j => j = mb ∨ w.heap.size ≤ j) w W) (hmt : LfAt W mb (2000 - n)) :
    DWalk P mb w (zeroT, er, n) (.returned (.tuple #[.agg #[.int .i64 0, .string ⟨#[]⟩, .int .i64 0, .slice none 0 0], .int .i64 er])) ((((W.setCell ⟨w.heap.size + 1, 0, none⟩ (.int .i64 0)).setCell ⟨w.heap.size + 1, 1, none⟩ (.string ⟨#[]⟩)).setCell ⟨w.heap.size + 1, 2, none⟩ (.int .i64 0)).setCell ⟨w.heap.size + 1, 3, none⟩ (.slice none 0 0)) :=
  have k := Turn.set4 (M := fun j => w.heap.size ≤ j) (W := W) (q := w.heap.size + 1) (Nat.le_succ _) (.int .i64 0) (.string ⟨#[]⟩) (.int .i64 0) (.slice none 0 0)
  ⟨none, 0, rfl, zero_tmS, hmt.turn k (Nat.not_le.2 hm), turn_own ht k⟩
/-- Within the walk: the term's own box, the meter, what is still to walk. -/
structure DlkI (bs : List (Int × Tm)) (P : Nat → Prop) (mb : Nat) (w : World) (r : Tm × Int × Nat) (n : Nat) (t : Tm) (W : World) : Prop where
  le : n ≤ 2000
  ans : walkL bs n t = r
  mt : LfAt W mb (2000 - n)
  box : ∃ ad cap, W.heap[w.heap.size]? = some (.cells #[.int .i64 t.kind, .string t.name, .int .i64 t.n, .slice ad t.args.length cap] 25 (0, 0)) ∧ TmP W P t ad cap
  res : W.heap[w.heap.size + 1]? = some (.cells #[.int .i64 0, .string ⟨#[]⟩, .int .i64 0, .slice none 0 0] 25 (0, 0))
  turn : Turn (fun j => j = mb ∨ w.heap.size ≤ j) w W
theorem DlkI.on {bs : List (Int × Tm)} {P : Nat → Prop} {mb : Nat} {w : World} {r : Tm × Int × Nat} {n : Nat} {t : Tm} {W W' : World} (h : DlkI bs P mb w r n t W) (hb : Below W.heap.size W W') : DlkI bs P mb w r n t W' := by
  obtain ⟨ad, cap, h1, h2⟩ := h.box
  exact ⟨h.le, h.ans, h.mt.on hb, ⟨ad, cap, keptR9 hb h1, h2.onS hb⟩, keptR9 hb h.res, ⟨hb.os.trans h.turn.os, hb.tape.trans h.turn.tape, hb.output.trans h.turn.output, Nat.le_trans h.turn.size hb.size, fun k hk hn => (hb.block k (Nat.lt_of_lt_of_le hk h.turn.size)).trans (h.turn.block k hk hn)⟩⟩
/-- One binding followed. -/
theorem DlkI.step {bs : List (Int × Tm)} {P : Nat → Prop} {mb : Nat} {w : World} {r : Tm × Int × Nat} {n : Nat} {t x : Tm} {W W3 : World} {xa : Option Addr} {xc : Nat} (h : DlkI bs P mb w r n t W) (hm : mb < w.heap.size) (hP : ∀ b, P b → b < w.heap.size ∧ b ≠ mb) (hn : n < 2000) (hk : t.kind = 1) (hl : lookL bs t.n = some x)
    (hx : TmP W P x xa xc) (h3 : Turn (fun j => j = mb) W W3) (hm3 : LfAt W3 mb (2000 - (n + 1))) : DlkI bs P mb w r (n + 1) x ((((W3.setCell ⟨w.heap.size, 0, none⟩ (.int .i64 x.kind)).setCell ⟨w.heap.size, 1, none⟩ (.string x.name)).setCell ⟨w.heap.size, 2, none⟩ (.int .i64 x.n)).setCell ⟨w.heap.size, 3, none⟩ (.slice xa x.args.length xc)) := by
  obtain ⟨ad, cap, h1, _⟩ := h.box
  have h1l := (Array.getElem?_eq_some_iff.1 h1).1
  have h2l := (Array.getElem?_eq_some_iff.1 h.res).1
  have k := Turn.set4 (M := fun j => j = w.heap.size) (W := W3) (q := w.heap.size) rfl (.int .i64 x.kind) (.string x.name) (.int .i64 x.n) (.slice xa x.args.length xc)
  refine ⟨hn, (walk_step hn hk hl).symm.trans h.ans, hm3.turn k (by omega), ⟨xa, xc, set4_blk ((h3.block _ h1l (by omega)).trans h1) _ _ _ _, (hx.turnS h3 fun b hb => (hP b hb).2).turnS k fun b hb => by have := (hP b hb).1; omega⟩, (k.block _ (Nat.lt_of_lt_of_le h2l h3.size) (by omega)).trans ((h3.block _ h2l (by omega)).trans h.res), ?_⟩
  exact (h.turn.trans (h3.more fun j e => .inl e)).trans (k.more fun j e => .inr (by omega))

end Go.Proofs.Ytlpmofmhcnclhaa

/-
  The contracts of package subst's own Look, Walk, Fresh, from outside.
-/
namespace Go.Proofs.Ytlpmofmhcnclhaa
open Go.RowKit

theorem zeroK_size : zeroT.size ≤ 1000000 := by decide +kernel
theorem lookK_size {bs : List (Int × Tm)} (hsz : ∀ b ∈ bs, b.2.size ≤ 1000000) (v : Int) : ((lookL bs v).getD zeroT).size ≤ 1000000 := by
  cases hl : lookL bs v with
  | none => exact zeroK_size
  | some t => exact hsz _ (lookL_mem hl)
theorem walkK_size {bs : List (Int × Tm)} (hsz : ∀ b ∈ bs, b.2.size ≤ 1000000) : ∀ (f n : Nat) (t : Tm), t.size ≤ 1000000 → (walkF bs f n t).1.size ≤ 1000000
  | 0, _, _, _ => zeroK_size
  | f + 1, n, t, ht => by
    unfold walkF
    by_cases hk : t.kind = 1
    · rw [if_pos hk]
      cases hl : lookL bs t.n with
      | none => exact ht
      | some x =>
        dsimp only
        by_cases hn : n < 2000
        · rw [if_pos hn]; exact walkK_size hsz f (n + 1) x (hsz _ (lookL_mem hl))
        · rw [if_neg hn]; exact zeroK_size
    · rw [if_neg hk]; exact ht
/-- A term laid into the result's own block. -/
theorem laid_result {w w0 w2 : World} {B q : Nat} {R : Tm} {ad : Option Addr} {cap : Nat} (hp : TmP w2 (fun b => B ≤ b) R ad cap) (h0 : Below w.heap.size w w0) (hb : Below w0.heap.size w0 w2) (hB : q < B) (hq : w.heap.size ≤ q) (x y z u : Value) :
    TmIn ((((w2.setCell ⟨q, 0, none⟩ x).setCell ⟨q, 1, none⟩ y).setCell ⟨q, 2, none⟩ z).setCell ⟨q, 3, none⟩ u) R ad cap ∧ Below w.heap.size w ((((w2.setCell ⟨q, 0, none⟩ x).setCell ⟨q, 1, none⟩ y).setCell ⟨q, 2, none⟩ z).setCell ⟨q, 3, none⟩ u) :=
  ⟨(hp.kept (Q := fun _ => True) (fun b hb _ => set4_oth (W := w2) (q := q) x y z u (by omega)) fun _ _ _ => trivial).toIn, set4_low (h0.trans (hb.mono h0.size)) hq⟩

/-- Three blocks laid, one behind the other. -/
theorem stayB3 (w : World) (o1 o2 o3 : Obj) : (((w.alloc o1).alloc o2).alloc o3).heap[w.heap.size]? = some o1 ∧ (((w.alloc o1).alloc o2).alloc o3).heap[w.heap.size + 1]? = some o2 ∧ (((w.alloc o1).alloc o2).alloc o3).heap[w.heap.size + 2]? = some o3 := by
  have h := stayB4 w o1 o2 o3 o3
  have s3 : (((w.alloc o1).alloc o2).alloc o3).heap.size = w.heap.size + 3 := by simp
  have k : ∀ j, j < w.heap.size + 3 → (((w.alloc o1).alloc o2).alloc o3).heap[j]? = ((((w.alloc o1).alloc o2).alloc o3).alloc o3).heap[j]? := fun j hj => (Below.heap_alloc _ _ _ (by omega)).symm
  exact ⟨(k _ (by omega)).trans (h.has _ (.head _)), (k _ (by omega)).trans (h.has _ (.tail _ (.head _))), (k _ (by omega)).trans (h.has _ (.tail _ (.tail _ (.head _))))⟩

set_option maxRecDepth 100000 in
set_option maxHeartbeats 4000000 in
theorem sb_Look (bs : List (Int × Tm)) (v : Int) (ab : Option Addr) (cb : Nat) (w : World) (hlen : bs.length ≤ 1000000) (_hl : bs.length ≤ cb) (_hc : cb ≤ maxLen) (hsz : ∀ b ∈ bs, b.2.size ≤ 1000000) (h : BdsAt w (fun b => b < w.heap.size) ab bs) :
    Calls Try.prog 40 #[.slice ab bs.length cb, .int .i64 v] w fun e w' => ∃ a2 c2, e = .returned (.tuple #[tmv ((lookL bs v).getD zeroT) a2 c2, .bool (lookL bs v).isSome]) ∧ TmIn w' ((lookL bs v).getD zeroT) a2 c2 ∧ Below w.heap.size w w' := by
  have hXs := lookK_size hsz v
  have HLK := Lib.hid (fun W (hb : Below w.heap.size w W) => dv_look bs v ab cb W (fun b => b < w.heap.size) (fun b hb' => Nat.lt_of_lt_of_le hb' hb.size) hlen (h.kept (fun b hb' _ => hb.block b hb') fun _ h _ => h))
  have HC := Lib.hid (fun a c W (hin : TmIn W ((lookL bs v).getD zeroT) a c) => term_Copy ((lookL bs v).getD zeroT) a c W hXs hin)
  clear h hXs hsz
  generalize (lookL bs v).getD zeroT = X at *
  generalize (lookL bs v).isSome = f at *
  unfold MadeTerm tmv at *
  have hb0 := (Below.refl w.heap.size w).alloc (Nat.le_refl _) (.cells #[.int .i64 0, .string ⟨#[]⟩, .int .i64 0, .slice none 0 0] 25)
  have hq0 := alloc_new w (.cells #[.int .i64 0, .string ⟨#[]⟩, .int .i64 0, .slice none 0 0] 25)
  have HB0 := Lib.hid hb0
  have HQ0 := Lib.hid hq0
  clear hb0 hq0
  go_enter Try.func40, Try.ntmps40
  go_wp2_with fail
  have hz := (Array.getElem?_eq_some_iff.1 HQ0.out).1
  generalize w.alloc _ = w0 at *
  refine (HLK.out _ HB0.out).mono ?_; rintro e w1 ⟨a2, c2, rfl, hx, hb1⟩
  have HX1 := Lib.hid hx.toIn
  have HB1 := Lib.hid hb1
  have hs1 := hb1.size
  have HBA := Lib.hid ((Below.refl _ w1).alloc (Nat.le_refl _) (.cells #[.int .i64 X.kind, .string X.name, .int .i64 X.n, .slice a2 X.args.length c2] 25))
  clear hx hb1
  go_wp2_with fail
  refine (HC.out a2 c2 _ (HX1.out.on HBA.out)).mono ?_; rintro e w2 ⟨a3, c3, rfl, hp, hb2⟩
  have HB2 := Lib.hid (HB1.out.trans ((HBA.out.trans (hb2.mono HBA.out.size)).mono hs1))
  have hq2 := keptR9 HB2.out HQ0.out
  have HR := Lib.hid (laid_result hp HB0.out HB2.out (by simp; omega) (Nat.le_refl _) (.int .i64 X.kind) (.string X.name) (.int .i64 X.n) (.slice a3 X.args.length c3))
  have G4 := Lib.hid (set4_blk hq2 (.int .i64 X.kind) (.string X.name) (.int .i64 X.n) (.slice a3 X.args.length c3))
  obtain ⟨z0, z1, z2, z3, e0, e1, e2, e3⟩ := cellsT hq2
  clear hp hb2 hq2
  go_wp2_with fail
  obtain ⟨y0, y1, y2, y3, _⟩ := cellsT G4.out
  refine bodyPost_ret (v := .tuple #[tmv X a3 c3, .bool f]) (by simp [results, Try.results40, go_sem, tmv, y0, y1, y2, y3]) rfl ?_
  exact ⟨a3, c3, rfl, HR.out.1, HR.out.2⟩

end Go.Proofs.Ytlpmofmhcnclhaa
