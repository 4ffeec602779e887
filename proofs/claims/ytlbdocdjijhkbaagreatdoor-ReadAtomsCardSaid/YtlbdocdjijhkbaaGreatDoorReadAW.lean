/-
  The walk of the law ReadAtoms.
-/
import Derived.Test.YtlbdocdjijhkbaaGreatDoorReadTop
import Derived.Test.YtlbdocdjijhkbaaGreatDoorReadAM
import Derived.Test.YtlbdocdjijhkbaaGreatDoorCharRefDG
import Derived.Deep.RegionHeld3
namespace Go.Proofs.YtlbdocdjijhkbaaGreatDoor
open Go.RowKit

theorem write_short (l : List UInt8) (h : checkL l = true) : (writeL l).length ≤ 2000 := by
  have h1 : l.length ≤ 255 := by unfold checkL at h; rw [Bool.and_eq_true] at h; simpa using h.1
  unfold writeL
  rw [if_pos h]
  split
  · omega
  · unfold quoteL
    rw [List.length_cons, List.length_append, List.length_singleton]
    have h2 : ∀ m : List Int, (m.flatMap escR).length ≤ 5 * m.length := fun m => by
      induction m with
      | nil => exact Nat.le_refl 0
      | cons c m ih =>
        rw [List.flatMap_cons, List.length_append, List.length_cons]
        have := escR_length c
        omega
    have h3 := h2 (runesL l)
    have h4 := runesL_length l
    omega

set_option maxRecDepth 100000 in
set_option maxHeartbeats 4000000 in
theorem walk_ReadAtoms (s : ByteArray) (w : World) (hs : s.size ≤ maxLen) (hT : TabsT w) :
    Calls Tryz.prog 8 #[.string s] w fun e w' => e = .returned (.bool true) ∧ Below w.heap.size w w' := by
  have HT := Lib.hid hT
  have HL := Lib.hid (read_live w hT)
  have HW := Lib.hid (fun W (h : TabsT W) => ref_Write s W hs h.1)
  have HK := Lib.hid (fun W (h : TabsT W) => ref_Check s W hs h.1)
  clear hT
  cases hck : checkL s.data.toList with
  | false =>
    rw [hck] at HK
    clear hck
    generalize (⟨(writeL s.data.toList).toArray⟩ : ByteArray) = u at *
    go_enter Tryz.func8, Tryz.ntmps8
    go_wp2_with fail
    refine HL.out.mono ?_; rintro e w1 ⟨rfl, hb1⟩
    go_wp2_with fail
    refine (HW.out _ (HT.out.on hb1)).mono ?_; rintro e w2 ⟨rfl, hb2⟩
    have hb := hb1.trans (hb2.mono hb1.size)
    clear hb1 hb2
    go_wp2_with fail
    refine (HK.out _ (HT.out.on hb)).mono ?_; rintro e w3 ⟨rfl, hb3⟩
    have hbw := hb.trans (hb3.mono hb.size)
    clear hb hb3
    go_wp2_with fail
    go_ret
    exact ⟨rfl, hbw⟩
  | true =>
    rw [hck] at HK
    have hws := write_short _ hck
    have hq := query_atom _ hck (by omega)
    have HQ := Lib.hid (fun W (hb : Below w.heap.size w W) => rd_Query ⟨(writeL s.data.toList).toArray⟩ W (HT.out.on hb))
    rw [show (⟨(writeL s.data.toList).toArray⟩ : ByteArray).data.toList = writeL s.data.toList from rfl, hq] at HQ
    have hname : atomT s.data.toList = .mk 2 s 0 [] := rfl
    rw [hname] at HQ
    have hsz : (⟨(writeL s.data.toList).toArray⟩ : ByteArray).size ≤ 4000 := by
      show (writeL s.data.toList).toArray.size ≤ 4000
      rw [List.size_toArray]; omega
    have HSAME : Hid (∀ W ad cap, TmIn W (.mk 2 s 0 []) ad cap → Calls Tryz.prog 16 #[tmv (.mk 2 s 0 []) ad cap, .agg #[.int .i64 2, .string s, .int .i64 0, .slice none 0 0]] W fun e w' => e = .returned (.bool true) ∧ Below W.heap.size W w') := Lib.hid (fun W ad cap h => by
      have := ref_Same 10 (.mk 2 s 0 []) (.mk 2 s 0 []) ad none cap 0 W (by show 1 ≤ 10; decide) (by show 1 ≤ 1000000; decide) h (leafI W (k := 2) (n := 0) (s := s) (in64R (by decide) (by decide)) (in64R (by decide) (by decide)) hs)
      rwa [Tm.same_true rfl] at this)
    clear hck hws hq hname hs
    generalize (Tm.mk 2 s 0 [] : Tm) = t at *
    generalize (⟨(writeL s.data.toList).toArray⟩ : ByteArray) = u at *
    have hlen : decide (4000 < (u.size : Int)) = false := decide_eq_false (by omega)
    go_enter Tryz.func8, Tryz.ntmps8
    go_wp2_with fail
    refine HL.out.mono ?_; rintro e w1 ⟨rfl, hb1⟩
    go_wp2_with fail
    refine (HW.out _ (HT.out.on hb1)).mono ?_; rintro e w2 ⟨rfl, hb2⟩
    have hb := hb1.trans (hb2.mono hb1.size)
    clear hb1 hb2
    go_wp2_with fail
    refine (HK.out _ (HT.out.on hb)).mono ?_; rintro e w3 ⟨rfl, hb3⟩
    have hbw := hb.trans (hb3.mono hb.size)
    have HBW := Lib.hid hbw
    clear hb hb3 hbw
    go_wp2_with fail
    refine (HQ.out _ HBW.out).mono ?_; rintro e w4 ⟨v, ad, cap, rfl, ho, ht, hb4⟩
    have HB4 := Lib.hid (HBW.out.trans (hb4.mono HBW.out.size))
    obtain ⟨adv, capv, rfl, _, _, _⟩ := ho.view
    rw [nmB_len]
    have HIN := Lib.hid ht.toIn
    clear hb4 ho ht HBW
    unfold tmv
    go_upto_region 6 with fail
    generalize hw : w4.alloc (.cells #[.int .i64 t.kind, .string t.name, .int .i64 t.n, .slice ad t.args.length cap] 30) = w0
    have HC0 : Hid (w0.heap[w4.heap.size]? = some (.cells #[.int .i64 t.kind, .string t.name, .int .i64 t.n, .slice ad t.args.length cap] 30 (0, 0))) := Lib.hid (by rw [← hw]; exact newR w4 _)
    have hb0 : Below w4.heap.size w4 w0 := by rw [← hw]; exact (Below.refl _ _).alloc (Nat.le_refl _) _
    have HB0 := Lib.hid (HB4.out.trans (hb0.mono HB4.out.size))
    have HIN0 : Hid (TmIn w0 t ad cap) := Lib.hid (HIN.out.on hb0)
    have HSAME2 : Hid (∀ (W : World), Below w0.heap.size w0 W → Calls Tryz.prog 16 #[.agg #[.int .i64 t.kind, .string t.name, .int .i64 t.n, .slice ad t.args.length cap], .agg #[.int .i64 2, .string s, .int .i64 0, .slice none 0 0]] W fun e w' => e = .returned (.bool true) ∧ Below W.heap.size W w') := Lib.hid (fun W h => HSAME.out W ad cap (HIN0.out.on h))
    have HKEEP : Hid (∀ W, Below w0.heap.size w0 W → Below w0.heap.size w0 W ∧ W.cell? ⟨w4.heap.size, 0, none⟩ = some (.int .i64 t.kind) ∧ W.cell? ⟨w4.heap.size, 1, none⟩ = some (.string t.name) ∧ W.cell? ⟨w4.heap.size, 2, none⟩ = some (.int .i64 t.n) ∧ W.cell? ⟨w4.heap.size, 3, none⟩ = some (.slice ad t.args.length cap)) := Lib.hid (fun W hb => by
      obtain ⟨a0, a1, a2, a3, _⟩ := cellsR4 (keptR hb HC0.out)
      exact ⟨hb, a0, a1, a2, a3⟩)
    have HST : Hid (∀ W W', Below w0.heap.size w0 W → Below W.heap.size W W' → Below w0.heap.size w0 W') := Lib.hid (fun W W' h h' => h.trans (h'.mono h.size))
    have HSW : Hid (∀ W, Below w0.heap.size w0 W → Below w.heap.size w W) := Lib.hid (fun W h => HB0.out.trans (h.mono HB0.out.size))
    have hD0 : Below w0.heap.size w0 w0.drew := (Below.refl _ w0).drew
    have hK0 := HKEEP.out _ (Below.refl _ w0)
    clear hw hb0 HIN HIN0 HC0 HB0 HB4 HSAME
    go_region_held3 (fun W => Below w0.heap.size w0 W ∧ W.cell? ⟨w4.heap.size, 0, none⟩ = some (.int .i64 t.kind) ∧ W.cell? ⟨w4.heap.size, 1, none⟩ = some (.string t.name) ∧ W.cell? ⟨w4.heap.size, 2, none⟩ = some (.int .i64 t.n) ∧ W.cell? ⟨w4.heap.size, 3, none⟩ = some (.slice ad t.args.length cap))
      (first | exact HKEEP.out _ b2 | exact HKEEP.out _ b1 | exact HKEEP.out _ hD0)
      (first
        | (go_at_call 16; (refine (HSAME2.out _ b1).mono ?_); rintro e v2 ⟨rfl, c2⟩; have b2 := HST.out _ _ b1 c2)
        | (go_at_call 23; (with_reducible refine (ref_Atom1 _ _).mono ?_); rintro e v1 ⟨rfl, c1⟩; have b1 := HST.out _ _ hD0 c1))
    all_goals
      go_wp2_with fail
      go_ret
      exact ⟨rfl, HSW.out _ b2⟩
end Go.Proofs.YtlbdocdjijhkbaaGreatDoor
