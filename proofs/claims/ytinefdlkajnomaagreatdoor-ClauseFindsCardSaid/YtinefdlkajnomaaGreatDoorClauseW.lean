import Derived.Test.YtinefdlkajnomaaGreatDoorCl3
import Derived.Deep.RegionHeld3
namespace Go.Proofs.YtinefdlkajnomaaGreatDoor
open Go.RowKit
set_option maxRecDepth 100000 in
set_option maxHeartbeats 8000000 in
theorem rc_Find (cs : List Cl) (s : ByteArray) (n : Int) (ad : Option Addr) (cap : Nat) (w : World) (P : Nat -> Prop) (hP : ∀ b, P b -> b < w.heap.size) (_hl : cs.length <= cap) (_hc : cap <= maxLen) (hlen : cs.length <= 10000000000000) (h : ClsAt w P ad cs) :
 Calls Tryz.prog 28 #[.slice ad cs.length cap, .string s, .int .i64 n] w fun e w' => ∃ v, e = .returned v /\ OwnIs w.heap.size w' v (findL s n cs cs.length) /\ Below w.heap.size w w' := by
 obtain ⟨i0, hi, hz0, hz1, hz2⟩ := info_parts infoIs;have H := Lib.hid h;have HP := Lib.hid hP;clear h hP;go_enter Tryz.func28, Tryz.ntmps28;go_wp2_with fail;go_loopw [7, 12] (fun lv iv wr => ∃ k : Nat, k <= cs.length /\ iv = .int .i64 k /\ Below w.heap.size w wr /\ OwnIs w.heap.size wr lv (findL s n cs k)) (fun _ iv _ => cs.length - (intOf iv).toNat)
 case atStart => exact ⟨0, Nat.zero_le _, rfl, Below.refl _ _, OwnIs.nil _ _⟩
 case round =>
  obtain ⟨k, hk, rfl, hbw, hown⟩ := hrel;have hwrs := hbw.size;by_cases hlt : k < cs.length
  · obtain ⟨b, o, a1, c1, bd, bc, rfl, hPb, hcp, x0, x1, x2, x3, x4, x5⟩ := (H.out.kept (w' := wr) (Q := fun b => b < w.heap.size) (fun b hp _ => hbw.block b (HP.out b hp)) (fun b hp _ => HP.out b hp)) k hlt;have HS := Lib.hid (findL_step s n cs k hlt);have hfl := findL_len s n cs k;clear hcp;generalize cs[k] = c at *;have HOWN := Lib.hid hown;have hownr : (wr.alloc (.cells #[.int .i64 c.head.kind, .string c.head.name, .int .i64 c.head.n, .slice a1 c.head.args.length c1, .slice bd c.body.length bc, .int .i64 c.vars] 30)).ownsRow w.heap.size 3 1 u7 (findL s n cs k).length (nums (findL s n cs k)) := World.ownsRow.alloc (show wr.ownsRow w.heap.size 3 1 u7 (findL s n cs k).length (nums (findL s n cs k)) from hown) _;clear hown;by_cases hit : c.head.name = s /\ (c.head.args.length : Int) = n
    · have h1 : (c.head.name.toList == s.toList) = true := by rw [hit.1]; exact beq_self_eq_true _
      have h2 : ((c.head.args.length : Int) == n) = true := by rw [hit.2]; exact beq_self_eq_true _
      have HS2 : Hid (findL s n cs (k + 1) = findL s n cs k ++ [(k : Int)]) := Lib.hid (by rw [HS.out, if_pos hit]);have hlt7 := hownr.lt;clear hit HS;generalize findL s n cs k = fl at *;have HOR := Lib.hid (World.ownsRow.alloc hownr (.cells #[.int .i64 (k : Int)] 3));go_wp2_with (first
       | (at_builtin; refine wpList_append_own _ rfl _ _ 47 rfl w.heap.size 3 i0 (.int .i64 0) 1 8 Tryz.underlying47 hi hz0 hz1 hz2 rfl (by decide) _ _ _ rfl HOR.out ⟨wr.heap.size + 1, 0, none⟩ 1 1 [.int .i64 (k : Int)] rfl rfl ?c1 ?c2 ?c3 ?c4 ?c5 ?_))
      case c1 =>
       intro j u hj;match j, hj with
       | 0, hj => simp at hj; subst hj; simp [Addr.add]
      case c2 => intro u hu; simp at hu; subst hu; rfl
      case c3 => unfold maxLen; omega
      case c4 => omega
      case c5 => simp; omega
      intro v3 w3 hown3 hgrow _;have hbw3 : Below w.heap.size w w3 := ((hbw.alloc hbw.size _).alloc (by simp; omega) _).grown hgrow (by simp; omega) (fun i hi => (hlt7 i hi).1);have HO3 : Hid (OwnIs w.heap.size w3 v3 (fl ++ [(k : Int)])) := Lib.hid (by
       unfold OwnIs;rw [nums_append, List.length_append];exact hown3)
      clear hown3 hgrow hownr x0 x1 x2 x3 x4 x5;go_wp2;go_roundw
      case rel => exact ⟨k + 1, by omega, by go_num, hbw3, by rw [HS2.out]; exact HO3.out⟩
      case measure => simp [intOf]; omega
    · have HS2 : Hid (findL s n cs (k + 1) = findL s n cs k) := Lib.hid (by rw [HS.out, if_neg hit]);have hcs : ((c.head.name.toList == s.toList) = true /\ ((c.head.args.length : Int) == n) = false) \/ (c.head.name.toList == s.toList) = false := by
       by_cases e : c.head.name = s
       · exact .inl ⟨by rw [e]; exact beq_self_eq_true _, beq_eq_false_iff_ne.2 fun e2 => hit ⟨e, e2⟩⟩
       · exact .inr (beq_eq_false_iff_ne.2 fun e2 => e (by rw [ByteArray.toList_eq, ByteArray.toList_eq] at e2; exact ByteArray.ext (Array.toList_inj.1 e2)))
      clear hit HS hownr;rcases hcs with ⟨h1, h2⟩ | h1
      all_goals
       go_wp2_with fail;go_roundw
       case rel => exact ⟨k + 1, by omega, by go_num, hbw.alloc hbw.size _, by rw [HS2.out]; exact OwnIs.below HOWN.out ((Below.refl _ wr).alloc (Nat.le_refl _) _)⟩
       case measure => simp [intOf]; omega
  · obtain rfl : k = cs.length := by omega
    have HO := Lib.hid hown;clear hown;go_wp2_with fail;go_ret;exact ⟨_, rfl, HO.out, hbw⟩
theorem OwnIs.view {B : Nat} {w : World} {v : Value} {l : List Int} (h : OwnIs B w v l) : ∃ ad cap, v = .slice ad l.length cap /\ l.length <= cap /\ cap <= maxLen /\ ∀ j (hj : j < l.length), ∃ g, ad = some ⟨g, 0, none⟩ /\ w.cell? ⟨g, j, none⟩ = some (.int .i64 l[j]) := by
 have h9 := h;obtain ⟨hl, ⟨rfl, h0⟩ | ⟨g, cap, cur, rfl, hb, hh, hn, hm, _⟩⟩ := h
 · exact ⟨_, _, by rw [h0], by omega, Nat.zero_le _, fun j hj => by omega⟩
 · refine ⟨_, _, rfl, hn, hm, fun j hj => ⟨g, rfl, ?_⟩⟩;have h2 : w.cell? ⟨g, j, none⟩ = (nums l)[j]? := World.ownsRow.cellAt (base := B) (e := 3) (size := 1) (n := l.length) h9 j (by omega);rw [h2]; unfold nums; simp [hj]
set_option maxRecDepth 100000 in
set_option maxHeartbeats 4000000 in
theorem rc_SameInts (l : List Int) (v u : Value) (B B2 : Nat) (w : World) (h : OwnIs B w v l) (k : OwnIs B2 w u l) (hlen : l.length <= 10000000000000) :
 Calls Tryz.prog 26 #[v, u] w fun e w' => e = .returned (.bool true) /\ Below w.heap.size w w' := by
 obtain ⟨ad, cap, rfl, h1, h2, h3⟩ := h.view;obtain ⟨bd, dap, rfl, k1, k2, k3⟩ := k.view;have H := Lib.hid h3;have K' := Lib.hid k3;clear h k h3 k3;go_enter Tryz.func26, Tryz.ntmps26;go_wp2_with fail;go_loopw [13] (fun iv wr => ∃ k : Nat, k <= l.length /\ iv = .int .i64 k /\ Below w.heap.size w wr) (fun iv _ => l.length - (intOf iv).toNat)
 case atStart => exact ⟨0, Nat.zero_le _, rfl, Below.refl _ _⟩
 case round =>
  obtain ⟨k, hk, rfl, hb⟩ := hrel;by_cases hlt : k < l.length
  · obtain ⟨g, rfl, hc⟩ := H.out k hlt;obtain ⟨g2, rfl, hc2⟩ := K'.out k hlt;have hc := (hb.cell (p := ⟨g, k, none⟩) (World.block_lt_of_cell? w ⟨g, k, none⟩ hc)).trans hc;have hc2 := (hb.cell (p := ⟨g2, k, none⟩) (World.block_lt_of_cell? w ⟨g2, k, none⟩ hc2)).trans hc2;generalize l[k] = x at *;go_upto_region 6 with fail;go_region_held3 (fun W => W.cell? ⟨g, k, none⟩ = some (.int .i64 x) /\ W.cell? ⟨g2, k, none⟩ = some (.int .i64 x)) (exact ⟨hc, hc2⟩) (fail)
    go_wp2_with fail;exact ⟨⟨k + 1, by omega, by go_num, hb.drew⟩, by simp [intOf]; omega⟩
  · go_wp2_with fail;go_ret;exact ⟨rfl, hb⟩
end Go.Proofs.YtinefdlkajnomaaGreatDoor
