/-
  The contracts of what package read's own bracketed and named read between brackets, given within's; of terms laid side by side.
-/
import Derived.Test.YtlbdocdjijhkbaaGreatDoorReadF
import Derived.Deep.RegionHeld3
namespace Go.Proofs.YtlbdocdjijhkbaaGreatDoor
open Go.RowKit
attribute [-go_sem] sliced

theorem RMem.ltv {w : World} {r : Nat} {v : Value} {ts : List Tok} {ns : Nms} (h : RMem w r v ts ns) : ∀ k, v.ownBlock = some k → k < w.heap.size := fun k hk => (h.names.lt k hk).2
/-- A Comp of terms that lie somewhere. -/
theorem compB {B : Nat} {w : World} {v : Value} {s : List UInt8} {l : List Tm} {ad : Option Addr} {cap : Nat} (hs : s.length ≤ 10000) (hl : l.length ≤ cap) (hc : cap ≤ maxLen) (h : TArgsP w (fun b => B ≤ b ∧ some b ≠ v.ownBlock) ad l) : TmB B w v (compT s l) ad cap :=
  ⟨in64R (x := 4) (by decide) (by decide), in64R (x := 0) (by decide) (by decide), by show (⟨s.toArray⟩ : ByteArray).size ≤ maxLen; rw [show (⟨s.toArray⟩ : ByteArray).size = s.length from by show s.toArray.size = _; simp]; unfold maxLen; omega, hl, hc, h⟩
theorem args1 {B : Nat} {w : World} {v : Value} {t : Tm} {ad : Option Addr} {cap : Nat} (hB : B ≤ w.heap.size) (hltv : ∀ k, v.ownBlock = some k → k < w.heap.size) (ht : TmB B w v t ad cap) :
    TArgsP (w.alloc (.cells (tcells t ad cap).toArray 30)) (fun b => B ≤ b ∧ some b ≠ v.ownBlock) (some ⟨w.heap.size, 0, none⟩) [t] := by
  obtain ⟨ad', cap', e, _, _, h3⟩ := (SevMem.one (Nat.le_refl _) hB hltv ht).slice
  injection e with e1 e2 e3
  rw [e1]; exact h3
theorem args2 {B : Nat} {w : World} {v : Value} {t u : Tm} {ad ad2 : Option Addr} {cap cap2 : Nat} (hB : B ≤ w.heap.size) (hltv : ∀ k, v.ownBlock = some k → k < w.heap.size) (ht : TmB B w v t ad cap) (hu : TmB B w v u ad2 cap2) :
    TArgsP (w.alloc (.cells (tcells t ad cap ++ tcells u ad2 cap2).toArray 30)) (fun b => B ≤ b ∧ some b ≠ v.ownBlock) (some ⟨w.heap.size, 0, none⟩) [t, u] := by
  have hP : ∀ {x : Tm} {a : Option Addr} {c : Nat}, TmB B w v x a c → TmP (w.alloc (.cells (tcells t ad cap ++ tcells u ad2 cap2).toArray 30)) (fun b => B ≤ b ∧ some b ≠ v.ownBlock) x a c := fun h => TmP.kept h (fun b _ hb => Below.heap_alloc _ _ _ hb) (fun _ hp _ => hp)
  have hT : TRow (w.alloc (.cells (tcells t ad cap ++ tcells u ad2 cap2).toArray 30)) (fun b => B ≤ b ∧ some b ≠ v.ownBlock) (tcells t ad cap ++ (tcells u ad2 cap2 ++ [])) [t, u] := .cons t ad cap _ _ (hP ht) (.cons u ad2 cap2 _ _ (hP hu) .nil)
  refine hT.args w.heap.size ⟨hB, fun e => by have := hltv _ e.symm; omega⟩ (fun _ hp => hp) 0 (fun j hj => ?_)
  rw [Nat.zero_add, List.append_nil]
  exact (World.cell?_alloc_at _ _ _ _ rfl).trans (by rw [List.getElem?_toArray])
/-- The variable that holds the reader's pointer. -/
def BoxR (w : World) (R r : Nat) : Prop := w.heap[R]? = some (.cells #[.pointer (some ⟨r, 0, none⟩)] 53 (0, 0))
theorem cellsR1 {w : World} {q : Nat} {a : Value} {t : TypeId} (h : w.heap[q]? = some (.cells #[a] t (0, 0))) : w.cell? ⟨q, 0, none⟩ = some a ∧ w.frozen? ⟨q, 0, none⟩ = false := by
  simp [World.cell?, World.frozen?, h]

set_option maxRecDepth 100000 in
set_option maxHeartbeats 4000000 in
theorem rd_round {m : Nat} {W : Rdr} (hC : WithinC m W) (ts : List Tok) (ns : Nms) (w : World) (r R : Nat) (v : Value) (hm : ts.length ≤ m) (hf : Fine ts) (hn : ns.length ≤ 200) (h : RMem w r v ts ns) (hR : BoxR w R r) :
    Calls Tryz.prog 146 #[.pointer (some ⟨R, 0, none⟩)] w fun e w' => ROut r v w (W 1200 ts ns) e w' := by
  have hlt := h.lt
  have hnew := h.new_ne (Nat.le_refl _)
  have HB := Lib.hid (fun o : Obj => (Below.refl w.heap.size w).alloc (Nat.le_refl _) o)
  have HC := Lib.hid (fun W' (hb : Below w.heap.size w W') => hC 1200 ts ns W' r v hm hf hn (h.below hb))
  have HQ := Lib.hid (newR w (.cells #[.int .i64 0, .string ⟨#[]⟩, .int .i64 0, .slice none 0 0] 30))
  obtain ⟨r0, _⟩ := cellsR1 hR
  have hRl : R < w.heap.size := World.block_lt_of_cell? w ⟨R, 0, none⟩ r0
  clear h hC hR hf
  cases hx : W 1200 ts ns with
  | bad o =>
    rw [hx] at HC
    go_enter Tryz.func146, Tryz.ntmps146
    go_wp2_with fail
    refine (HC.out _ (HB.out _)).mono ?_; rintro e w1 ⟨rfl, hb⟩
    exact ⟨rfl, rfl, ((HB.out _).mono (Nat.le_of_lt hlt)).trans hb⟩
  | ok t ts1 ns1 =>
    rw [hx] at HC
    go_enter Tryz.func146, Tryz.ntmps146
    go_wp2_with fail
    refine (HC.out _ (HB.out _)).mono ?_; rintro e w1 ⟨v1, ad, cap, rfl, hm1, hg1, ht1⟩
    have hq1 := hg1.at HQ.out hnew.1 hnew.2
    have hv1 := hg1.ne (b := w.heap.size) (by simp) hnew.2
    obtain ⟨d0, d1, d2, d3, e0, e1, e2, e3⟩ := cellsR4 hq1
    have HM := Lib.hid hm1
    have HG := Lib.hid ((RGo.of_below (r := r) (v := v) (HB.out (.cells #[.int .i64 0, .string ⟨#[]⟩, .int .i64 0, .slice none 0 0] 30)) (Nat.le_of_lt hlt)).trans hg1)
    have HT := Lib.hid ht1
    clear hm1 hg1 ht1 hq1
    unfold tmv
    go_wp2_with fail
    refine bodyPost_ret (v := tmv t ad cap) (by simp [results, Tryz.results146, go_sem, d0, d1, d2, d3, tmv]) rfl ⟨v1, ad, cap, rfl, ?_⟩
    exact ROk.fin HM.out HG.out HT.out hlt (Nat.le_refl _) (by simp) hv1 _ _ _ _

set_option maxRecDepth 100000 in
set_option maxHeartbeats 4000000 in
theorem rd_curly {m : Nat} {W : Rdr} (hC : WithinC m W) (ts : List Tok) (ns : Nms) (w : World) (r R : Nat) (v : Value) (hm : ts.length ≤ m) (hf : Fine ts) (hn : ns.length ≤ 200) (h : RMem w r v ts ns) (hR : BoxR w R r) :
    Calls Tryz.prog 149 #[.pointer (some ⟨R, 0, none⟩)] w fun e w' => ROut r v w (curlyR W ts ns) e w' := by
  have hlt := h.lt
  have hnew := h.new_ne (Nat.le_refl _)
  have HB := Lib.hid (fun o : Obj => (Below.refl w.heap.size w).alloc (Nat.le_refl _) o)
  have HF := Lib.hid (fun W' (hb : Below w.heap.size w W') => rd_first W' r v ts ns (h.below hb) hf.pos)
  have HP := Lib.hid (fun W' => rd_isPunct (fstT ts) [125] W')
  have HC := Lib.hid (fun W' (hb : Below w.heap.size w W') => hC 1200 ts ns W' r v hm hf hn (h.below hb))
  have HH := Lib.hid (fun W' (hb : Below w.heap.size w W') => h.below hb)
  have HQ := Lib.hid (newR w (.cells #[.int .i64 0, .string ⟨#[]⟩, .int .i64 0, .slice none 0 0] 30))
  have HRB := Lib.hid hR
  obtain ⟨r0, _⟩ := cellsR1 hR
  have hRl : R < w.heap.size := World.block_lt_of_cell? w ⟨R, 0, none⟩ r0
  unfold curlyR
  clear h hC hR hf
  generalize fstT ts = t0 at *
  generalize t0.isP [125] = b at *
  generalize tokv t0 = tv at *
  cases b with
  | true =>
    rw [if_pos rfl]
    go_enter Tryz.func149, Tryz.ntmps149
    go_wp2_with fail
    refine (HF.out _ (HB.out _)).mono ?_; rintro e w1 ⟨rfl, hb1⟩
    have HB1 := Lib.hid ((HB.out (.cells #[.int .i64 0, .string ⟨#[]⟩, .int .i64 0, .slice none 0 0] 30)).trans (hb1.mono (by simp)))
    have HQ1 := Lib.hid (keptR hb1 HQ.out)
    clear hb1
    go_wp2_with fail
    refine (HP.out _).mono ?_; rintro e w2 ⟨rfl, hb2⟩
    have HB2 := Lib.hid (HB1.out.trans (hb2.mono HB1.out.size))
    have HQ2 := Lib.hid (keptR hb2 HQ1.out)
    clear hb2
    go_wp2_with fail
    refine (rd_atom _ _).mono ?_; rintro e w3 ⟨rfl, hb3⟩
    have hq3 := keptR hb3 HQ2.out
    obtain ⟨d0, d1, d2, d3, e0, e1, e2, e3⟩ := cellsR4 hq3
    have HB3 := Lib.hid (HB2.out.trans (hb3.mono HB2.out.size))
    clear hb3 hq3
    go_wp2_with fail
    refine bodyPost_ret (v := tmv (atomT [123, 125]) none 0) (by simp [results, Tryz.results149, go_sem, d0, d1, d2, d3, tmv, atomT, Tm.kind, Tm.name, Tm.n, Tm.args]) rfl ⟨v, none, 0, rfl, ?_⟩
    exact ROk.fin (B := w.heap.size + 1) (HH.out _ HB3.out) (RGo.of_below HB3.out (Nat.le_of_lt hlt)) (leafR _ _ _ (in64R (by decide) (by decide)) (in64R (by omega) (by omega)) (by unfold maxLen; decide)) hlt (Nat.le_refl _) (by omega) hnew.2 _ _ _ _
  | false =>
    rw [if_neg (by decide)]
    cases hx : W 1200 ts ns with
    | bad o =>
      rw [hx] at HC
      rw [Rd.bind_bad]
      go_enter Tryz.func149, Tryz.ntmps149
      go_wp2_with fail
      refine (HF.out _ (HB.out _)).mono ?_; rintro e w1 ⟨rfl, hb1⟩
      have HB1 := Lib.hid ((HB.out (.cells #[.int .i64 0, .string ⟨#[]⟩, .int .i64 0, .slice none 0 0] 30)).trans (hb1.mono (by simp)))
      clear hb1
      go_wp2_with fail
      refine (HP.out _).mono ?_; rintro e w2 ⟨rfl, hb2⟩
      have HB2 := Lib.hid (HB1.out.trans (hb2.mono HB1.out.size))
      obtain ⟨r1, _⟩ := cellsR1 (keptR HB2.out HRB.out)
      clear hb2
      go_wp2_with fail
      refine (HC.out _ HB2.out).mono ?_; rintro e w3 ⟨rfl, hb3⟩
      exact ⟨rfl, rfl, (HB2.out.mono (Nat.le_of_lt hlt)).trans hb3⟩
    | ok t ts1 ns1 =>
      rw [hx] at HC
      rw [Rd.bind_ok]
      go_enter Tryz.func149, Tryz.ntmps149
      go_wp2_with fail
      refine (HF.out _ (HB.out _)).mono ?_; rintro e w1 ⟨rfl, hb1⟩
      have HB1 := Lib.hid ((HB.out (.cells #[.int .i64 0, .string ⟨#[]⟩, .int .i64 0, .slice none 0 0] 30)).trans (hb1.mono (by simp)))
      have HQ1 := Lib.hid (keptR hb1 HQ.out)
      have hs1 := hb1.size
      clear hb1
      go_wp2_with fail
      refine (HP.out _).mono ?_; rintro e w2 ⟨rfl, hb2⟩
      have HB2 := Lib.hid (HB1.out.trans (hb2.mono HB1.out.size))
      have HQ2 := Lib.hid (keptR hb2 HQ1.out)
      obtain ⟨r1, _⟩ := cellsR1 (keptR HB2.out HRB.out)
      have hs2 := hb2.size
      rw [World.size_alloc] at hs1
      clear hb2
      go_wp2_with fail
      refine (HC.out _ HB2.out).mono ?_; rintro e w3 ⟨v3, ad, cap, rfl, hm3, hg3, ht3⟩
      have ha3 := args1 hg3.below.size hm3.ltv ht3
      have hq3 := hg3.at HQ2.out hnew.1 hnew.2
      have hv3 := hg3.ne (b := w.heap.size) (by omega) hnew.2
      have HA3 := Lib.hid ha3
      have HQ3 := Lib.hid (pastR hq3 (.cells (tcells t ad cap).toArray 30))
      have HM3 := Lib.hid (hm3.below ((Below.refl _ w3).alloc (Nat.le_refl _) (.cells (tcells t ad cap).toArray 30)))
      have HG3 := Lib.hid (((RGo.of_below (r := r) (v := v) HB2.out (Nat.le_of_lt hlt)).trans hg3).alloc hlt (.cells (tcells t ad cap).toArray 30))
      clear hm3 hg3 ht3 ha3 hq3
      unfold tmv
      go_wp2_with fail
      refine (rd_comp _ _ _ _ _).mono ?_; rintro e w4 ⟨rfl, hb4⟩
      have HM4 := Lib.hid (HM3.out.below hb4)
      have HG4 := Lib.hid (HG3.out.trans (RGo.of_below hb4 (by have := HM3.out.lt; omega)))
      have hq4 := keptR hb4 HQ3.out
      obtain ⟨d0, d1, d2, d3, e0, e1, e2, e3⟩ := cellsR4 hq4
      have HA4 := Lib.hid (HA3.out.kept (fun b _ hb => hb4.block b hb) (fun _ hp _ => hp))
      clear hb4 hq4
      go_wp2_with fail
      refine bodyPost_ret (v := tmv (compT [123, 125] [t]) (some ⟨w3.heap.size, 0, none⟩) 1) (by simp [results, Tryz.results149, go_sem, d0, d1, d2, d3, tmv, compT, Tm.kind, Tm.name, Tm.n, Tm.args]) rfl ⟨v3, some ⟨w3.heap.size, 0, none⟩, 1, rfl, ?_⟩
      exact ROk.fin HM4.out HG4.out (compB (by decide) (Nat.le_refl _) (by show 1 ≤ maxLen; unfold maxLen; decide) HA4.out) hlt (Nat.le_refl _) (by omega) hv3 _ _ _ _
end Go.Proofs.YtlbdocdjijhkbaaGreatDoor
