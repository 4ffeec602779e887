/-
  Joined texts: ReadV, ReadW, ReadX, ReadY, ReadZ, ReadQA, ReadPA, ReadPB, ReadLV.
-/
import Derived.Test.YtlbdocdjijhkbaaGreatDoorReadT
import Derived.Test.YtlbdocdjijhkbaaGreatDoorReadPl
import Derived.Test.YtlbdocdjijhkbaaGreatDoorTermDevAB
import Derived.Deep.DeepCutAuto
import Derived.RegionTactic
import Derived.Test.YtlbdocdjijhkbaaGreatDoorChecked
import Derived.Tactics
import Derived.Tactics2
import Derived.Defers
import Derived.Recover
import Derived.Laws.Pointers
import Derived.WideLaws
import Derived.RowKit
import Derived.Test.YtlbdocdjijhkbaaGreatDoorTokAH
import Derived.Test.YtlbdocdjijhkbaaGreatDoorTermMk
import Derived.Deep.RegionHeld3

/-
  The contract of package read's own within, for any number of tokens.
-/
namespace Go.Proofs.YtlbdocdjijhkbaaGreatDoor
open Go.RowKit

theorem within_all : ∀ (m : Nat), m ≤ 10001 → WithinC m (termR m)
  | 0, _ => fun p ts ns w r v hm hf hn h => absurd hf.pos (by omega)
  | m + 1, hM => fun p ts ns w r v hm hf hn h => rd_within (termR_good m) (within_all m (by omega)) (by omega) p ts ns w r v hm hf hn h
end Go.Proofs.YtlbdocdjijhkbaaGreatDoor

/-
  What package read's own whole begins with: no names so far.
-/
namespace Go.Proofs.YtlbdocdjijhkbaaGreatDoor
open Go.RowKit

theorem RMem.nil {w : World} {r : Nat} {v : Value} {ts : List Tok} {ns : Nms} (h : RMem w r v ts ns) : RMem (w.setCell ⟨r, 1, none⟩ (.slice none 0 0)) r (.slice none 0 0) ts [] := by
  obtain ⟨g, k, cap, hg, hr, hl, hc, ht⟩ := h.ex
  have h1 := Lib.heap_setCell_same (i := 1) hr (.slice none 0 0)
  refine ⟨⟨g, k, cap, hg, ?_, hl, hc, ht.kept (fun _ => Below.heap_setCell _ _ _ _ (show g ≠ r by omega))⟩, World.ownsRow_nil _ _ _ _⟩
  rw [h1]; rfl
theorem whole_good {ts : List Tok} {ns : Nms} {t : Tm} {ts' : List Tok} {ns' : Nms} (hf : Fine ts) (hn : ns.length ≤ 200) (h : termR ts.length 1200 ts ns = .ok t ts' ns') : Fine ts' ∧ ts'.length + t.size ≤ ts.length ∧ ns'.length ≤ 200 := by
  obtain ⟨a1, a2, a3⟩ := termR_good ts.length _ _ _ _ _ _ (Nat.le_refl _) hf hn h
  exact ⟨a1, a2, a3⟩
/-- within, as whole calls it. -/
theorem rd_within_whole (ts : List Tok) (ns : Nms) (w : World) (r : Nat) (v : Value) (hm : ts.length ≤ 10000) (hf : Fine ts) (hn : ns.length ≤ 200) (h : RMem w r v ts ns) :
    Calls Tryz.prog 67 #[.pointer (some ⟨r, 0, none⟩), .int .i64 1200] w fun e w' => ROut r v w (termR ts.length 1200 ts ns) e w' :=
  within_all ts.length (by omega) 1200 ts ns w r v (Nat.le_refl _) hf hn h
/-- What whole leaves. -/
structure WGo (r : Nat) (w : World) (v' : Value) (w' : World) : Prop where
  below : Below r w w'
  keep : ∀ b, b < w.heap.size → b ≠ r → w'.heap[b]? = w.heap[b]?
  own : ∀ g, v'.ownBlock = some g → w.heap.size ≤ g
def deepP (o : Nat) : Ending := .panicked [{ v := .iface 75 (.int .i64 (o : Nat)), recovered := false }]
def WOut (r : Nat) (w : World) (x : Wh) (e : Ending) (w' : World) : Prop :=
  match x with
  | .syn o => e = misp o ∧ Below r w w'
  | .deep o => e = deepP o ∧ Below r w w'
  | .ok t ts ns => ∃ v' ad cap, e = .returned (tmv t ad cap) ∧ RMem w' r v' ts ns ∧ WGo r w v' w' ∧ TmB w.heap.size w' v' t ad cap
theorem wgo_of {r : Nat} {w wb w' : World} {v' : Value} (h1 : Below r w wb) (h2 : ∀ b, b < w.heap.size → b ≠ r → wb.heap[b]? = w.heap[b]?) (h : RGo r (.slice none 0 0) wb v' w') : WGo r w v' w' := by
  have hs := h1.size
  refine ⟨h1.trans h.below, fun b hb hr => (h.keep b (by omega) hr (by intro e; cases e)).trans (h2 b hb hr), fun g hg => ?_⟩
  rcases h.own with e | ⟨g2, e, hg2⟩
  · rw [e] at hg; cases hg
  · rw [e] at hg; have := Option.some.inj hg; omega
theorem WGo.set {r : Nat} {w w' : World} {v' : Value} (h : WGo r w v' w') {q i : Nat} (hq : w.heap.size ≤ q) (hr : r ≤ q) (u : Value) : WGo r w v' (w'.setCell ⟨q, i, none⟩ u) :=
  ⟨h.below.setCell (p := ⟨q, i, none⟩) hr u, fun b hb h1 => (Below.heap_setCell _ _ _ _ (show b ≠ q by omega)).trans (h.keep b hb h1), h.own⟩
theorem wgo_fin {r q B : Nat} {v' : Value} {w w3 : World} {t : Tm} {ts : List Tok} {ns : Nms} {ad : Option Addr} {cap : Nat} (hm : RMem w3 r v' ts ns) (hg : WGo r w v' w3) (ht : TmB B w3 v' t ad cap) (hlt : r < w.heap.size) (hq : w.heap.size ≤ q) (hB : q < B) (hv : some q ≠ v'.ownBlock) (u0 u1 u2 u3 : Value) :
    RMem ((((w3.setCell ⟨q, 0, none⟩ u0).setCell ⟨q, 1, none⟩ u1).setCell ⟨q, 2, none⟩ u2).setCell ⟨q, 3, none⟩ u3) r v' ts ns ∧ WGo r w v' ((((w3.setCell ⟨q, 0, none⟩ u0).setCell ⟨q, 1, none⟩ u1).setCell ⟨q, 2, none⟩ u2).setCell ⟨q, 3, none⟩ u3) ∧ TmB w.heap.size ((((w3.setCell ⟨q, 0, none⟩ u0).setCell ⟨q, 1, none⟩ u1).setCell ⟨q, 2, none⟩ u2).setCell ⟨q, 3, none⟩ u3) v' t ad cap :=
  ⟨(((hm.setOther (by omega) hv u0).setOther (by omega) hv u1).setOther (by omega) hv u2).setOther (by omega) hv u3, (((hg.set hq (by omega) u0).set hq (by omega) u1).set hq (by omega) u2).set hq (by omega) u3, ((((ht.set hB u0).set hB u1).set hB u2).set hB u3).mono (by omega)⟩

set_option maxRecDepth 100000 in
set_option maxHeartbeats 8000000 in
theorem rd_whole (must : Bool) (ts : List Tok) (ns : Nms) (w : World) (r : Nat) (v : Value) (hm : ts.length ≤ 10000) (hf : Fine ts) (h : RMem w r v ts ns) (hT : ∀ W', Below r w W' → Tabs W') :
    Calls Tryz.prog 52 #[.pointer (some ⟨r, 0, none⟩), .bool must] w fun e w' => WOut r w (wholeR must ts) e w' := by
  have hlt := h.lt
  have HNEW := Lib.hid (fun b (hb : w.heap.size ≤ b) => h.new_ne hb)
  have hnew := h.new_ne (b := w.heap.size) (Nat.le_refl _)
  have HB := Lib.hid (fun o : Obj => (Below.refl w.heap.size w).alloc (Nat.le_refl _) o)
  have f3 := tok_field3
  have f0 := tok_field0
  have hs0 : (w.setCell ⟨r, 1, none⟩ (.slice none 0 0)).heap.size = w.heap.size := by simp
  have HNIL := Lib.hid (h.nil.below ((Below.refl _ _).alloc (Nat.le_refl _) (.cells #[.int .i64 0, .string ⟨#[]⟩, .int .i64 0, .slice none 0 0] 30)))
  have HR1 : Hid (w.cell? ⟨r, 1, none⟩ = some v ∧ w.frozen? ⟨r, 1, none⟩ = false) := Lib.hid (by
    obtain ⟨g, k, cap, hg, hr, hl, hc, ht⟩ := h.ex
    exact ⟨(cellsR2 hr).2.1, (cellsR2 hr).2.2.2⟩)
  have HBB : Hid (Below r w ((w.setCell ⟨r, 1, none⟩ (.slice none 0 0)).alloc (.cells #[.int .i64 0, .string ⟨#[]⟩, .int .i64 0, .slice none 0 0] 30))) := Lib.hid ((((Below.refl w.heap.size w).mono (Nat.le_of_lt hlt)).setCell (p := ⟨r, 1, none⟩) (Nat.le_refl _) _).alloc (by omega) _)
  have HBK : Hid (∀ b, b < w.heap.size → b ≠ r → ((w.setCell ⟨r, 1, none⟩ (.slice none 0 0)).alloc (.cells #[.int .i64 0, .string ⟨#[]⟩, .int .i64 0, .slice none 0 0] 30)).heap[b]? = w.heap[b]?) := Lib.hid (fun b hb hr => (Below.heap_alloc _ _ _ (by omega)).trans (Below.heap_setCell _ _ _ _ (show b ≠ r from hr)))
  have HBQ : Hid (((w.setCell ⟨r, 1, none⟩ (.slice none 0 0)).alloc (.cells #[.int .i64 0, .string ⟨#[]⟩, .int .i64 0, .slice none 0 0] 30)).heap[w.heap.size]? = some (.cells #[.int .i64 0, .string ⟨#[]⟩, .int .i64 0, .slice none 0 0] 30 (0, 0))) := Lib.hid (by have := newR (w.setCell ⟨r, 1, none⟩ (.slice none 0 0)) (.cells #[.int .i64 0, .string ⟨#[]⟩, .int .i64 0, .slice none 0 0] 30); rwa [hs0] at this)
  have HBS : Hid (((w.setCell ⟨r, 1, none⟩ (.slice none 0 0)).alloc (.cells #[.int .i64 0, .string ⟨#[]⟩, .int .i64 0, .slice none 0 0] 30)).heap.size = w.heap.size + 1) := Lib.hid (by rw [World.size_alloc, hs0])
  have HF := Lib.hid (fun W' hm' => rd_first W' r (.slice none 0 0) ts [] hm' hf.pos)
  have HW := Lib.hid (fun W' hm' => rd_within_whole ts [] W' r (.slice none 0 0) hm hf (by simp) hm')
  have HGO := Lib.hid (fun t ts' ns' h => whole_good (t := t) (ts' := ts') (ns' := ns') hf (ns := []) (by simp) h)
  have HTT := Lib.hid hT
  obtain ⟨r1, z1⟩ := HR1.out
  clear h hT
  obtain ⟨E, hE⟩ : ∃ E, wholeR must ts = E := ⟨_, rfl⟩
  rw [hE]
  unfold wholeR at hE
  unfold tokv at HF
  generalize fstT ts = t0 at *
  cases hx : termR ts.length 1200 ts [] with
  | bad o =>
    rw [hx] at HW hE
    subst hE
    clear hx
    go_enter Tryz.func52, Tryz.ntmps52
    go_upto_region 2 with fail
    generalize (w.setCell ⟨r, 1, none⟩ (.slice none 0 0)).alloc (.cells #[.int .i64 0, .string ⟨#[]⟩, .int .i64 0, .slice none 0 0] 30) = wb at *
    go_wp2_with fail
    refine (HF.out _ HNIL.out).mono ?_; rintro e w2 ⟨rfl, hb2⟩
    have HM2 := Lib.hid (HNIL.out.below hb2)
    have HB2 := Lib.hid (HBB.out.trans (hb2.mono (by have := HBS.out; omega)))
    clear hb2
    go_wp2_with fail
    refine (HW.out _ HM2.out).mono ?_; rintro e w3 ⟨rfl, hb3⟩
    exact ⟨rfl, rfl, HB2.out.trans hb3⟩
  | ok t ts1 ns1 =>
    rw [hx] at HW hE
    obtain ⟨g1, g2, g3⟩ := HGO.out _ _ _ hx
    have HF1 := Lib.hid (fun W' v' hm' => rd_first W' r v' ts1 ns1 hm' g1.pos)
    unfold tokv at HF1
    dsimp only at hE
    have HE := Lib.hid hE
    have HG1 := Lib.hid g1
    have HMAY := Lib.hid (termR_may ts.length 1200 ts [] t ts1 ns1 (Nat.le_refl _) hf (by simp) hx)
    clear hx hE hf g1
    go_enter Tryz.func52, Tryz.ntmps52
    go_upto_region 2 with fail
    generalize (w.setCell ⟨r, 1, none⟩ (.slice none 0 0)).alloc (.cells #[.int .i64 0, .string ⟨#[]⟩, .int .i64 0, .slice none 0 0] 30) = wb at *
    go_wp2_with fail
    refine (HF.out _ HNIL.out).mono ?_; rintro e w2 ⟨rfl, hb2⟩
    have HM2 := Lib.hid (HNIL.out.below hb2)
    have HG2 := Lib.hid (RGo.of_below (r := r) (v := .slice none 0 0) hb2 (by have := HBS.out; omega))
    have HQ2 := Lib.hid (keptR hb2 HBQ.out)
    clear hb2
    go_wp2_with fail
    refine (HW.out _ HM2.out).mono ?_; rintro e w3 ⟨v3, ad, cap, rfl, hm3, hg3, ht3⟩
    have ht3n : some w3.heap.size ≠ v3.ownBlock := fun e => by have := hm3.ltv _ e.symm; omega
    have HTV := Lib.hid ht3n
    have HQV := Lib.hid (hg3.ne (b := w.heap.size) (Array.getElem?_eq_some_iff.1 HQ2.out).1 (by intro e; cases e))
    have hz2 := HG2.out.below.size
    have hz3 := hg3.below.size
    have hbs := HBS.out
    have hTr : w3.heap.size ≠ r := by omega
    have HC := Lib.hid (fun W' (hT : Tabs W') (hin : TmIn W' t ad cap) => term_Check t ad cap W' (by omega) hT hin)
    unfold tmv
    go_upto_region 4 with fail
    generalize hw4 : w3.alloc (.cells #[.int .i64 t.kind, .string t.name, .int .i64 t.n, .slice ad t.args.length cap] 30) = w4
    have hb4 : Below w3.heap.size w3 w4 := by rw [← hw4]; exact (Below.refl _ _).alloc (Nat.le_refl _) _
    have HT4 : Hid (w4.heap[w3.heap.size]? = some (.cells #[.int .i64 t.kind, .string t.name, .int .i64 t.n, .slice ad t.args.length cap] 30 (0, 0))) := Lib.hid (by rw [← hw4]; exact newR w3 _)
    have HQ4 := Lib.hid (keptR hb4 (hg3.at HQ2.out hnew.1 (by intro e; cases e)))
    have HP4 := Lib.hid (TmB.below ht3 hb4)
    have HM4 := Lib.hid (hm3.below hb4)
    have HG4 := Lib.hid (HG2.out.trans (hg3.trans (RGo.of_below (r := r) (v := v3) hb4 (Nat.le_of_lt hm3.lt))))
    have hz4 := hb4.size
    clear hw4 hb4 hm3 hg3 ht3
    by_cases c8 : (fstT ts1).kind = 8
    · have HPS := Lib.hid (fun W' hm' => rd_pass W' r v3 ts1 ns1 hm' (HG1.out.two (by rw [c8]; decide)))
      have hb8 : ((fstT ts1).kind == 8) = true := by rw [c8]; rfl
      rw [if_neg (fun c => c.1 c8)] at HE
      rw [if_pos c8] at HE
      clear c8
      generalize fstT ts1 = t1 at *
      go_wp2_with fail
      refine (HF1.out _ _ HM4.out).mono ?_; rintro e w5 ⟨rfl, hb5⟩
      have HG5 := Lib.hid (HG4.out.trans (RGo.of_below (r := r) (v := v3) hb5 (Nat.le_of_lt HM4.out.lt)))
      have HT5 := Lib.hid ((RGo.of_below (r := r) (v := v3) hb5 (Nat.le_of_lt HM4.out.lt)).at HT4.out hTr (HTV.out))
      have HQ5 := Lib.hid ((RGo.of_below (r := r) (v := v3) hb5 (Nat.le_of_lt HM4.out.lt)).at HQ4.out hnew.1 HQV.out)
      have HP5 := Lib.hid (HP4.out.go (r := r) (by omega) (RGo.of_below (r := r) (v := v3) hb5 (Nat.le_of_lt HM4.out.lt)))
      have HM5 := Lib.hid (HM4.out.below hb5)
      have hz5 := (RGo.of_below (r := r) (v := v3) hb5 (Nat.le_of_lt HM4.out.lt)).below.size
      go_wp2_with fail
      refine (HPS.out _ HM5.out).mono ?_; rintro e w6 ⟨rfl, hm6, hg6⟩
      have HG6 := Lib.hid (HG5.out.trans hg6)
      have HT6 := Lib.hid (hg6.at HT5.out hTr (HTV.out))
      have HQ6 := Lib.hid (hg6.at HQ5.out hnew.1 HQV.out)
      have HP6 := Lib.hid (HP5.out.go (r := r) (by omega) hg6)
      have HM6 := Lib.hid hm6
      have hz6 := hg6.below.size
      by_cases hd : 60 < t.deep
      · have hck : t.chk = 3 := by unfold Tm.chk; rw [if_pos HMAY.out, if_pos hd]
        rw [hck] at HC
        rw [if_pos hd] at HE
        clear hd hck
        obtain ⟨u0, u1, u2, u3, _⟩ := cellsR4 HT6.out
        go_wp2_with fail
        refine (HC.out _ (HTT.out _ (HBB.out.trans HG6.out.below)) HP6.out.toIn).mono ?_; rintro e w8 ⟨rfl, hb8⟩
        have HG8 := Lib.hid (HG6.out.trans (RGo.of_below (r := r) (v := v3) hb8 (Nat.le_of_lt HM6.out.lt)))
        go_wp2_with fail
        refine ⟨rfl, ?_⟩
        rw [← HE.out]
        exact ⟨rfl, HBB.out.trans HG8.out.below⟩
      · have hck : t.chk = 0 := by unfold Tm.chk; rw [if_pos HMAY.out, if_neg hd]
        rw [hck] at HC
        rw [if_neg hd] at HE
        clear hd hck
        obtain ⟨u0, u1, u2, u3, _⟩ := cellsR4 HT6.out
        go_wp2_with fail
        refine (HC.out _ (HTT.out _ (HBB.out.trans HG6.out.below)) HP6.out.toIn).mono ?_; rintro e w8 ⟨rfl, hb8⟩
        have HG8 := Lib.hid (HG6.out.trans (RGo.of_below (r := r) (v := v3) hb8 (Nat.le_of_lt HM6.out.lt)))
        have HQ8 := Lib.hid (keptR hb8 HQ6.out)
        have HT8 := Lib.hid (keptR hb8 HT6.out)
        have HP8 := Lib.hid (TmB.below HP6.out hb8)
        have HM8 := Lib.hid (HM6.out.below hb8)
        obtain ⟨u0, u1, u2, u3, _⟩ := cellsR4 HT8.out
        obtain ⟨d0, d1, d2, d3, e0, e1, e2, e3⟩ := cellsR4 HQ8.out
        clear hb8
        go_wp2_with fail
        refine bodyPost_ret (v := tmv t ad cap) (by simp [results, Tryz.results52, go_sem, d0, d1, d2, d3, tmv]) rfl ?_
        rw [← HE.out]
        exact ⟨v3, ad, cap, rfl, wgo_fin HM8.out (wgo_of HBB.out HBK.out HG8.out) HP8.out hlt (Nat.le_refl _) (by omega) HQV.out _ _ _ _⟩
    · have HRF := Lib.hid (fun W' hm' => rd_refuse W' r v3 ts1 ns1 hm' HG1.out.pos)
      have hb8 : ((fstT ts1).kind == 8) = false := by simpa using c8
      cases must with
      | true =>
        rw [if_pos ⟨c8, rfl⟩] at HE
        clear c8
        generalize fstT ts1 = t1 at *
        go_wp2_with fail
        refine (HF1.out _ _ HM4.out).mono ?_; rintro e w5 ⟨rfl, hb5⟩
        have HG5 := Lib.hid (HG4.out.trans (RGo.of_below (r := r) (v := v3) hb5 (Nat.le_of_lt HM4.out.lt)))
        have HT5 := Lib.hid ((RGo.of_below (r := r) (v := v3) hb5 (Nat.le_of_lt HM4.out.lt)).at HT4.out hTr (HTV.out))
        have HQ5 := Lib.hid ((RGo.of_below (r := r) (v := v3) hb5 (Nat.le_of_lt HM4.out.lt)).at HQ4.out hnew.1 HQV.out)
        have HP5 := Lib.hid (HP4.out.go (r := r) (by omega) (RGo.of_below (r := r) (v := v3) hb5 (Nat.le_of_lt HM4.out.lt)))
        have HM5 := Lib.hid (HM4.out.below hb5)
        have hz5 := (RGo.of_below (r := r) (v := v3) hb5 (Nat.le_of_lt HM4.out.lt)).below.size
        go_wp2_with fail
        refine (HRF.out _ HM5.out).mono ?_; rintro e w6 ⟨rfl, hb6⟩
        refine ⟨rfl, ?_⟩
        rw [← HE.out]
        exact ⟨rfl, (HBB.out.trans HG5.out.below).trans (hb6.mono (Nat.le_of_lt HM5.out.lt))⟩
      | false =>
        rw [if_neg (fun c => by cases c.2), if_neg c8] at HE
        clear c8
        generalize fstT ts1 = t1 at *
        go_wp2_with fail
        refine (HF1.out _ _ HM4.out).mono ?_; rintro e w5 ⟨rfl, hb5⟩
        have HG5 := Lib.hid (HG4.out.trans (RGo.of_below (r := r) (v := v3) hb5 (Nat.le_of_lt HM4.out.lt)))
        have HT5 := Lib.hid ((RGo.of_below (r := r) (v := v3) hb5 (Nat.le_of_lt HM4.out.lt)).at HT4.out hTr (HTV.out))
        have HQ5 := Lib.hid ((RGo.of_below (r := r) (v := v3) hb5 (Nat.le_of_lt HM4.out.lt)).at HQ4.out hnew.1 HQV.out)
        have HP5 := Lib.hid (HP4.out.go (r := r) (by omega) (RGo.of_below (r := r) (v := v3) hb5 (Nat.le_of_lt HM4.out.lt)))
        have HM5 := Lib.hid (HM4.out.below hb5)
        have hz5 := (RGo.of_below (r := r) (v := v3) hb5 (Nat.le_of_lt HM4.out.lt)).below.size
        by_cases hd : 60 < t.deep
        · have hck : t.chk = 3 := by unfold Tm.chk; rw [if_pos HMAY.out, if_pos hd]
          rw [hck] at HC
          rw [if_pos hd] at HE
          clear hd hck
          obtain ⟨u0, u1, u2, u3, _⟩ := cellsR4 HT5.out
          go_wp2_with fail
          refine (HC.out _ (HTT.out _ (HBB.out.trans HG5.out.below)) HP5.out.toIn).mono ?_; rintro e w8 ⟨rfl, hb8⟩
          have HG8 := Lib.hid (HG5.out.trans (RGo.of_below (r := r) (v := v3) hb8 (Nat.le_of_lt HM5.out.lt)))
          go_wp2_with fail
          refine ⟨rfl, ?_⟩
          rw [← HE.out]
          exact ⟨rfl, HBB.out.trans HG8.out.below⟩
        · have hck : t.chk = 0 := by unfold Tm.chk; rw [if_pos HMAY.out, if_neg hd]
          rw [hck] at HC
          rw [if_neg hd] at HE
          clear hd hck
          obtain ⟨u0, u1, u2, u3, _⟩ := cellsR4 HT5.out
          go_wp2_with fail
          refine (HC.out _ (HTT.out _ (HBB.out.trans HG5.out.below)) HP5.out.toIn).mono ?_; rintro e w8 ⟨rfl, hb8⟩
          have HG8 := Lib.hid (HG5.out.trans (RGo.of_below (r := r) (v := v3) hb8 (Nat.le_of_lt HM5.out.lt)))
          have HQ8 := Lib.hid (keptR hb8 HQ5.out)
          have HT8 := Lib.hid (keptR hb8 HT5.out)
          have HP8 := Lib.hid (TmB.below HP5.out hb8)
          have HM8 := Lib.hid (HM5.out.below hb8)
          obtain ⟨u0, u1, u2, u3, _⟩ := cellsR4 HT8.out
          obtain ⟨d0, d1, d2, d3, e0, e1, e2, e3⟩ := cellsR4 HQ8.out
          clear hb8
          go_wp2_with fail
          refine bodyPost_ret (v := tmv t ad cap) (by simp [results, Tryz.results52, go_sem, d0, d1, d2, d3, tmv]) rfl ?_
          rw [← HE.out]
          exact ⟨v3, ad, cap, rfl, wgo_fin HM8.out (wgo_of HBB.out HBK.out HG8.out) HP8.out hlt (Nat.le_refl _) (by omega) HQV.out _ _ _ _⟩
end Go.Proofs.YtlbdocdjijhkbaaGreatDoor

/-
  The contract of package read's own query.
-/
namespace Go.Proofs.YtlbdocdjijhkbaaGreatDoor
open Go.RowKit

/-- How reading gives up: at a place, with an error. -/
def endP (o : Nat) (er : Int) : Ending := if er = 3 then deepP o else misp o
/-- What query leaves. -/
def QryOut (r : Nat) (w : World) (x : Pr (Tm × Nms)) (e : Ending) (w' : World) : Prop :=
  match x with
  | .bad o er => e = endP o er ∧ Below r w w'
  | .ok (t, ns) => ∃ v' ad cap, e = .returned (.tuple #[tmv t ad cap, v']) ∧ OwnStrs w.heap.size w' v' (nmB ns) ∧ WGo r w v' w' ∧ TmB w.heap.size w' v' t ad cap
theorem OwnStrs.up {B B' : Nat} {w : World} {v : Value} {l : List ByteArray} (h : OwnStrs B w v l) (hg : ∀ g, v.ownBlock = some g → B' ≤ g) : OwnStrs B' w v l := by
  obtain ⟨hl, h0 | ⟨g, cap, cur, hv, hbg, hh, hr⟩⟩ := h
  · exact ⟨hl, .inl h0⟩
  · exact ⟨hl, .inr ⟨g, cap, cur, hv, hg g (by rw [hv]; rfl), hh, hr⟩⟩
theorem WGo.below2 {r : Nat} {w w1 w2 : World} {v : Value} (h : WGo r w v w1) (hb : Below w1.heap.size w1 w2) (hr : r ≤ w.heap.size) : WGo r w v w2 :=
  ⟨h.below.trans (hb.mono (by have := h.below.size; omega)), fun b hb1 hb2 => (hb.block b (by have := h.below.size; omega)).trans (h.keep b hb1 hb2), h.own⟩
theorem WGo.of_alloc {r : Nat} {w w1 : World} {v : Value} {o : Obj} (h : WGo r (w.alloc o) v w1) (hr : r ≤ w.heap.size) : WGo r w v w1 := by
  have hs : (w.alloc o).heap.size = w.heap.size + 1 := World.size_alloc _ _
  refine ⟨((Below.refl r w).alloc hr o).trans h.below, fun b hb hb2 => (h.keep b (by omega) hb2).trans (Below.heap_alloc _ _ _ hb), fun g hg => by have := h.own g hg; omega⟩
theorem own_ne {v : Value} {B b : Nat} (h : ∀ g, v.ownBlock = some g → B ≤ g) (hb : b < B) : some b ≠ v.ownBlock := fun e => by have := h b e.symm; omega

theorem qry_fin {r : Nat} {w wa w1 w3 : World} {v1 : Value} {ns : Nms} {t : Tm} {ad : Option Addr} {cap : Nat} (hsa : wa.heap.size = w.heap.size + 1) (hlt : r < w.heap.size) (ho : OwnStrs wa.heap.size w1 v1 (nmB ns)) (hg : WGo r w v1 w1) (ht : TmB wa.heap.size w1 v1 t ad cap) (hb : Below w1.heap.size w1 w3) (u0 u1 u2 u3 : Value) :
    OwnStrs w.heap.size ((((w3.setCell ⟨w.heap.size, 0, none⟩ u0).setCell ⟨w.heap.size, 1, none⟩ u1).setCell ⟨w.heap.size, 2, none⟩ u2).setCell ⟨w.heap.size, 3, none⟩ u3).drew v1 (nmB ns) ∧ WGo r w v1 ((((w3.setCell ⟨w.heap.size, 0, none⟩ u0).setCell ⟨w.heap.size, 1, none⟩ u1).setCell ⟨w.heap.size, 2, none⟩ u2).setCell ⟨w.heap.size, 3, none⟩ u3).drew ∧ TmB w.heap.size ((((w3.setCell ⟨w.heap.size, 0, none⟩ u0).setCell ⟨w.heap.size, 1, none⟩ u1).setCell ⟨w.heap.size, 2, none⟩ u2).setCell ⟨w.heap.size, 3, none⟩ u3).drew v1 t ad cap := by
  have hg4 := ((((hg.below2 hb (by omega)).set (Nat.le_refl _) (by omega) u0 (i := 0)).set (Nat.le_refl _) (by omega) u1 (i := 1)).set (Nat.le_refl _) (by omega) u2 (i := 2)).set (Nat.le_refl _) (by omega) u3 (i := 3)
  have ht4 := ((((ht.below hb).set (q := w.heap.size) (i := 0) (by omega) u0).set (q := w.heap.size) (i := 1) (by omega) u1).set (q := w.heap.size) (i := 2) (by omega) u2).set (q := w.heap.size) (i := 3) (by omega) u3
  have ho3 := ho.below hb
  have ho4 : OwnStrs w.heap.size ((((w3.setCell ⟨w.heap.size, 0, none⟩ u0).setCell ⟨w.heap.size, 1, none⟩ u1).setCell ⟨w.heap.size, 2, none⟩ u2).setCell ⟨w.heap.size, 3, none⟩ u3) v1 (nmB ns) :=
    (ho3.kept (fun b hb2 _ => by
      have hne : b ≠ w.heap.size := by have := (ho3.lt b hb2).1; omega
      rw [Below.heap_setCell _ _ _ _ (show b ≠ w.heap.size from hne), Below.heap_setCell _ _ _ _ (show b ≠ w.heap.size from hne), Below.heap_setCell _ _ _ _ (show b ≠ w.heap.size from hne), Below.heap_setCell _ _ _ _ (show b ≠ w.heap.size from hne)])).up (fun g hg2 => by have := (ho3.lt g hg2).1; omega)
  exact ⟨ho4, ⟨hg4.below.drew, hg4.keep, hg4.own⟩, TmP.kept (ht4.mono (by omega)) (fun _ _ _ => rfl) (fun _ hp _ => hp)⟩

set_option maxRecDepth 100000 in
set_option maxHeartbeats 8000000 in
theorem rd_query (ts : List Tok) (ns : Nms) (w : World) (r : Nat) (v : Value) (hm : ts.length ≤ 10000) (hf : Fine ts) (h : RMem w r v ts ns) (hT : ∀ W', Below r w W' → Tabs W') :
    Calls Tryz.prog 35 #[.pointer (some ⟨r, 0, none⟩)] w fun e w' => QryOut r w (queryT ts) e w' := by
  have hlt := h.lt
  have f0 := tok_field0
  have HQ := Lib.hid (newR w (.cells #[.int .i64 0, .string ⟨#[]⟩, .int .i64 0, .slice none 0 0] 30))
  have HBA : Hid (Below r w (w.alloc (.cells #[.int .i64 0, .string ⟨#[]⟩, .int .i64 0, .slice none 0 0] 30))) := Lib.hid ((Below.refl r w).alloc (by omega) _)
  have HM := Lib.hid (h.below ((Below.refl _ _).alloc (Nat.le_refl _) (.cells #[.int .i64 0, .string ⟨#[]⟩, .int .i64 0, .slice none 0 0] 30)))
  have hsa : (w.alloc (.cells #[.int .i64 0, .string ⟨#[]⟩, .int .i64 0, .slice none 0 0] 30)).heap.size = w.heap.size + 1 := World.size_alloc _ _
  have HSA := Lib.hid hsa
  have HW := Lib.hid (rd_whole false ts ns (w.alloc (.cells #[.int .i64 0, .string ⟨#[]⟩, .int .i64 0, .slice none 0 0] 30)) r v hm hf HM.out (fun W' hb => hT W' (HBA.out.trans hb)))
  have HOF : Hid (∀ v' w1, WGo r (w.alloc (.cells #[.int .i64 0, .string ⟨#[]⟩, .int .i64 0, .slice none 0 0] 30)) v' w1 → WGo r w v' w1) := Lib.hid (fun v' w1 hg => hg.of_alloc (by omega))
  clear h hT hsa
  obtain ⟨E, hE⟩ : ∃ E, queryT ts = E := ⟨_, rfl⟩
  rw [hE]
  unfold queryT at hE
  cases hx : wholeR false ts with
  | syn o =>
    rw [hx] at HW hE
    dsimp only at hE
    subst hE
    clear hx
    go_enter Tryz.func35, Tryz.ntmps35
    go_wp2_with fail
    refine HW.out.mono ?_; rintro e w1 ⟨rfl, hb⟩
    exact ⟨rfl, rfl, HBA.out.trans hb⟩
  | deep o =>
    rw [hx] at HW hE
    dsimp only at hE
    subst hE
    clear hx
    go_enter Tryz.func35, Tryz.ntmps35
    go_wp2_with fail
    refine HW.out.mono ?_; rintro e w1 ⟨rfl, hb⟩
    exact ⟨rfl, rfl, HBA.out.trans hb⟩
  | ok t ts1 ns1 =>
    rw [hx] at HW hE
    dsimp only at hE
    obtain ⟨hf1, _, _, _⟩ := wholeR_left hf hx
    have HF := Lib.hid (fun W v' (hm : RMem W r v' ts1 ns1) => rd_first W r v' ts1 ns1 hm hf1.pos)
    have HR := Lib.hid (fun W v' (hm : RMem W r v' ts1 ns1) => rd_refuse W r v' ts1 ns1 hm hf1.pos)
    unfold tokv at HF
    have HE := Lib.hid hE
    clear hx hE hf hf1
    by_cases c9 : (fstT ts1).kind = 9
    · have hb9 : ((fstT ts1).kind == 9) = true := by rw [c9]; rfl
      rw [if_pos c9] at HE
      clear c9
      generalize fstT ts1 = t1 at *
      go_enter Tryz.func35, Tryz.ntmps35
      go_wp2_with fail
      refine HW.out.mono ?_; rintro e w1 ⟨v1, ad, cap, rfl, hm1, hg1, ht1⟩
      have HNV : Hid (some w.heap.size ≠ v1.ownBlock) := Lib.hid (own_ne hg1.own (by rw [HSA.out]; omega))
      have HQ1 := Lib.hid ((hg1.keep w.heap.size (by rw [HSA.out]; omega) (by omega)).trans HQ.out)
      have hs1 := hg1.below.size
      rw [HSA.out] at hs1
      have HG1 := Lib.hid (HOF.out _ _ hg1)
      have HOW := Lib.hid (hm1.names.up hg1.own)
      have HM1 := Lib.hid hm1
      have HT1 := Lib.hid ht1
      clear hm1 hg1 ht1
      unfold tmv
      go_upto_region 2 with fail
      generalize hw2 : (w1.alloc (.cells #[.int .i64 t.kind, .string t.name, .int .i64 t.n, .slice ad t.args.length cap] 30)) = w2
      have hb2 : Below w1.heap.size w1 w2 := by rw [← hw2]; exact (Below.refl _ _).alloc (Nat.le_refl _) _
      have HT2 : Hid (w2.heap[w1.heap.size]? = some (.cells #[.int .i64 t.kind, .string t.name, .int .i64 t.n, .slice ad t.args.length cap] 30 (0, 0))) := Lib.hid (by rw [← hw2]; exact newR w1 _)
      have HB2 := Lib.hid hb2
      have hz2 := hb2.size
      clear hw2 hb2
      go_wp2_with fail
      refine (HF.out _ _ (HM1.out.below HB2.out)).mono ?_; rintro e w3 ⟨rfl, hb3⟩
      have HB3 := Lib.hid (HB2.out.trans (hb3.mono HB2.out.size))
      have HT3 := Lib.hid (keptR hb3 HT2.out)
      have HQ3 := Lib.hid (keptR HB3.out HQ1.out)
      have HM3 := HM1.out.below HB3.out
      obtain ⟨g, k, cp, hgr, hr, _⟩ := HM3.ex
      obtain ⟨_, r1, _, z1⟩ := cellsR2 hr
      obtain ⟨d0, d1, d2, d3, e0, e1, e2, e3⟩ := cellsR4 HT3.out
      obtain ⟨q0, q1, q2, q3, z0, z11, z2, z3⟩ := cellsR4 HQ3.out
      clear hb3 hr HM3
      go_upto_region 4 with fail
      go_region
      all_goals
        go_wp2_with fail
        refine bodyPost_ret (v := .tuple #[tmv t ad cap, v1]) (by simp [results, Tryz.results35, go_sem, q0, q1, q2, q3, tmv]) rfl ?_
        rw [← HE.out]
        exact ⟨v1, ad, cap, rfl, qry_fin (HSA.out) hlt HOW.out HG1.out HT1.out HB3.out _ _ _ _⟩
    · have hb9 : ((fstT ts1).kind == 9) = false := by simpa using c9
      rw [if_neg c9] at HE
      clear c9
      generalize fstT ts1 = t1 at *
      go_enter Tryz.func35, Tryz.ntmps35
      go_wp2_with fail
      refine HW.out.mono ?_; rintro e w1 ⟨v1, ad, cap, rfl, hm1, hg1, ht1⟩
      have HG1 := Lib.hid (HOF.out _ _ hg1)
      have HM1 := Lib.hid hm1
      clear hm1 hg1 ht1
      unfold tmv
      go_upto_region 2 with fail
      generalize hw2 : (w1.alloc (.cells #[.int .i64 t.kind, .string t.name, .int .i64 t.n, .slice ad t.args.length cap] 30)) = w2
      have hb2 : Below w1.heap.size w1 w2 := by rw [← hw2]; exact (Below.refl _ _).alloc (Nat.le_refl _) _
      have HB2 := Lib.hid hb2
      clear hw2 hb2
      go_wp2_with fail
      refine (HF.out _ _ (HM1.out.below HB2.out)).mono ?_; rintro e w3 ⟨rfl, hb3⟩
      have HB3 := Lib.hid (HB2.out.trans (hb3.mono HB2.out.size))
      clear hb3
      go_wp2_with fail
      refine (HR.out _ _ (HM1.out.below HB3.out)).mono ?_; rintro e w4 ⟨rfl, hb4⟩
      refine ⟨rfl, ?_⟩
      rw [← HE.out]
      have h1 := HM1.out.lt
      exact ⟨rfl, HG1.out.below.trans ((HB3.out.trans (hb4.mono HB3.out.size)).mono (Nat.le_of_lt h1))⟩
end Go.Proofs.YtlbdocdjijhkbaaGreatDoor

/-
  The deferred function of package read's own attempt: what it does where reading gave up, and where it did not.
-/
namespace Go.Proofs.YtlbdocdjijhkbaaGreatDoor
open Go.RowKit

theorem rep15 : (Array.replicate 15 undef : Array Value) = #[undef, undef, undef, undef, undef, undef, undef, undef, undef, undef, undef, undef, undef, undef, undef] := rfl
theorem under_any : Tryz.prog.underlying 20 = some (.interface (Tryz.prog.methodsAt 20)) := by kernel_rfl
theorem eql_nil (w : World) : (binOp .eql 20 .nilIface .nilIface).run Tryz.prog w = .ok (.bool true) w := run_eql_nil_nil w _ under_any
theorem eql_held (u : TypeId) (x : Value) (w : World) : (binOp .eql 20 (.iface u x) .nilIface).run Tryz.prog w = .ok (.bool false) w := run_eql_held_nil w _ u x under_any
theorem assert_misp (o : Int) (w : World) : (Instr.typeAssert (.iface 74 (.int .i64 o)) 20 74 true).run Tryz.prog w = .ok (.tuple #[.int .i64 o, .bool true]) w := by kernel_rfl
theorem assert_misp2 (o : Int) (w : World) : (Instr.typeAssert (.iface 75 (.int .i64 o)) 20 74 true).run Tryz.prog w = .ok (.tuple #[.int .i64 0, .bool false]) w := by kernel_rfl
theorem assert_deep (o : Int) (w : World) : (Instr.typeAssert (.iface 75 (.int .i64 o)) 20 75 true).run Tryz.prog w = .ok (.tuple #[.int .i64 o, .bool true]) w := by kernel_rfl

set_option maxRecDepth 100000 in
set_option maxHeartbeats 2000000 in
theorem catch_idle (p q : Addr) (w : World) :
    CallsD Tryz.prog 50 #[.pointer (some p), .pointer (some q)] .returning w fun e u' w' => e = .returned (.tuple #[]) ∧ u' = .returning ∧ w' = w := by
  refine callsD_of_wpS Tryz.func50 rfl fun c₀ cs hu => ?_
  apply wpS_seq
  apply wpS_region
  simp [wpOpsS, go_sem, recoverD, hu, Tryz.ntmps50, Exit.thenS]
  have e1 := eql_nil
  refine wpS_of_wp ?_
  simp only [rep15, List.setIfInBounds_toArray, List.set_cons_zero, List.set_cons_succ, List.append_toArray, List.cons_append, List.nil_append]
  go_wp2_with fail
  cases c₀
  simp_all [bodyPostS, results, Tryz.results50]

set_option maxRecDepth 100000 in
set_option maxHeartbeats 2000000 in
theorem catch_misp (p q : Addr) (x y : Int) (o : Int) (w : World) (hc : w.cell? p = some (.int .i64 x)) (hz : w.frozen? p = false) (hc2 : ∀ v, (w.setCell p v).cell? q = some (.int .i64 y)) (hz2 : ∀ v, (w.setCell p v).frozen? q = false) :
    CallsD Tryz.prog 50 #[.pointer (some p), .pointer (some q)] (.panicking [{ v := .iface 74 (.int .i64 o), recovered := false }]) w fun e u' w' =>
      e = .returned (.tuple #[]) ∧ u' = .panicking [{ v := .iface 74 (.int .i64 o), recovered := true }] ∧ w' = (w.setCell p (.int .i64 o)).setCell q (.int .i64 60) := by
  refine callsD_of_wpS Tryz.func50 rfl fun c₀ cs hu => ?_
  apply wpS_seq
  apply wpS_region
  simp [wpOpsS, go_sem, recoverD, hu, Tryz.ntmps50, Exit.thenS]
  have e2 := eql_held
  have ta := assert_misp
  refine wpS_of_wp ?_
  simp only [rep15, List.setIfInBounds_toArray, List.set_cons_zero, List.set_cons_succ, List.append_toArray, List.cons_append, List.nil_append]
  go_wp2_with fail
  clear e2 ta hc hz hc2 hz2
  cases c₀
  simp_all [bodyPostS, results, Tryz.results50]

set_option maxRecDepth 100000 in
set_option maxHeartbeats 2000000 in
theorem catch_deep (p q : Addr) (x y : Int) (o : Int) (w : World) (hc : w.cell? p = some (.int .i64 x)) (hz : w.frozen? p = false) (hc2 : ∀ v, (w.setCell p v).cell? q = some (.int .i64 y)) (hz2 : ∀ v, (w.setCell p v).frozen? q = false) :
    CallsD Tryz.prog 50 #[.pointer (some p), .pointer (some q)] (.panicking [{ v := .iface 75 (.int .i64 o), recovered := false }]) w fun e u' w' =>
      e = .returned (.tuple #[]) ∧ u' = .panicking [{ v := .iface 75 (.int .i64 o), recovered := true }] ∧ w' = (w.setCell p (.int .i64 o)).setCell q (.int .i64 3) := by
  refine callsD_of_wpS Tryz.func50 rfl fun c₀ cs hu => ?_
  apply wpS_seq
  apply wpS_region
  simp [wpOpsS, go_sem, recoverD, hu, Tryz.ntmps50, Exit.thenS]
  have e2 := eql_held
  have ta2 := assert_misp2
  have ta3 := assert_deep
  refine wpS_of_wp ?_
  simp only [rep15, List.setIfInBounds_toArray, List.set_cons_zero, List.set_cons_succ, List.append_toArray, List.cons_append, List.nil_append]
  go_wp2_with fail
  clear e2 ta2 ta3 hc hz hc2 hz2
  cases c₀
  simp_all [bodyPostS, results, Tryz.results50]
end Go.Proofs.YtlbdocdjijhkbaaGreatDoor

/-
  The contract of package read's own attempt, given the cutting's and that of the function that reads.
-/
namespace Go.Proofs.YtlbdocdjijhkbaaGreatDoor
open Go.RowKit

theorem made_func (fn : Fn) (first cap : Array Value) (w : World) : (Instr.makeFunc fn first cap).run Tryz.prog w = .ok (.func fn first cap) w := rfl
theorem cellsQ1 {w : World} {q : Nat} {a : Value} {t : TypeId} (h : w.heap[q]? = some (.cells #[a] t (0, 0))) : w.cell? ⟨q, 0, none⟩ = some a ∧ w.frozen? ⟨q, 0, none⟩ = false := by
  simp [World.cell?, World.frozen?, h]

/-- Two variables, one behind the other, laid. -/
theorem two_set {w : World} {N : Nat} {x y : Value} {t t2 : TypeId} (h0 : w.heap[N]? = some (.cells #[x] t (0, 0))) (h1 : w.heap[N + 1]? = some (.cells #[y] t2 (0, 0))) (u v : Value) :
    ((w.setCell ⟨N, 0, none⟩ u).setCell ⟨N + 1, 0, none⟩ v).heap[N]? = some (.cells #[u] t (0, 0)) ∧ ((w.setCell ⟨N, 0, none⟩ u).setCell ⟨N + 1, 0, none⟩ v).heap[N + 1]? = some (.cells #[v] t2 (0, 0)) := by
  have a0 := Lib.heap_setCell_same (i := 0) h0 u
  have a1 := setOR (q := N) (i := 0) h1 (by omega) u
  exact ⟨by simpa using setOR (q := N + 1) (i := 0) a0 (by omega) v, by simpa using Lib.heap_setCell_same (i := 0) a1 v⟩
theorem below_two {N : Nat} {w w1 : World} (h : Below N w w1) (u v : Value) : Below N w ((w1.setCell ⟨N, 0, none⟩ u).setCell ⟨N + 1, 0, none⟩ v) :=
  (h.setCell (p := ⟨N, 0, none⟩) (Nat.le_refl _) u).setCell (p := ⟨N + 1, 0, none⟩) (Nat.le_succ _) v

set_option maxRecDepth 100000 in
set_option maxHeartbeats 4000000 in
theorem att_no (fn : Value) (s : ByteArray) (w : World) (p er : Int) (her : (er == 0) = false)
    (h1 : ∀ W, Below w.heap.size w W → Calls Tryz.prog 49 #[.string s] W fun e w' => e = .returned (.tuple #[.slice none 0 0, .int .i64 p, .int .i64 er]) ∧ Below W.heap.size W w') :
    Calls Tryz.prog 28 #[.string s, fn] w fun e w' => e = .returned (.tuple #[.int .i64 p, .int .i64 er]) ∧ Below w.heap.size w w' := by
  have HN : Hid (((w.alloc (.cells #[.int .i64 0] 3)).alloc (.cells #[.int .i64 0] 24)).heap[w.heap.size]? = some (.cells #[.int .i64 0] 3 (0, 0))) := Lib.hid ((Below.heap_alloc _ _ _ (by rw [World.size_alloc]; omega)).trans (by unfold World.alloc; simp))
  have HN1 : Hid (((w.alloc (.cells #[.int .i64 0] 3)).alloc (.cells #[.int .i64 0] 24)).heap[w.heap.size + 1]? = some (.cells #[.int .i64 0] 24 (0, 0))) := Lib.hid (by have := newR (w.alloc (.cells #[.int .i64 0] 3)) (.cells #[.int .i64 0] 24); rwa [World.size_alloc] at this)
  have HBA : Hid (Below w.heap.size w ((w.alloc (.cells #[.int .i64 0] 3)).alloc (.cells #[.int .i64 0] 24))) := Lib.hid (((Below.refl _ w).alloc (Nat.le_refl _) _).alloc (by rw [World.size_alloc]; omega) _)
  have HC := Lib.hid h1
  clear h1
  go_enter_defers Tryz.func28, Tryz.ntmps28
  go_upto_region 1 with fail
  generalize ((w.alloc (.cells #[.int .i64 0] 3)).alloc (.cells #[.int .i64 0] 24)) = wa at *
  go_wp2_with fail
  refine (HC.out _ HBA.out).mono ?_; rintro e w1 ⟨rfl, hb1⟩
  have hn := keptR hb1 HN.out
  have hn1 := keptR hb1 HN1.out
  have H2 := Lib.hid (two_set hn hn1 (.int .i64 p) (.int .i64 er))
  have H4 := Lib.hid (two_set H2.out.1 H2.out.2 (.int .i64 p) (.int .i64 er))
  obtain ⟨c0, z0⟩ := cellsQ1 hn
  obtain ⟨c1, z1⟩ := cellsQ1 hn1
  have HB1 := Lib.hid (below_two (below_two (HBA.out.trans (hb1.mono HBA.out.size)) (.int .i64 p) (.int .i64 er)) (.int .i64 p) (.int .i64 er)).drew
  clear hn hn1 hb1
  go_wp2_with fail
  go_region
  all_goals
    go_wp2_with fail
    simp only [bodyPostD, Leaves]
    have HD : Hid (((((w1.setCell ⟨w.heap.size, 0, none⟩ (.int .i64 p)).setCell ⟨w.heap.size + 1, 0, none⟩ (.int .i64 er)).setCell ⟨w.heap.size, 0, none⟩ (.int .i64 p)).setCell ⟨w.heap.size + 1, 0, none⟩ (.int .i64 er)).drew.heap[w.heap.size]? = some (.cells #[.int .i64 p] 3 (0, 0)) ∧ ((((w1.setCell ⟨w.heap.size, 0, none⟩ (.int .i64 p)).setCell ⟨w.heap.size + 1, 0, none⟩ (.int .i64 er)).setCell ⟨w.heap.size, 0, none⟩ (.int .i64 p)).setCell ⟨w.heap.size + 1, 0, none⟩ (.int .i64 er)).drew.heap[w.heap.size + 1]? = some (.cells #[.int .i64 er] 24 (0, 0))) := Lib.hid H4.out
    generalize ((((w1.setCell ⟨w.heap.size, 0, none⟩ (.int .i64 p)).setCell ⟨w.heap.size + 1, 0, none⟩ (.int .i64 er)).setCell ⟨w.heap.size, 0, none⟩ (.int .i64 p)).setCell ⟨w.heap.size + 1, 0, none⟩ (.int .i64 er)).drew = W at *
    obtain ⟨d0, _⟩ := cellsQ1 HD.out.1
    obtain ⟨d1, _⟩ := cellsQ1 HD.out.2
    exact ⟨.tuple #[.int .i64 p, .int .i64 er], by simp [results, Tryz.results28, go_sem, d0, d1], rfl, HB1.out⟩

/-- What Cut answers, as the reader takes it. -/
def CutRow (w0 : World) (T : List Tok) (e : Ending) (w' : World) : Prop :=
  ∃ g k cap, e = .returned (.tuple #[.slice (some ⟨g, k, none⟩) T.length cap, .int .i64 0, .int .i64 0]) ∧ w0.heap.size ≤ g ∧ g < w'.heap.size ∧ T.length ≤ cap ∧ cap ≤ maxLen ∧ TokRow w' g k T ∧ Below w0.heap.size w0 w'
theorem RMem.fresh {w : World} {g k cap : Nat} {T : List Tok} (hg : g < w.heap.size) (hl : T.length ≤ cap) (hc : cap ≤ maxLen) (hrow : TokRow w g k T) :
    RMem (w.alloc (.cells #[.slice (some ⟨g, k, none⟩) T.length cap, .slice none 0 0] 77)) w.heap.size (.slice none 0 0) T [] :=
  ⟨⟨g, k, cap, hg, newR w _, hl, hc, hrow.kept (fun hs => Below.heap_alloc _ _ _ hs)⟩, World.ownsRow_nil _ _ _ _⟩
/-- The reader as attempt makes it, behind Cut. -/
theorem RMem.start {w1 : World} {N g k cap : Nat} {T : List Tok} (hN : N + 2 ≤ g) (hg : g < w1.heap.size) (hl : T.length ≤ cap) (hc : cap ≤ maxLen) (hrow : TokRow w1 g k T) (u v : Value) :
    RMem (((w1.setCell ⟨N, 0, none⟩ u).setCell ⟨N + 1, 0, none⟩ v).alloc (.cells #[.slice (some ⟨g, k, none⟩) T.length cap, .slice none 0 0] 77)) w1.heap.size (.slice none 0 0) T [] := by
  have hz : ((w1.setCell ⟨N, 0, none⟩ u).setCell ⟨N + 1, 0, none⟩ v).heap.size = w1.heap.size := by simp
  have := RMem.fresh (w := (w1.setCell ⟨N, 0, none⟩ u).setCell ⟨N + 1, 0, none⟩ v) (by rw [hz]; exact hg) hl hc (hrow.kept (fun _ => by rw [Below.heap_setCell _ _ _ _ (show g ≠ N + 1 by omega), Below.heap_setCell _ _ _ _ (show g ≠ N by omega)]))
  rwa [hz] at this

set_option maxRecDepth 100000 in
set_option maxHeartbeats 4000000 in
theorem att_misp (fid : Nat) (he : ∀ args w, (callFunc fid args).run Tryz.prog w = .ok (.enter fid args) w) (capt : Array Value) (s : ByteArray) (w : World) (T : List Tok) (o : Nat)
    (h1 : ∀ W, Below w.heap.size w W → Calls Tryz.prog 49 #[.string s] W fun e w' => CutRow W T e w')
    (h2 : ∀ W r, w.heap.size + 2 ≤ r → W.heap.size = r + 1 → Below w.heap.size w W → RMem W r (.slice none 0 0) T [] → Calls Tryz.prog fid (#[.pointer (some ⟨r, 0, none⟩)] ++ capt) W fun e w' => e = misp o ∧ Below r W w') :
    Calls Tryz.prog 28 #[.string s, .func (.func fid) #[] capt] w fun e w' => e = .returned (.tuple #[.int .i64 (o : Nat), .int .i64 60]) ∧ Below w.heap.size w w' := by
  have hmf := made_func
  have HN : Hid (((w.alloc (.cells #[.int .i64 0] 3)).alloc (.cells #[.int .i64 0] 24)).heap[w.heap.size]? = some (.cells #[.int .i64 0] 3 (0, 0))) := Lib.hid ((Below.heap_alloc _ _ _ (by rw [World.size_alloc]; omega)).trans (by unfold World.alloc; simp))
  have HN1 : Hid (((w.alloc (.cells #[.int .i64 0] 3)).alloc (.cells #[.int .i64 0] 24)).heap[w.heap.size + 1]? = some (.cells #[.int .i64 0] 24 (0, 0))) := Lib.hid (by have := newR (w.alloc (.cells #[.int .i64 0] 3)) (.cells #[.int .i64 0] 24); rwa [World.size_alloc] at this)
  have HBA : Hid (Below w.heap.size w ((w.alloc (.cells #[.int .i64 0] 3)).alloc (.cells #[.int .i64 0] 24))) := Lib.hid (((Below.refl _ w).alloc (Nat.le_refl _) _).alloc (by rw [World.size_alloc]; omega) _)
  have HSZ : Hid (((w.alloc (.cells #[.int .i64 0] 3)).alloc (.cells #[.int .i64 0] 24)).heap.size = w.heap.size + 2) := Lib.hid (by rw [World.size_alloc, World.size_alloc])
  have HC := Lib.hid h1
  have HK := Lib.hid h2
  clear h1 h2
  go_enter_defers Tryz.func28, Tryz.ntmps28
  go_upto_region 1 with fail
  generalize ((w.alloc (.cells #[.int .i64 0] 3)).alloc (.cells #[.int .i64 0] 24)) = wa at *
  go_wp2_with fail
  refine (HC.out _ HBA.out).mono ?_; rintro e w1 ⟨g, k, cap, rfl, hN, hg, hl, hcm, hrow, hb1⟩
  rw [HSZ.out] at hN
  have hn := keptR hb1 HN.out
  have hn1 := keptR hb1 HN1.out
  have H2 := Lib.hid (two_set hn hn1 (.int .i64 0) (.int .i64 0))
  obtain ⟨c0, z0⟩ := cellsQ1 hn
  obtain ⟨c1, z1⟩ := cellsQ1 hn1
  have hz1 := hb1.size
  rw [HSZ.out] at hz1
  have HB2 : Hid (Below w.heap.size w (((w1.setCell ⟨w.heap.size, 0, none⟩ (.int .i64 0)).setCell ⟨w.heap.size + 1, 0, none⟩ (.int .i64 0)).alloc (.cells #[.slice (some ⟨g, k, none⟩) T.length cap, .slice none 0 0] 77))) := Lib.hid ((below_two (HBA.out.trans (hb1.mono HBA.out.size)) (.int .i64 0) (.int .i64 0)).alloc (by simp; omega) _)
  have HM := Lib.hid (RMem.start hN hg hl hcm hrow (.int .i64 0) (.int .i64 0))
  have HZ : Hid ((((w1.setCell ⟨w.heap.size, 0, none⟩ (.int .i64 0)).setCell ⟨w.heap.size + 1, 0, none⟩ (.int .i64 0)).alloc (.cells #[.slice (some ⟨g, k, none⟩) T.length cap, .slice none 0 0] 77)).heap.size = w1.heap.size + 1) := Lib.hid (by rw [World.size_alloc]; simp)
  have HA0 := Lib.hid (pastR H2.out.1 (.cells #[.slice (some ⟨g, k, none⟩) T.length cap, .slice none 0 0] 77))
  have HA1 := Lib.hid (pastR H2.out.2 (.cells #[.slice (some ⟨g, k, none⟩) T.length cap, .slice none 0 0] 77))
  clear hn hn1 hb1 hrow hN hg hl hcm HN HN1 HC
  go_wp2_with fail
  refine (HK.out _ _ hz1 HZ.out HB2.out HM.out).mono ?_; rintro e w2 ⟨rfl, hb2⟩
  have hn := (hb2.block w.heap.size (by omega)).trans HA0.out
  have hn1 := (hb2.block (w.heap.size + 1) (by omega)).trans HA1.out
  have HB3 := Lib.hid (HB2.out.trans (hb2.mono (by omega)))
  have H4 := Lib.hid (two_set hn hn1 (.int .i64 (o : Nat)) (.int .i64 60))
  have H5 := Lib.hid (fun v => cellsQ1 (setOR (q := w.heap.size) (i := 0) hn1 (by omega) v))
  obtain ⟨d0, y0⟩ := cellsQ1 hn
  refine leaves_cons (f := 50) (args := #[.pointer (some ⟨w.heap.size, 0, none⟩), .pointer (some ⟨w.heap.size + 1, 0, none⟩)]) (by simp) (by simp [go_sem]) ?_
  refine (catch_misp ⟨w.heap.size, 0, none⟩ ⟨w.heap.size + 1, 0, none⟩ 0 0 (o : Nat) w2 d0 y0 (fun v => (H5.out v).1) (fun v => (H5.out v).2)).mono ?_
  rintro e u' w3 ⟨rfl, rfl, rfl⟩
  have HB4 := Lib.hid (below_two HB3.out (.int .i64 (o : Nat)) (.int .i64 60))
  generalize ((w2.setCell ⟨w.heap.size, 0, none⟩ (.int .i64 (o : Nat))).setCell ⟨w.heap.size + 1, 0, none⟩ (.int .i64 60)) = W at *
  obtain ⟨k0, _⟩ := cellsQ1 H4.out.1
  obtain ⟨k1, _⟩ := cellsQ1 H4.out.2
  exact ⟨.tuple #[.int .i64 (o : Nat), .int .i64 60], by simp [results, Tryz.results28, go_sem, k0, k1], rfl, HB4.out⟩

set_option maxRecDepth 100000 in
set_option maxHeartbeats 4000000 in
theorem att_deep (fid : Nat) (he : ∀ args w, (callFunc fid args).run Tryz.prog w = .ok (.enter fid args) w) (capt : Array Value) (s : ByteArray) (w : World) (T : List Tok) (o : Nat)
    (h1 : ∀ W, Below w.heap.size w W → Calls Tryz.prog 49 #[.string s] W fun e w' => CutRow W T e w')
    (h2 : ∀ W r, w.heap.size + 2 ≤ r → W.heap.size = r + 1 → Below w.heap.size w W → RMem W r (.slice none 0 0) T [] → Calls Tryz.prog fid (#[.pointer (some ⟨r, 0, none⟩)] ++ capt) W fun e w' => e = deepP o ∧ Below r W w') :
    Calls Tryz.prog 28 #[.string s, .func (.func fid) #[] capt] w fun e w' => e = .returned (.tuple #[.int .i64 (o : Nat), .int .i64 3]) ∧ Below w.heap.size w w' := by
  have hmf := made_func
  have HN : Hid (((w.alloc (.cells #[.int .i64 0] 3)).alloc (.cells #[.int .i64 0] 24)).heap[w.heap.size]? = some (.cells #[.int .i64 0] 3 (0, 0))) := Lib.hid ((Below.heap_alloc _ _ _ (by rw [World.size_alloc]; omega)).trans (by unfold World.alloc; simp))
  have HN1 : Hid (((w.alloc (.cells #[.int .i64 0] 3)).alloc (.cells #[.int .i64 0] 24)).heap[w.heap.size + 1]? = some (.cells #[.int .i64 0] 24 (0, 0))) := Lib.hid (by have := newR (w.alloc (.cells #[.int .i64 0] 3)) (.cells #[.int .i64 0] 24); rwa [World.size_alloc] at this)
  have HBA : Hid (Below w.heap.size w ((w.alloc (.cells #[.int .i64 0] 3)).alloc (.cells #[.int .i64 0] 24))) := Lib.hid (((Below.refl _ w).alloc (Nat.le_refl _) _).alloc (by rw [World.size_alloc]; omega) _)
  have HSZ : Hid (((w.alloc (.cells #[.int .i64 0] 3)).alloc (.cells #[.int .i64 0] 24)).heap.size = w.heap.size + 2) := Lib.hid (by rw [World.size_alloc, World.size_alloc])
  have HC := Lib.hid h1
  have HK := Lib.hid h2
  clear h1 h2
  go_enter_defers Tryz.func28, Tryz.ntmps28
  go_upto_region 1 with fail
  generalize ((w.alloc (.cells #[.int .i64 0] 3)).alloc (.cells #[.int .i64 0] 24)) = wa at *
  go_wp2_with fail
  refine (HC.out _ HBA.out).mono ?_; rintro e w1 ⟨g, k, cap, rfl, hN, hg, hl, hcm, hrow, hb1⟩
  rw [HSZ.out] at hN
  have hn := keptR hb1 HN.out
  have hn1 := keptR hb1 HN1.out
  have H2 := Lib.hid (two_set hn hn1 (.int .i64 0) (.int .i64 0))
  obtain ⟨c0, z0⟩ := cellsQ1 hn
  obtain ⟨c1, z1⟩ := cellsQ1 hn1
  have hz1 := hb1.size
  rw [HSZ.out] at hz1
  have HB2 : Hid (Below w.heap.size w (((w1.setCell ⟨w.heap.size, 0, none⟩ (.int .i64 0)).setCell ⟨w.heap.size + 1, 0, none⟩ (.int .i64 0)).alloc (.cells #[.slice (some ⟨g, k, none⟩) T.length cap, .slice none 0 0] 77))) := Lib.hid ((below_two (HBA.out.trans (hb1.mono HBA.out.size)) (.int .i64 0) (.int .i64 0)).alloc (by simp; omega) _)
  have HM := Lib.hid (RMem.start hN hg hl hcm hrow (.int .i64 0) (.int .i64 0))
  have HZ : Hid ((((w1.setCell ⟨w.heap.size, 0, none⟩ (.int .i64 0)).setCell ⟨w.heap.size + 1, 0, none⟩ (.int .i64 0)).alloc (.cells #[.slice (some ⟨g, k, none⟩) T.length cap, .slice none 0 0] 77)).heap.size = w1.heap.size + 1) := Lib.hid (by rw [World.size_alloc]; simp)
  have HA0 := Lib.hid (pastR H2.out.1 (.cells #[.slice (some ⟨g, k, none⟩) T.length cap, .slice none 0 0] 77))
  have HA1 := Lib.hid (pastR H2.out.2 (.cells #[.slice (some ⟨g, k, none⟩) T.length cap, .slice none 0 0] 77))
  clear hn hn1 hb1 hrow hN hg hl hcm HN HN1 HC
  go_wp2_with fail
  refine (HK.out _ _ hz1 HZ.out HB2.out HM.out).mono ?_; rintro e w2 ⟨rfl, hb2⟩
  have hn := (hb2.block w.heap.size (by omega)).trans HA0.out
  have hn1 := (hb2.block (w.heap.size + 1) (by omega)).trans HA1.out
  have HB3 := Lib.hid (HB2.out.trans (hb2.mono (by omega)))
  have H4 := Lib.hid (two_set hn hn1 (.int .i64 (o : Nat)) (.int .i64 3))
  have H5 := Lib.hid (fun v => cellsQ1 (setOR (q := w.heap.size) (i := 0) hn1 (by omega) v))
  obtain ⟨d0, y0⟩ := cellsQ1 hn
  refine leaves_cons (f := 50) (args := #[.pointer (some ⟨w.heap.size, 0, none⟩), .pointer (some ⟨w.heap.size + 1, 0, none⟩)]) (by simp) (by simp [go_sem]) ?_
  refine (catch_deep ⟨w.heap.size, 0, none⟩ ⟨w.heap.size + 1, 0, none⟩ 0 0 (o : Nat) w2 d0 y0 (fun v => (H5.out v).1) (fun v => (H5.out v).2)).mono ?_
  rintro e u' w3 ⟨rfl, rfl, rfl⟩
  have HB4 := Lib.hid (below_two HB3.out (.int .i64 (o : Nat)) (.int .i64 3))
  generalize ((w2.setCell ⟨w.heap.size, 0, none⟩ (.int .i64 (o : Nat))).setCell ⟨w.heap.size + 1, 0, none⟩ (.int .i64 3)) = W at *
  obtain ⟨k0, _⟩ := cellsQ1 H4.out.1
  obtain ⟨k1, _⟩ := cellsQ1 H4.out.2
  exact ⟨.tuple #[.int .i64 (o : Nat), .int .i64 3], by simp [results, Tryz.results28, go_sem, k0, k1], rfl, HB4.out⟩

/-- All was read. -/
def AttOk (w : World) (Post : Nat → World → World → Prop) (w' : World) : Prop :=
  ∃ r W wc, w.heap.size + 2 ≤ r ∧ W.heap.size = r + 1 ∧ Below w.heap.size w W ∧ Post r W wc ∧ w' = (wc.setCell ⟨w.heap.size, 0, none⟩ (.int .i64 0)).setCell ⟨w.heap.size + 1, 0, none⟩ (.int .i64 0)

set_option maxRecDepth 100000 in
set_option maxHeartbeats 4000000 in
theorem att_ok (fid : Nat) (he : ∀ args w, (callFunc fid args).run Tryz.prog w = .ok (.enter fid args) w) (capt : Array Value) (s : ByteArray) (w : World) (T : List Tok) (Post : Nat → World → World → Prop)
    (h1 : ∀ W, Below w.heap.size w W → Calls Tryz.prog 49 #[.string s] W fun e w' => CutRow W T e w')
    (h2 : ∀ W r, w.heap.size + 2 ≤ r → W.heap.size = r + 1 → Below w.heap.size w W → RMem W r (.slice none 0 0) T [] → Calls Tryz.prog fid (#[.pointer (some ⟨r, 0, none⟩)] ++ capt) W fun e w' => e = .returned (.tuple #[]) ∧ Post r W w' ∧ ∀ b, w.heap.size ≤ b → b < r → w'.heap[b]? = W.heap[b]?) :
    Calls Tryz.prog 28 #[.string s, .func (.func fid) #[] capt] w fun e w' => e = .returned (.tuple #[.int .i64 0, .int .i64 0]) ∧ AttOk w Post w' := by
  have hmf := made_func
  have HN : Hid (((w.alloc (.cells #[.int .i64 0] 3)).alloc (.cells #[.int .i64 0] 24)).heap[w.heap.size]? = some (.cells #[.int .i64 0] 3 (0, 0))) := Lib.hid ((Below.heap_alloc _ _ _ (by rw [World.size_alloc]; omega)).trans (by unfold World.alloc; simp))
  have HN1 : Hid (((w.alloc (.cells #[.int .i64 0] 3)).alloc (.cells #[.int .i64 0] 24)).heap[w.heap.size + 1]? = some (.cells #[.int .i64 0] 24 (0, 0))) := Lib.hid (by have := newR (w.alloc (.cells #[.int .i64 0] 3)) (.cells #[.int .i64 0] 24); rwa [World.size_alloc] at this)
  have HBA : Hid (Below w.heap.size w ((w.alloc (.cells #[.int .i64 0] 3)).alloc (.cells #[.int .i64 0] 24))) := Lib.hid (((Below.refl _ w).alloc (Nat.le_refl _) _).alloc (by rw [World.size_alloc]; omega) _)
  have HSZ : Hid (((w.alloc (.cells #[.int .i64 0] 3)).alloc (.cells #[.int .i64 0] 24)).heap.size = w.heap.size + 2) := Lib.hid (by rw [World.size_alloc, World.size_alloc])
  have HC := Lib.hid h1
  have HK := Lib.hid h2
  clear h1 h2
  go_enter_defers Tryz.func28, Tryz.ntmps28
  go_upto_region 1 with fail
  generalize ((w.alloc (.cells #[.int .i64 0] 3)).alloc (.cells #[.int .i64 0] 24)) = wa at *
  go_wp2_with fail
  refine (HC.out _ HBA.out).mono ?_; rintro e w1 ⟨g, k, cap, rfl, hN, hg, hl, hcm, hrow, hb1⟩
  rw [HSZ.out] at hN
  have hn := keptR hb1 HN.out
  have hn1 := keptR hb1 HN1.out
  have H2 := Lib.hid (two_set hn hn1 (.int .i64 0) (.int .i64 0))
  obtain ⟨c0, z0⟩ := cellsQ1 hn
  obtain ⟨c1, z1⟩ := cellsQ1 hn1
  have hz1 := hb1.size
  rw [HSZ.out] at hz1
  have HB2 : Hid (Below w.heap.size w (((w1.setCell ⟨w.heap.size, 0, none⟩ (.int .i64 0)).setCell ⟨w.heap.size + 1, 0, none⟩ (.int .i64 0)).alloc (.cells #[.slice (some ⟨g, k, none⟩) T.length cap, .slice none 0 0] 77))) := Lib.hid ((below_two (HBA.out.trans (hb1.mono HBA.out.size)) (.int .i64 0) (.int .i64 0)).alloc (by simp; omega) _)
  have HM := Lib.hid (RMem.start hN hg hl hcm hrow (.int .i64 0) (.int .i64 0))
  have HZ : Hid ((((w1.setCell ⟨w.heap.size, 0, none⟩ (.int .i64 0)).setCell ⟨w.heap.size + 1, 0, none⟩ (.int .i64 0)).alloc (.cells #[.slice (some ⟨g, k, none⟩) T.length cap, .slice none 0 0] 77)).heap.size = w1.heap.size + 1) := Lib.hid (by rw [World.size_alloc]; simp)
  have HA0 := Lib.hid (pastR H2.out.1 (.cells #[.slice (some ⟨g, k, none⟩) T.length cap, .slice none 0 0] 77))
  have HA1 := Lib.hid (pastR H2.out.2 (.cells #[.slice (some ⟨g, k, none⟩) T.length cap, .slice none 0 0] 77))
  clear hn hn1 hb1 hrow hN hg hl hcm HN HN1 HC
  go_wp2_with fail
  refine (HK.out _ _ hz1 HZ.out HB2.out HM.out).mono ?_; rintro e w2 ⟨rfl, hp2, hk2⟩
  have hn := (hk2 w.heap.size (Nat.le_refl _) (by omega)).trans HA0.out
  have hn1 := (hk2 (w.heap.size + 1) (by omega) (by omega)).trans HA1.out
  have H4 := Lib.hid (two_set hn hn1 (.int .i64 0) (.int .i64 0))
  obtain ⟨d0, y0⟩ := cellsQ1 hn
  obtain ⟨d1, y1⟩ := cellsQ1 hn1
  have HP := Lib.hid hp2
  clear hn hn1 hp2 hk2
  go_wp2_with fail
  have HE : Hid (AttOk w Post ((w2.setCell ⟨w.heap.size, 0, none⟩ (.int .i64 0)).setCell ⟨w.heap.size + 1, 0, none⟩ (.int .i64 0))) := Lib.hid ⟨_, _, _, hz1, HZ.out, HB2.out, HP.out, rfl⟩
  generalize ((w2.setCell ⟨w.heap.size, 0, none⟩ (.int .i64 0)).setCell ⟨w.heap.size + 1, 0, none⟩ (.int .i64 0)) = W at *
  refine leaves_cons (f := 50) (args := #[.pointer (some ⟨w.heap.size, 0, none⟩), .pointer (some ⟨w.heap.size + 1, 0, none⟩)]) (by simp) (by simp [go_sem]) ?_
  refine (catch_idle ⟨w.heap.size, 0, none⟩ ⟨w.heap.size + 1, 0, none⟩ W).mono ?_
  rintro e u' w3 ⟨rfl, rfl, rfl⟩
  obtain ⟨k0, _⟩ := cellsQ1 H4.out.1
  obtain ⟨k1, _⟩ := cellsQ1 H4.out.2
  exact ⟨.tuple #[.int .i64 0, .int .i64 0], by simp [results, Tryz.results28, go_sem, k0, k1], rfl, HE.out⟩
end Go.Proofs.YtlbdocdjijhkbaaGreatDoor

/-
  The contracts of package read's own Query and of what it hands to attempt.
-/
namespace Go.Proofs.YtlbdocdjijhkbaaGreatDoor
open Go.RowKit

/-- What stands in the two variables that Query$1 lays. -/
structure QPost (P Q : Nat) (t : Tm) (ns : Nms) (r : Nat) (W w' : World) : Prop where
  ex : ∃ v ad cap, OwnStrs (r + 1) w' v (nmB ns) ∧ TmB (r + 1) w' v t ad cap ∧ w'.heap[P]? = some (.cells #[.int .i64 t.kind, .string t.name, .int .i64 t.n, .slice ad t.args.length cap] 30 (0, 0)) ∧ w'.heap[Q]? = some (.cells #[v] 31 (0, 0))
  below : ∀ N, N ≤ P → N ≤ Q → N ≤ r → Below N W w'
def Q1Out (P Q r : Nat) (W : World) (x : Pr (Tm × Nms)) (e : Ending) (w' : World) : Prop :=
  match x with
  | .bad o er => e = endP o er ∧ Below r W w'
  | .ok (t, ns) => e = .returned (.tuple #[]) ∧ QPost P Q t ns r W w' ∧ ∀ b, b < W.heap.size → b ≠ r → b ≠ P → b ≠ Q → w'.heap[b]? = W.heap[b]?
theorem end_is (o : Nat) (er : Int) : endP o er = deepP o ∨ endP o er = misp o := by
  unfold endP
  by_cases h : er = 3
  · exact .inl (if_pos h)
  · exact .inr (if_neg h)
theorem q1_fin {P Q r : Nat} {W w1 : World} {v1 a b c d x : Value} {t : Tm} {ns : Nms} {ad : Option Addr} {cap : Nat} (hP : P < r) (hQ : Q < r) (hne : P ≠ Q) (hz : W.heap.size = r + 1)
    (hp : w1.heap[P]? = some (.cells #[a, b, c, d] 30 (0, 0))) (hq : w1.heap[Q]? = some (.cells #[x] 31 (0, 0))) (ho : OwnStrs W.heap.size w1 v1 (nmB ns)) (hg : WGo r W v1 w1) (ht : TmB W.heap.size w1 v1 t ad cap) :
    QPost P Q t ns r W (((((w1.setCell ⟨P, 0, none⟩ (.int .i64 t.kind)).setCell ⟨P, 1, none⟩ (.string t.name)).setCell ⟨P, 2, none⟩ (.int .i64 t.n)).setCell ⟨P, 3, none⟩ (.slice ad t.args.length cap)).setCell ⟨Q, 0, none⟩ v1) ∧
    ∀ b, b < W.heap.size → b ≠ r → b ≠ P → b ≠ Q → (((((w1.setCell ⟨P, 0, none⟩ (.int .i64 t.kind)).setCell ⟨P, 1, none⟩ (.string t.name)).setCell ⟨P, 2, none⟩ (.int .i64 t.n)).setCell ⟨P, 3, none⟩ (.slice ad t.args.length cap)).setCell ⟨Q, 0, none⟩ v1).heap[b]? = W.heap[b]? := by
  have keep : ∀ b, b ≠ P → b ≠ Q → (((((w1.setCell ⟨P, 0, none⟩ (.int .i64 t.kind)).setCell ⟨P, 1, none⟩ (.string t.name)).setCell ⟨P, 2, none⟩ (.int .i64 t.n)).setCell ⟨P, 3, none⟩ (.slice ad t.args.length cap)).setCell ⟨Q, 0, none⟩ v1).heap[b]? = w1.heap[b]? := fun b h1 h2 => by
    rw [Below.heap_setCell _ _ _ _ (show b ≠ Q from h2), Below.heap_setCell _ _ _ _ (show b ≠ P from h1), Below.heap_setCell _ _ _ _ (show b ≠ P from h1), Below.heap_setCell _ _ _ _ (show b ≠ P from h1), Below.heap_setCell _ _ _ _ (show b ≠ P from h1)]
  have p1 := Lib.heap_setCell_same (i := 0) hp (.int .i64 t.kind)
  have p2 := Lib.heap_setCell_same (i := 1) p1 (.string t.name)
  have p3 := Lib.heap_setCell_same (i := 2) p2 (.int .i64 t.n)
  have p4 := Lib.heap_setCell_same (i := 3) p3 (.slice ad t.args.length cap)
  have q4 := setOR (q := P) (i := 3) (setOR (q := P) (i := 2) (setOR (q := P) (i := 1) (setOR (q := P) (i := 0) hq (fun e => hne e.symm) (.int .i64 t.kind)) (fun e => hne e.symm) (.string t.name)) (fun e => hne e.symm) (.int .i64 t.n)) (fun e => hne e.symm) (.slice ad t.args.length cap)
  refine ⟨⟨⟨v1, ad, cap, (ho.kept (fun b hb _ => keep b (by have := (ho.lt b hb).1; omega) (by have := (ho.lt b hb).1; omega))).up (fun g hg2 => by have := (ho.lt g hg2).1; omega), TmP.kept ht (fun b hp _ => keep b (by have := hp.1; omega) (by have := hp.1; omega)) (fun b hp _ => ⟨by have := hp.1; omega, hp.2⟩), ?_, ?_⟩, fun N h1 h2 h3 => ?_⟩, fun b hb h1 h2 h3 => (keep b h2 h3).trans (hg.keep b hb h1)⟩
  · have := setOR (q := Q) (i := 0) p4 hne v1
    simpa using this
  · have := Lib.heap_setCell_same (i := 0) q4 v1
    simpa using this
  · exact ((((((hg.below.mono h3).setCell (p := ⟨P, 0, none⟩) h1 _).setCell (p := ⟨P, 1, none⟩) h1 _).setCell (p := ⟨P, 2, none⟩) h1 _).setCell (p := ⟨P, 3, none⟩) h1 _).setCell (p := ⟨Q, 0, none⟩) h2 _)

set_option maxRecDepth 100000 in
set_option maxHeartbeats 4000000 in
theorem rd_Query1 (T : List Tok) (W : World) (r P Q : Nat) (a b c d x : Value) (hm : T.length ≤ 10000) (hf : Fine T) (hP : P < r) (hQ : Q < r) (hne : P ≠ Q) (hz : W.heap.size = r + 1)
    (hp : W.heap[P]? = some (.cells #[a, b, c, d] 30 (0, 0))) (hq : W.heap[Q]? = some (.cells #[x] 31 (0, 0))) (h : RMem W r (.slice none 0 0) T []) (hT : ∀ W', Below r W W' → Tabs W') :
    Calls Tryz.prog 34 #[.pointer (some ⟨r, 0, none⟩), .pointer (some ⟨P, 0, none⟩), .pointer (some ⟨Q, 0, none⟩)] W fun e w' => Q1Out P Q r W (queryT T) e w' := by
  have HQ := Lib.hid (rd_query T [] W r _ hm hf h hT)
  have HP := Lib.hid hp
  have HX := Lib.hid hq
  clear h hT hp hq hf
  cases hx : queryT T with
  | bad o er =>
    rw [hx] at HQ
    clear hx
    go_enter Tryz.func34, Tryz.ntmps34
    go_wp2_with fail
    refine HQ.out.mono ?_; rintro e w1 ⟨he, hb⟩
    rcases end_is o er with hE | hE <;> (rw [hE] at he; subst he; exact ⟨rfl, hE.symm, hb⟩)
  | ok y =>
    obtain ⟨t, ns⟩ := y
    rw [hx] at HQ
    clear hx
    go_enter Tryz.func34, Tryz.ntmps34
    go_wp2_with fail
    refine HQ.out.mono ?_; rintro e w1 ⟨v1, ad, cap, rfl, ho, hg, ht⟩
    have HP1 := Lib.hid ((hg.keep P (by omega) (by omega)).trans HP.out)
    have HX1 := Lib.hid ((hg.keep Q (by omega) (by omega)).trans HX.out)
    have HF := Lib.hid (q1_fin hP hQ hne hz HP1.out HX1.out ho hg ht)
    obtain ⟨d0, d1, d2, d3, e0, e1, e2, e3⟩ := cellsR4 HP1.out
    obtain ⟨k0, k1⟩ := cellsQ1 HX1.out
    obtain ⟨adv, capv, rfl, _, _, _⟩ := ho.view
    clear ho hg ht
    unfold tmv
    go_wp2_with fail
    go_end0
    exact ⟨rfl, HF.out⟩

/-- Where Query hands over to attempt. -/
def wqry (w : World) : World := ((w.alloc (.cells #[.int .i64 0, .string ⟨#[]⟩, .int .i64 0, .slice none 0 0] 30)).alloc (.cells #[.int .i64 0, .string ⟨#[]⟩, .int .i64 0, .slice none 0 0] 30)).alloc (.cells #[.slice none 0 0] 31)
theorem wqry_size (w : World) : (wqry w).heap.size = w.heap.size + 3 := by unfold wqry; rw [World.size_alloc, World.size_alloc, World.size_alloc]
theorem wqry_below (w : World) : Below w.heap.size w (wqry w) := (((Below.refl _ w).alloc (Nat.le_refl _) _).alloc (by rw [World.size_alloc]; omega) _).alloc (by rw [World.size_alloc, World.size_alloc]; omega) _
theorem wqry_at (w : World) : (wqry w).heap[w.heap.size]? = some (.cells #[.int .i64 0, .string ⟨#[]⟩, .int .i64 0, .slice none 0 0] 30 (0, 0)) ∧ (wqry w).heap[w.heap.size + 1]? = some (.cells #[.int .i64 0, .string ⟨#[]⟩, .int .i64 0, .slice none 0 0] 30 (0, 0)) ∧ (wqry w).heap[w.heap.size + 2]? = some (.cells #[.slice none 0 0] 31 (0, 0)) := by
  have h1 := newR (w.alloc (.cells #[.int .i64 0, .string ⟨#[]⟩, .int .i64 0, .slice none 0 0] 30)) (.cells #[.int .i64 0, .string ⟨#[]⟩, .int .i64 0, .slice none 0 0] 30)
  rw [World.size_alloc] at h1
  have h2 := newR ((w.alloc (.cells #[.int .i64 0, .string ⟨#[]⟩, .int .i64 0, .slice none 0 0] 30)).alloc (.cells #[.int .i64 0, .string ⟨#[]⟩, .int .i64 0, .slice none 0 0] 30)) (.cells #[.slice none 0 0] 31)
  rw [World.size_alloc, World.size_alloc] at h2
  exact ⟨pastR (pastR (newR w _) _) _, pastR h1 _, h2⟩
def zeroT : Value := .agg #[.int .i64 0, .string ⟨#[]⟩, .int .i64 0, .slice none 0 0]

set_option maxRecDepth 100000 in
set_option maxHeartbeats 4000000 in
theorem query_bad (s : ByteArray) (w : World) (p er : Int)
    (hatt : Calls Tryz.prog 28 #[.string s, .func (.func 34) #[] #[.pointer (some ⟨w.heap.size + 1, 0, none⟩), .pointer (some ⟨w.heap.size + 2, 0, none⟩)]] (wqry w) fun e w' => e = .returned (.tuple #[.int .i64 p, .int .i64 er]) ∧ Below (wqry w).heap.size (wqry w) w') :
    Calls Tryz.prog 14 #[.string s] w fun e w' => e = .returned (.tuple #[zeroT, .slice none 0 0, .int .i64 p, .int .i64 er]) ∧ Below w.heap.size w w' := by
  have hmf := made_func
  have HA := Lib.hid hatt
  have HW := Lib.hid (wqry_at w)
  have HB := Lib.hid (wqry_below w)
  have HS := Lib.hid (wqry_size w)
  clear hatt
  unfold wqry at HA HW HB HS
  go_enter Tryz.func14, Tryz.ntmps14
  go_upto_region 3 with fail
  generalize ((w.alloc (.cells #[.int .i64 0, .string ⟨#[]⟩, .int .i64 0, .slice none 0 0] 30)).alloc (.cells #[.int .i64 0, .string ⟨#[]⟩, .int .i64 0, .slice none 0 0] 30)).alloc (.cells #[.slice none 0 0] 31) = wq at *
  go_wp2_with fail
  refine HA.out.mono ?_; rintro e w1 ⟨rfl, hb⟩
  have h0 := keptR hb HW.out.1
  have h1 := keptR hb HW.out.2.1
  have h2 := keptR hb HW.out.2.2
  obtain ⟨q0, q1, q2, q3, z0, z1, z2, z3⟩ := cellsR4 h0
  obtain ⟨d0, d1, d2, d3, _⟩ := cellsR4 h1
  obtain ⟨k0, k1⟩ := cellsQ1 h2
  have HB1 := Lib.hid (HB.out.trans (hb.mono HB.out.size))
  clear h0 h1 h2 hb
  go_wp2_with fail
  go_region
  all_goals
    go_wp2_with fail
    refine bodyPost_ret (v := .tuple #[zeroT, .slice none 0 0, .int .i64 p, .int .i64 er]) (by simp [results, Tryz.results14, go_sem, q0, q1, q2, q3, zeroT]) rfl ⟨rfl, ?_⟩
    exact ((((HB1.out.setCell (p := ⟨_, _, none⟩) (Nat.le_refl _) _).setCell (p := ⟨_, _, none⟩) (Nat.le_refl _) _).setCell (p := ⟨_, _, none⟩) (Nat.le_refl _) _).setCell (p := ⟨_, _, none⟩) (Nat.le_refl _) _).drew

/-- What Query answers where all was read. -/
def QryGood (w : World) (t : Tm) (ns : Nms) (e : Ending) (w' : World) : Prop :=
  ∃ v ad cap, e = .returned (.tuple #[tmv t ad cap, v, .int .i64 0, .int .i64 0]) ∧ OwnStrs w.heap.size w' v (nmB ns) ∧ TmB w.heap.size w' v t ad cap ∧ Below w.heap.size w w'

/-- As QPost, and all else is as it was. -/
def QAll (P Q : Nat) (t : Tm) (ns : Nms) (r : Nat) (W w' : World) : Prop := QPost P Q t ns r W w' ∧ ∀ b, b < W.heap.size → b ≠ r → b ≠ P → b ≠ Q → w'.heap[b]? = W.heap[b]?
theorem good_fin {w wc w9 : World} {r : Nat} {t : Tm} {ns : Nms} {v : Value} {ad : Option Addr} {cap : Nat} (ho : OwnStrs (r + 1) wc v (nmB ns)) (ht : TmB (r + 1) wc v t ad cap) (hr : w.heap.size ≤ r) (hk : ∀ b, r < b → w9.heap[b]? = wc.heap[b]?) : OwnStrs w.heap.size w9 v (nmB ns) ∧ TmB w.heap.size w9 v t ad cap :=
  ⟨(ho.kept (fun b hb _ => hk b (by have := (ho.lt b hb).1; omega))).up (fun g hg => by have := (ho.lt g hg).1; omega), TmP.kept ht (fun b hp _ => hk b hp.1) (fun b hp _ => ⟨by have := hp.1; omega, hp.2⟩)⟩

set_option maxRecDepth 100000 in
set_option maxHeartbeats 4000000 in
theorem query_ok (s : ByteArray) (w : World) (t : Tm) (ns : Nms)
    (hatt : Calls Tryz.prog 28 #[.string s, .func (.func 34) #[] #[.pointer (some ⟨w.heap.size + 1, 0, none⟩), .pointer (some ⟨w.heap.size + 2, 0, none⟩)]] (wqry w) fun e w' => e = .returned (.tuple #[.int .i64 0, .int .i64 0]) ∧ AttOk (wqry w) (QAll (w.heap.size + 1) (w.heap.size + 2) t ns) w') :
    Calls Tryz.prog 14 #[.string s] w fun e w' => QryGood w t ns e w' := by
  have hmf := made_func
  have HA := Lib.hid hatt
  have HW := Lib.hid (wqry_at w)
  have HB := Lib.hid (wqry_below w)
  have HS := Lib.hid (wqry_size w)
  clear hatt
  unfold wqry at HA HB HS HW
  go_enter Tryz.func14, Tryz.ntmps14
  go_upto_region 3 with fail
  generalize ((w.alloc (.cells #[.int .i64 0, .string ⟨#[]⟩, .int .i64 0, .slice none 0 0] 30)).alloc (.cells #[.int .i64 0, .string ⟨#[]⟩, .int .i64 0, .slice none 0 0] 30)).alloc (.cells #[.slice none 0 0] 31) = wq at *
  go_wp2_with fail
  refine HA.out.mono ?_; rintro e w1 ⟨rfl, r, W, wc, hr, hz, hbW, ⟨⟨⟨v, ad, cap, ho, ht, h1, h2⟩, hbel⟩, hkeep⟩, hw1⟩
  rw [HS.out] at hr hw1
  have k9 : ∀ b, b ≠ w.heap.size + 3 → b ≠ w.heap.size + 3 + 1 → w1.heap[b]? = wc.heap[b]? := fun b g1 g2 => by
    rw [hw1, Below.heap_setCell _ _ _ _ (show b ≠ w.heap.size + 3 + 1 from g2), Below.heap_setCell _ _ _ _ (show b ≠ w.heap.size + 3 from g1)]
  have h0 : w1.heap[w.heap.size]? = some (.cells #[.int .i64 0, .string ⟨#[]⟩, .int .i64 0, .slice none 0 0] 30 (0, 0)) := by
    rw [k9 _ (by omega) (by omega), hkeep _ (by omega) (by omega) (by omega) (by omega), hbW.block _ (by rw [HS.out]; omega)]
    exact HW.out.1
  have h1' := (k9 (w.heap.size + 1) (by omega) (by omega)).trans h1
  have h2' := (k9 (w.heap.size + 2) (by omega) (by omega)).trans h2
  have hbw : Below w.heap.size w w1 := by
    have hs9 : w.heap.size ≤ wq.heap.size := by rw [HS.out]; omega
    have hx := (HB.out.trans (hbW.mono hs9)).trans (hbel w.heap.size (by omega) (by omega) (by omega))
    rw [hw1]
    exact (hx.setCell (p := ⟨w.heap.size + 3, 0, none⟩) (show w.heap.size ≤ w.heap.size + 3 by omega) _).setCell (p := ⟨w.heap.size + 3 + 1, 0, none⟩) (show w.heap.size ≤ w.heap.size + 3 + 1 by omega) _
  have HBW := Lib.hid hbw
  have HFIN := Lib.hid (fun w9 h => good_fin (w := w) (w9 := w9) ho ht (by omega) h)
  have HK9 : Hid (∀ b, r < b → w1.heap[b]? = wc.heap[b]?) := Lib.hid (fun b hb => k9 b (by omega) (by omega))
  obtain ⟨adv, capv, rfl, _, _, _⟩ := ho.view
  obtain ⟨q0, q1, q2, q3, z0, z1, z2, z3⟩ := cellsR4 h0
  obtain ⟨d0, d1, d2, d3, _⟩ := cellsR4 h1'
  obtain ⟨x0, x1⟩ := cellsQ1 h2'
  clear h0 h1' h2' hw1 h1 h2 ho ht hbel hkeep hbW hbw k9 HW HA
  go_wp2_with fail
  go_region
  all_goals
    go_wp2_with fail
    refine bodyPost_ret (v := .tuple #[tmv t ad cap, .slice adv (nmB ns).length capv, .int .i64 0, .int .i64 0]) (by simp [results, Tryz.results14, go_sem, q0, q1, q2, q3, tmv]) rfl ?_
    refine ⟨_, ad, cap, rfl, (HFIN.out _ (fun b hb => ?_)).1, (HFIN.out _ (fun b hb => ?_)).2, ?_⟩
    · show (((((w1.setCell ⟨w.heap.size, 0, none⟩ _).setCell ⟨w.heap.size, 1, none⟩ _).setCell ⟨w.heap.size, 2, none⟩ _).setCell ⟨w.heap.size, 3, none⟩ _)).heap[b]? = _
      rw [Below.heap_setCell _ _ _ _ (show b ≠ w.heap.size by omega), Below.heap_setCell _ _ _ _ (show b ≠ w.heap.size by omega), Below.heap_setCell _ _ _ _ (show b ≠ w.heap.size by omega), Below.heap_setCell _ _ _ _ (show b ≠ w.heap.size by omega)]
      exact HK9.out b hb
    · show (((((w1.setCell ⟨w.heap.size, 0, none⟩ _).setCell ⟨w.heap.size, 1, none⟩ _).setCell ⟨w.heap.size, 2, none⟩ _).setCell ⟨w.heap.size, 3, none⟩ _)).heap[b]? = _
      rw [Below.heap_setCell _ _ _ _ (show b ≠ w.heap.size by omega), Below.heap_setCell _ _ _ _ (show b ≠ w.heap.size by omega), Below.heap_setCell _ _ _ _ (show b ≠ w.heap.size by omega), Below.heap_setCell _ _ _ _ (show b ≠ w.heap.size by omega)]
      exact HK9.out b hb
    · exact ((((HBW.out.setCell (p := ⟨_, _, none⟩) (Nat.le_refl _) _).setCell (p := ⟨_, _, none⟩) (Nat.le_refl _) _).setCell (p := ⟨_, _, none⟩) (Nat.le_refl _) _).setCell (p := ⟨_, _, none⟩) (Nat.le_refl _) _).drew

theorem enters29 (args : Array Value) (w : World) : (callFunc 29 args).run Tryz.prog w = .ok (.enter 29 args) w := by kernel_rfl
theorem enters34 (args : Array Value) (w : World) : (callFunc 34 args).run Tryz.prog w = .ok (.enter 34 args) w := by kernel_rfl
theorem tokRow_of {w : World} {g : Nat} : ∀ (l : List Tok) (o : Nat), (∀ j (hj : j < l.length), TokAt w g (o + j) l[j]) → TokRow w g (o * 4) l
  | [], o, _ => .nil _
  | t :: l, o, h => by
    have h0 := h 0 (Nat.zero_lt_succ _)
    rw [Nat.add_zero] at h0
    refine .cons _ t l h0.kind h0.text h0.n h0.pos ?_
    have := tokRow_of l (o + 1) (fun j hj => by have := h (j + 1) (Nat.succ_lt_succ hj); rw [show o + 1 + j = o + (j + 1) from by omega]; exact this)
    rwa [show (o + 1) * 4 = o * 4 + 4 from by omega] at this
theorem cut_row {src : List UInt8} {T : List Tok} (hl : src.length ≤ 4096) (hc : cutL src 0 false = .good T) (s : ByteArray) (hs : s.data.toList = src) (w : World) (hT : TabsT w) :
    Calls Tryz.prog 49 #[.string s] w fun e w' => CutRow w T e w' := by
  have hf := cut_fine hl hc
  refine (cut_good hl hc s hs w hT).mono ?_
  rintro e w' ⟨v, rfl, ho, hb⟩
  obtain ⟨ad, cap, rfl, h1, h2, h3⟩ := ho.view
  obtain ⟨g, rfl, hg, h0⟩ := h3 0 hf.pos
  have hlt : g < w'.heap.size := World.block_lt_of_cell? w' ⟨g, _, none⟩ h0.kind
  have hr := tokRow_of (w := w') (g := g) T 0 (fun j hj => by
    obtain ⟨g2, e, _, hat⟩ := h3 j hj
    injection e with e
    injection e with e _ _
    subst e
    rw [Nat.zero_add]; exact hat)
  rw [Nat.zero_mul] at hr
  exact ⟨g, 0, cap, rfl, hg, hlt, h1, h2, hr, hb⟩
theorem queryT_bad {T : List Tok} {o : Nat} {er : Int} (h : queryT T = .bad o er) : er = 60 ∨ er = 3 := by
  unfold queryT at h
  split at h
  · injection h with h1 h2; exact .inl h2.symm
  · injection h with h1 h2; exact .inr h2.symm
  · split at h
    · cases h
    · injection h with h1 h2; exact .inl h2.symm
/-- What Query answers. -/
def QueryOut (w : World) (x : Pr (Tm × Nms)) (e : Ending) (w' : World) : Prop :=
  match x with
  | .bad o er => e = .returned (.tuple #[zeroT, .slice none 0 0, .int .i64 (o : Nat), .int .i64 er]) ∧ Below w.heap.size w w'
  | .ok (t, ns) => QryGood w t ns e w'
theorem rd_Query (s : ByteArray) (w : World) (hT : TabsT w) :
    Calls Tryz.prog 14 #[.string s] w fun e w' => QueryOut w (queryL s.data.toList) e w' := by
  have hT' := hT.on (wqry_below w)
  unfold queryL cutThen
  by_cases hl : 4096 < s.data.toList.length
  · rw [if_pos hl]
    exact query_bad s w 0 2 (att_no _ s (wqry w) 0 2 (by decide) (fun W hb => cut_long hl s rfl W (hT'.on hb)))
  rw [if_neg hl]
  have hl' : s.data.toList.length ≤ 4096 := by omega
  cases hc : cutL s.data.toList 0 false with
  | bad o => exact query_bad s w (o : Nat) 50 (att_no _ s (wqry w) (o : Nat) 50 (by decide) (fun W hb => cut_refused hl' hc s rfl W (hT'.on hb)))
  | good T =>
    have hf := cut_fine hl' hc
    have hm : T.length ≤ 10000 := by have := cut_many hc; omega
    have hat := wqry_at w
    have hsz := wqry_size w
    have key : ∀ W r, (wqry w).heap.size + 2 ≤ r → W.heap.size = r + 1 → Below (wqry w).heap.size (wqry w) W → RMem W r (.slice none 0 0) T [] → Calls Tryz.prog 34 (#[.pointer (some ⟨r, 0, none⟩)] ++ #[.pointer (some ⟨w.heap.size + 1, 0, none⟩), .pointer (some ⟨w.heap.size + 2, 0, none⟩)]) W fun e w' => Q1Out (w.heap.size + 1) (w.heap.size + 2) r W (queryT T) e w' := fun W r h1 h2 h3 h4 =>
      rd_Query1 T W r (w.heap.size + 1) (w.heap.size + 2) _ _ _ _ _ hm hf (by omega) (by omega) (by omega) h2 (keptR h3 hat.2.1) (keptR h3 hat.2.2) h4 (fun W' hb => (hT'.on (h3.trans (hb.mono (by omega)))).1)
    show Calls Tryz.prog 14 #[.string s] w fun e w' => QueryOut w (queryT T) e w'
    cases hq : queryT T with
    | bad o er =>
      rw [hq] at key
      rcases queryT_bad hq with rfl | rfl
      · exact query_bad s w (o : Nat) 60 (att_misp _ enters34 _ s (wqry w) T o (fun W hb => cut_row hl' hc s rfl W (hT'.on hb)) (fun W r h1 h2 h3 h4 => key W r h1 h2 h3 h4))
      · exact query_bad s w (o : Nat) 3 (att_deep _ enters34 _ s (wqry w) T o (fun W hb => cut_row hl' hc s rfl W (hT'.on hb)) (fun W r h1 h2 h3 h4 => key W r h1 h2 h3 h4))
    | ok y =>
      obtain ⟨t, ns⟩ := y
      rw [hq] at key
      refine query_ok s w t ns (att_ok _ enters34 _ s (wqry w) T _ (fun W hb => cut_row hl' hc s rfl W (hT'.on hb)) (fun W r h1 h2 h3 h4 => (key W r h1 h2 h3 h4).mono ?_))
      rintro e w' ⟨rfl, hp, hk⟩
      exact ⟨rfl, ⟨hp, hk⟩, fun b hb1 hb2 => hk b (by omega) (by omega) (by omega) (by omega)⟩
end Go.Proofs.YtlbdocdjijhkbaaGreatDoor

/-
  The contract of package read's own program.
-/
namespace Go.Proofs.YtlbdocdjijhkbaaGreatDoor
open Go.RowKit
attribute [-go_sem] sliced

/-- What program leaves. -/
def PrgOut (r : Nat) (w : World) (x : Pr (List Tm)) (e : Ending) (w' : World) : Prop :=
  match x with
  | .bad o er => e = endP o er ∧ Below r w w'
  | .ok l => ∃ ad cap, e = .returned (.slice ad l.length cap) ∧ l.length ≤ cap ∧ cap ≤ maxLen ∧ TArgsP w' (fun b => w.heap.size ≤ b) ad l ∧ Below r w w' ∧ ∀ b, b < w.heap.size → b ≠ r → w'.heap[b]? = w.heap[b]?
theorem WGo.rgo {r : Nat} {w w' : World} {v' : Value} (h : WGo r w v' w') : RGo r (.slice none 0 0) w (.slice none 0 0) w' := ⟨h.below, fun b h1 h2 _ => h.keep b h1 h2, .inl rfl⟩
theorem SevMem.bare {B : Nat} {w : World} {lv v : Value} {l : List Tm} (h : SevMem B w lv v l) : SevMem B w lv (.slice none 0 0) l := by
  obtain ⟨xs, h1, h2⟩ := h.ex
  exact ⟨⟨xs, h1, h2.kept (fun _ _ _ => rfl) (fun b hp _ => ⟨hp.1, hp.2.1, by intro e; cases e⟩)⟩, fun k _ => by intro e; cases e⟩
theorem SevMem.nil (B : Nat) (w : World) : SevMem B w (.slice none 0 0) (.slice none 0 0) [] :=
  ⟨⟨[], World.ownsRow_nil _ _ _ _, .nil⟩, fun k hk => by cases hk⟩
theorem TmB.bare {B : Nat} {w : World} {v : Value} {t : Tm} {ad : Option Addr} {cap : Nat} (h : TmB B w v t ad cap) : TmB B w (.slice none 0 0) t ad cap :=
  TmP.kept h (fun _ _ _ => rfl) (fun b hp _ => ⟨hp.1, by intro e; cases e⟩)
theorem progGo_bad9 {f : Nat} {l : List Tm} {ts : List Tok} (h : (fstT ts).kind = 9) : progGo (f + 1) l ts = .ok l := by
  unfold progGo; rw [if_pos h]

set_option maxRecDepth 100000 in
set_option maxHeartbeats 8000000 in
theorem rd_program (ts : List Tok) (ns : Nms) (w : World) (r : Nat) (v : Value) (hm : ts.length ≤ 10000) (hf : Fine ts) (h : RMem w r v ts ns) (hT : ∀ W', Below r w W' → Tabs W') :
    Calls Tryz.prog 30 #[.pointer (some ⟨r, 0, none⟩)] w fun e w' => PrgOut r w (progT ts) e w' := by
  have hlt := h.lt
  have f0 := tok_field0
  have HM0 := Lib.hid h
  have HF0 := Lib.hid hf
  have HTT := Lib.hid hT
  obtain ⟨i0, hi, hz0, hz1, hz2⟩ := info_partsR infoTermR
  obtain ⟨E, hE⟩ : ∃ E, progT ts = E := ⟨_, rfl⟩
  rw [hE]
  unfold progT at hE
  have HE := Lib.hid hE
  clear h hf hT hE
  go_enter Tryz.func30, Tryz.ntmps30
  go_wp2_with fail
  go_loopw [3] (fun lv wr => ∃ (f : Nat) (l : List Tm) (tk : List Tok) (nk : Nms) (vk : Value), tk.length ≤ f ∧ Fine tk ∧ tk.length + l.length ≤ ts.length ∧ Hid (progGo f l tk = E) ∧ RMem wr r vk tk nk ∧ RGo r (.slice none 0 0) w (.slice none 0 0) wr ∧ SevMem w.heap.size wr lv (.slice none 0 0) l) (fun _ wr => tokLen wr r)
  case atStart => exact ⟨ts.length, [], ts, ns, v, Nat.le_refl _, HF0.out, by simp, HE, HM0.out, RGo.refl _ _ _, SevMem.nil _ _⟩
  case round =>
    obtain ⟨f, l, tk, nk, vk, hfl, hfk, hlen, HK, hmk, hgk, hsk⟩ := hrel
    have HF := Lib.hid (fun W (hm : RMem W r vk tk nk) => rd_first W r vk tk nk hm hfk.pos)
    have HW := Lib.hid (fun W (hm : RMem W r vk tk nk) hT => rd_whole true tk nk W r vk (by omega) hfk hm hT)
    have HWL := Lib.hid (fun t ts' ns h => wholeR_left (must := true) hfk (t := t) (ts' := ts') (ns := ns) h)
    unfold tokv at HF
    have hfp := hfk.pos
    obtain ⟨f', rfl⟩ : ∃ f', f = f' + 1 := ⟨f - 1, by omega⟩
    have hk := HK.out
    unfold progGo at hk
    have HTL := Lib.hid hmk.tokLen
    have HS := Lib.hid hsk
    have HG := Lib.hid hgk
    have HM := Lib.hid hmk
    have hws := hgk.below.size
    obtain ⟨ad0, cap0, rfl, _, _, _⟩ := hsk.slice
    by_cases c9 : (fstT tk).kind = 9
    · have hb9 : ((fstT tk).kind == 9) = true := by rw [c9]; rfl
      rw [if_pos c9] at hk
      have HK2 := Lib.hid hk
      clear hmk hgk hsk hfk HK hk c9 HW HWL
      generalize fstT tk = t1 at *
      go_wp2_with fail
      refine (HF.out _ HM.out).mono ?_; rintro e w3 ⟨rfl, hb3⟩
      obtain ⟨ad, cap, e2, h1, h2, h3⟩ := HS.out.slice
      injection e2 with e2 e3 e4
      subst e2 e4
      have H3 : Hid (TArgsP w3 (fun b => w.heap.size ≤ b) ad0 l) := Lib.hid (TArgsP.kept h3 (fun b _ hb => hb3.block b hb) (fun b hp _ => hp.1))
      have HG3 := Lib.hid (HG.out.trans (RGo.of_below (r := r) (v := .slice none 0 0) hb3 (Nat.le_of_lt HM.out.lt)))
      clear hb3 h3
      go_wp2_with fail
      go_ret
      rw [← HK2.out]
      exact ⟨ad0, cap0, rfl, h1, h2, H3.out, HG3.out.below, fun b hb hr => HG3.out.keep b hb hr (by intro e; cases e)⟩
    · have hb9 : ((fstT tk).kind == 9) = false := by simpa using c9
      rw [if_neg c9] at hk
      cases hx : wholeR true tk with
      | syn o =>
        rw [hx] at hk HW
        dsimp only at hk
        have HK2 := Lib.hid hk
        clear hmk hgk hsk hfk HK hk c9 HWL hx
        generalize fstT tk = t1 at *
        go_wp2_with fail
        refine (HF.out _ HM.out).mono ?_; rintro e w3 ⟨rfl, hb3⟩
        have HM3 := Lib.hid (HM.out.below hb3)
        have HG3 := Lib.hid (HG.out.trans (RGo.of_below (r := r) (v := .slice none 0 0) hb3 (Nat.le_of_lt HM.out.lt)))
        clear hb3
        go_wp2_with fail
        refine (HW.out _ HM3.out (fun W' hb => HTT.out _ (HG3.out.below.trans hb))).mono ?_; rintro e w4 ⟨rfl, hb4⟩
        refine ⟨rfl, ?_⟩
        rw [← HK2.out]
        exact ⟨rfl, HG3.out.below.trans hb4⟩
      | deep o =>
        rw [hx] at hk HW
        dsimp only at hk
        have HK2 := Lib.hid hk
        clear hmk hgk hsk hfk HK hk c9 HWL hx
        generalize fstT tk = t1 at *
        go_wp2_with fail
        refine (HF.out _ HM.out).mono ?_; rintro e w3 ⟨rfl, hb3⟩
        have HM3 := Lib.hid (HM.out.below hb3)
        have HG3 := Lib.hid (HG.out.trans (RGo.of_below (r := r) (v := .slice none 0 0) hb3 (Nat.le_of_lt HM.out.lt)))
        clear hb3
        go_wp2_with fail
        refine (HW.out _ HM3.out (fun W' hb => HTT.out _ (HG3.out.below.trans hb))).mono ?_; rintro e w4 ⟨rfl, hb4⟩
        refine ⟨rfl, ?_⟩
        rw [← HK2.out]
        exact ⟨rfl, HG3.out.below.trans hb4⟩
      | ok t2 ts2 ns2 =>
        obtain ⟨b1, b2, _, _⟩ := HWL.out _ _ _ hx
        have HB1 := Lib.hid b1
        rw [hx] at hk HW
        dsimp only at hk
        have HK2 := Lib.hid hk
        have htp := t2.size_pos
        clear hmk hgk hsk hfk HK hk c9 HWL hx b1
        generalize fstT tk = t1 at *
        go_wp2_with fail
        refine (HF.out _ HM.out).mono ?_; rintro e w3 ⟨rfl, hb3⟩
        have HM3 := Lib.hid (HM.out.below hb3)
        have HS3 := Lib.hid (HS.out.go hlt (RGo.of_below (r := r) (v := .slice none 0 0) hb3 (Nat.le_of_lt HM.out.lt)))
        have HG3 := Lib.hid (HG.out.trans (RGo.of_below (r := r) (v := .slice none 0 0) hb3 (Nat.le_of_lt HM.out.lt)))
        clear hb3
        go_wp2_with fail
        refine (HW.out _ HM3.out (fun W' hb => HTT.out _ (HG3.out.below.trans hb))).mono ?_; rintro e w4 ⟨v4, ad4, cap4, rfl, hm4, hg4, ht4⟩
        have hs4 := HS3.out.go hlt hg4.rgo
        obtain ⟨xs, hox, hrow⟩ := hs4.ex
        have hne4 := hs4.ne
        have hlt4 := hox.lt
        have hs3s := HG3.out.below.size
        have HVN := Lib.hid (fun k hk => fun e => own_ne hg4.own (show k < w3.heap.size from ((HS3.out.ex.choose_spec.1).lt k hk).2) e)
        have hlv3 := fun k hk => ((HS3.out.ex.choose_spec.1).lt k hk).2
        have HM4 := Lib.hid hm4
        have HG4 := Lib.hid (HG3.out.trans hg4.rgo)
        have hs4s := hg4.below.size
        have HT4 := Lib.hid ht4.bare
        have HROW := Lib.hid hrow
        have HNE := Lib.hid hne4
        have HLT := Lib.hid hlt4
        have HL3 := Lib.hid hlv3
        clear hm4 hg4 ht4 hs4 hrow hne4 hlt4 hlv3
        unfold tmv
        go_wp2_with (first
          | (at_builtin; refine wpList_append_lies _ rfl _ _ 23 rfl w.heap.size 30 i0 (.agg #[.int .i64 0, .string ⟨#[]⟩, .int .i64 0, .slice none 0 0]) 4 56 Tryz.underlying23 hi hz0 hz1 hz2 rfl (by decide) _ _ _ rfl (hox.alloc _) ⟨w4.heap.size, 0, none⟩ 1 1 (tcells t2 ad4 cap4) rfl rfl ?c1 ?c2 (by decide) ?c3 ?c4 ?c5 _ rfl ?_))
        case c1 =>
          intro j u hj
          match j, hj with
          | 0, hj => simp [tcells] at hj; subst hj; simp [Addr.add]
          | 1, hj => simp [tcells] at hj; subst hj; simp [Addr.add]
          | 2, hj => simp [tcells] at hj; subst hj; simp [Addr.add]
          | 3, hj => simp [tcells] at hj; subst hj; simp [Addr.add]
        case c2 => intro u hu; simp [tcells] at hu; rcases hu with rfl | rfl | rfl | rfl <;> rfl
        case c3 => unfold maxLen; omega
        case c4 => omega
        case c5 => simp; omega
        intro g5 cap5 w5 hown5 hgrow hat hlt5
        have hm5 := (HM4.out.below ((Below.refl _ w4).alloc (Nat.le_refl _) (.cells #[.int .i64 t2.kind, .string t2.name, .int .i64 t2.n, .slice ad4 t2.args.length cap4] 30))).grown hgrow (fun k hk => by have := (HLT.out k hk).1; omega) (fun k hk => HVN.out k hk)
        have hg5 := (HG4.out.alloc hlt (.cells #[.int .i64 t2.kind, .string t2.name, .int .i64 t2.n, .slice ad4 t2.args.length cap4] 30)).grown hgrow hlt (fun k hk => (HLT.out k hk).1)
        have hs5 : SevMem w.heap.size w5 (.slice (some ⟨g5, 0, none⟩) (l.length + 1) cap5) (.slice none 0 0) (l ++ [t2]) := by
          refine SevMem.snoc (B2 := w3.heap.size) hs3s (fun k hk => HNE.out k hk) (fun k hk => by cases hk) (fun k hk => HL3.out k hk) (HROW.out.kept (fun b _ hb => Below.heap_alloc _ _ _ hb) (fun b hp _ => hp)) (HT4.out.below ((Below.refl _ w4).alloc (Nat.le_refl _) _)) hown5 hgrow ?_
          rcases hat with e | e
          · exact .inl e.symm
          · exact .inr ⟨g5, rfl, by rw [World.size_alloc]; omega⟩
        have HM5 := Lib.hid hm5
        have HG5 := Lib.hid hg5
        have HS5 := Lib.hid hs5
        clear hm5 hg5 hs5 hown5 hgrow hat hox
        go_wp2
        go_roundw
        case rel => exact ⟨f', l ++ [t2], ts2, ns2, v4, by omega, HB1.out, by rw [List.length_append, List.length_singleton]; omega, HK2, HM5.out, HG5.out, HS5.out⟩
        case measure =>
          rw [HM5.out.tokLen, HTL.out]
          omega
end Go.Proofs.YtlbdocdjijhkbaaGreatDoor

/-
  The contracts of package read's own Program and of what it hands to attempt.
-/
namespace Go.Proofs.YtlbdocdjijhkbaaGreatDoor
open Go.RowKit

/-- What stands in the variable that Program$1 lays. -/
def PPost (P : Nat) (l : List Tm) (r : Nat) (W w' : World) : Prop :=
  ∃ ad cap, l.length ≤ cap ∧ cap ≤ maxLen ∧ TArgsP w' (fun b => r + 1 ≤ b) ad l ∧ w'.heap[P]? = some (.cells #[.slice ad l.length cap] 23 (0, 0)) ∧ (∀ N, N ≤ P → N ≤ r → Below N W w') ∧ ∀ b, b < W.heap.size → b ≠ r → b ≠ P → w'.heap[b]? = W.heap[b]?
def P1Out (P r : Nat) (W : World) (x : Pr (List Tm)) (e : Ending) (w' : World) : Prop :=
  match x with
  | .bad o er => e = endP o er ∧ Below r W w'
  | .ok l => e = .returned (.tuple #[]) ∧ PPost P l r W w'
theorem p1_fin {P r : Nat} {W w1 : World} {x : Value} {l : List Tm} {ad : Option Addr} {cap : Nat} (hP : P < r) (hz : W.heap.size = r + 1) (hp : w1.heap[P]? = some (.cells #[x] 23 (0, 0))) (h1 : l.length ≤ cap) (h2 : cap ≤ maxLen) (h3 : TArgsP w1 (fun b => W.heap.size ≤ b) ad l) (hb : Below r W w1) (hk : ∀ b, b < W.heap.size → b ≠ r → w1.heap[b]? = W.heap[b]?) :
    PPost P l r W (w1.setCell ⟨P, 0, none⟩ (.slice ad l.length cap)) := by
  refine ⟨ad, cap, h1, h2, TArgsP.kept h3 (fun b hb2 _ => Below.heap_setCell _ _ _ _ (show b ≠ P by omega)) (fun b hb2 _ => by omega), ?_, fun N g1 g2 => (hb.mono g2).setCell (p := ⟨P, 0, none⟩) g1 _, fun b g1 g2 g3 => (Below.heap_setCell _ _ _ _ g3).trans (hk b g1 g2)⟩
  have := Lib.heap_setCell_same (i := 0) hp (.slice ad l.length cap)
  simpa using this

set_option maxRecDepth 100000 in
set_option maxHeartbeats 4000000 in
theorem rd_Program1 (T : List Tok) (W : World) (r P : Nat) (x : Value) (hm : T.length ≤ 10000) (hf : Fine T) (hP : P < r) (hz : W.heap.size = r + 1)
    (hp : W.heap[P]? = some (.cells #[x] 23 (0, 0))) (h : RMem W r (.slice none 0 0) T []) (hT : ∀ W', Below r W W' → Tabs W') :
    Calls Tryz.prog 29 #[.pointer (some ⟨r, 0, none⟩), .pointer (some ⟨P, 0, none⟩)] W fun e w' => P1Out P r W (progT T) e w' := by
  have HQ := Lib.hid (rd_program T [] W r _ hm hf h hT)
  have HP := Lib.hid hp
  clear h hT hp hf
  cases hx : progT T with
  | bad o er =>
    rw [hx] at HQ
    clear hx
    go_enter Tryz.func29, Tryz.ntmps29
    go_wp2_with fail
    refine HQ.out.mono ?_; rintro e w1 ⟨he, hb⟩
    rcases end_is o er with hE | hE <;> (rw [hE] at he; subst he; exact ⟨rfl, hE.symm, hb⟩)
  | ok l =>
    rw [hx] at HQ
    clear hx
    go_enter Tryz.func29, Tryz.ntmps29
    go_wp2_with fail
    refine HQ.out.mono ?_; rintro e w1 ⟨ad, cap, rfl, h1, h2, h3, hb, hk⟩
    have HP1 := Lib.hid ((hk P (by omega) (by omega)).trans HP.out)
    have HF := Lib.hid (p1_fin hP hz HP1.out h1 h2 h3 hb hk)
    obtain ⟨k0, k1⟩ := cellsQ1 HP1.out
    clear h3 hb hk
    go_wp2_with fail
    go_end0
    exact ⟨rfl, HF.out⟩

/-- Where Program hands over to attempt. -/
def wprg (w : World) : World := w.alloc (.cells #[.slice none 0 0] 23)
theorem wprg_size (w : World) : (wprg w).heap.size = w.heap.size + 1 := by unfold wprg; rw [World.size_alloc]
theorem wprg_below (w : World) : Below w.heap.size w (wprg w) := (Below.refl _ w).alloc (Nat.le_refl _) _
theorem wprg_at (w : World) : (wprg w).heap[w.heap.size]? = some (.cells #[.slice none 0 0] 23 (0, 0)) := newR w _

set_option maxRecDepth 100000 in
set_option maxHeartbeats 4000000 in
theorem program_bad (s : ByteArray) (w : World) (p er : Int)
    (hatt : Calls Tryz.prog 28 #[.string s, .func (.func 29) #[] #[.pointer (some ⟨w.heap.size, 0, none⟩)]] (wprg w) fun e w' => e = .returned (.tuple #[.int .i64 p, .int .i64 er]) ∧ Below (wprg w).heap.size (wprg w) w') :
    Calls Tryz.prog 11 #[.string s] w fun e w' => e = .returned (.tuple #[.slice none 0 0, .int .i64 p, .int .i64 er]) ∧ Below w.heap.size w w' := by
  have hmf := made_func
  have HA := Lib.hid hatt
  have HW := Lib.hid (wprg_at w)
  have HB := Lib.hid (wprg_below w)
  clear hatt
  unfold wprg at HA HW HB
  go_enter Tryz.func11, Tryz.ntmps11
  go_upto_region 2 with fail
  generalize w.alloc (.cells #[.slice none 0 0] 23) = wq at *
  go_wp2_with fail
  refine HA.out.mono ?_; rintro e w1 ⟨rfl, hb⟩
  obtain ⟨k0, k1⟩ := cellsQ1 (keptR hb HW.out)
  have HB1 := Lib.hid (HB.out.trans (hb.mono HB.out.size))
  clear hb
  go_wp2_with fail
  refine bodyPost_ret (v := .tuple #[.slice none 0 0, .int .i64 p, .int .i64 er]) (by simp [results, Tryz.results11, go_sem]) rfl ⟨rfl, HB1.out⟩

/-- What Program answers where all was read. -/
def PrgGood (w : World) (l : List Tm) (e : Ending) (w' : World) : Prop :=
  ∃ ad cap, e = .returned (.tuple #[.slice ad l.length cap, .int .i64 0, .int .i64 0]) ∧ l.length ≤ cap ∧ cap ≤ maxLen ∧ TArgsP w' (fun b => w.heap.size ≤ b) ad l ∧ Below w.heap.size w w'

set_option maxRecDepth 100000 in
set_option maxHeartbeats 4000000 in
theorem program_ok (s : ByteArray) (w : World) (l : List Tm)
    (hatt : Calls Tryz.prog 28 #[.string s, .func (.func 29) #[] #[.pointer (some ⟨w.heap.size, 0, none⟩)]] (wprg w) fun e w' => e = .returned (.tuple #[.int .i64 0, .int .i64 0]) ∧ AttOk (wprg w) (PPost w.heap.size l) w') :
    Calls Tryz.prog 11 #[.string s] w fun e w' => PrgGood w l e w' := by
  have hmf := made_func
  have HA := Lib.hid hatt
  have HB := Lib.hid (wprg_below w)
  have HS := Lib.hid (wprg_size w)
  clear hatt
  unfold wprg at HA HB HS
  go_enter Tryz.func11, Tryz.ntmps11
  go_upto_region 2 with fail
  generalize w.alloc (.cells #[.slice none 0 0] 23) = wq at *
  go_wp2_with fail
  refine HA.out.mono ?_; rintro e w1 ⟨rfl, r, W, wc, hr, hz, hbW, ⟨ad, cap, h1, h2, h3, h4, hbel, hkeep⟩, hw1⟩
  rw [HS.out] at hr hw1
  have k9 : ∀ b, b ≠ w.heap.size + 1 → b ≠ w.heap.size + 1 + 1 → w1.heap[b]? = wc.heap[b]? := fun b g1 g2 => by
    rw [hw1, Below.heap_setCell _ _ _ _ (show b ≠ w.heap.size + 1 + 1 from g2), Below.heap_setCell _ _ _ _ (show b ≠ w.heap.size + 1 from g1)]
  have hbw : Below w.heap.size w w1 := by
    have hs9 : w.heap.size ≤ wq.heap.size := by rw [HS.out]; omega
    have hx := (HB.out.trans (hbW.mono hs9)).trans (hbel w.heap.size (Nat.le_refl _) (by omega))
    rw [hw1]
    exact (hx.setCell (p := ⟨w.heap.size + 1, 0, none⟩) (show w.heap.size ≤ w.heap.size + 1 by omega) _).setCell (p := ⟨w.heap.size + 1 + 1, 0, none⟩) (show w.heap.size ≤ w.heap.size + 1 + 1 by omega) _
  have HR : Hid (PrgGood w l (.returned (.tuple #[.slice ad l.length cap, .int .i64 0, .int .i64 0])) w1) := Lib.hid ⟨ad, cap, rfl, h1, h2, TArgsP.kept h3 (fun b hb _ => k9 b (by omega) (by omega)) (fun b hb _ => by omega), hbw⟩
  obtain ⟨k0, k1⟩ := cellsQ1 ((k9 w.heap.size (by omega) (by omega)).trans h4)
  clear h3 h4 hbel hkeep hbW hw1 k9 hbw HA
  go_wp2_with fail
  exact bodyPost_ret (v := .tuple #[.slice ad l.length cap, .int .i64 0, .int .i64 0]) (by simp [results, Tryz.results11, go_sem]) rfl HR.out

/-- What Program answers. -/
def ProgramOut (w : World) (x : Pr (List Tm)) (e : Ending) (w' : World) : Prop :=
  match x with
  | .bad o er => e = .returned (.tuple #[.slice none 0 0, .int .i64 (o : Nat), .int .i64 er]) ∧ Below w.heap.size w w'
  | .ok l => PrgGood w l e w'
theorem progT_bad {T : List Tok} {f : Nat} {l : List Tm} {o : Nat} {er : Int} (h : progGo f l T = .bad o er) : er = 60 ∨ er = 3 := by
  induction f generalizing l T with
  | zero => cases h
  | succ f ih =>
    unfold progGo at h
    split at h
    · cases h
    split at h
    · injection h with h1 h2; exact .inl h2.symm
    · injection h with h1 h2; exact .inr h2.symm
    · exact ih h
theorem rd_Program (s : ByteArray) (w : World) (hT : TabsT w) :
    Calls Tryz.prog 11 #[.string s] w fun e w' => ProgramOut w (progL s.data.toList) e w' := by
  have hT' := hT.on (wprg_below w)
  unfold progL cutThen
  by_cases hl : 4096 < s.data.toList.length
  · rw [if_pos hl]
    exact program_bad s w 0 2 (att_no _ s (wprg w) 0 2 (by decide) (fun W hb => cut_long hl s rfl W (hT'.on hb)))
  rw [if_neg hl]
  have hl' : s.data.toList.length ≤ 4096 := by omega
  cases hc : cutL s.data.toList 0 false with
  | bad o => exact program_bad s w (o : Nat) 50 (att_no _ s (wprg w) (o : Nat) 50 (by decide) (fun W hb => cut_refused hl' hc s rfl W (hT'.on hb)))
  | good T =>
    have hf := cut_fine hl' hc
    have hm : T.length ≤ 10000 := by have := cut_many hc; omega
    have hat := wprg_at w
    have hsz := wprg_size w
    have key : ∀ W r, (wprg w).heap.size + 2 ≤ r → W.heap.size = r + 1 → Below (wprg w).heap.size (wprg w) W → RMem W r (.slice none 0 0) T [] → Calls Tryz.prog 29 (#[.pointer (some ⟨r, 0, none⟩)] ++ #[.pointer (some ⟨w.heap.size, 0, none⟩)]) W fun e w' => P1Out w.heap.size r W (progT T) e w' := fun W r h1 h2 h3 h4 =>
      rd_Program1 T W r w.heap.size _ hm hf (by omega) h2 (keptR h3 hat) h4 (fun W' hb => (hT'.on (h3.trans (hb.mono (by omega)))).1)
    show Calls Tryz.prog 11 #[.string s] w fun e w' => ProgramOut w (progT T) e w'
    cases hq : progT T with
    | bad o er =>
      rw [hq] at key
      rcases progT_bad hq with rfl | rfl
      · exact program_bad s w (o : Nat) 60 (att_misp _ enters29 _ s (wprg w) T o (fun W hb => cut_row hl' hc s rfl W (hT'.on hb)) (fun W r h1 h2 h3 h4 => key W r h1 h2 h3 h4))
      · exact program_bad s w (o : Nat) 3 (att_deep _ enters29 _ s (wprg w) T o (fun W hb => cut_row hl' hc s rfl W (hT'.on hb)) (fun W r h1 h2 h3 h4 => key W r h1 h2 h3 h4))
    | ok l =>
      rw [hq] at key
      refine program_ok s w l (att_ok _ enters29 _ s (wprg w) T _ (fun W hb => cut_row hl' hc s rfl W (hT'.on hb)) (fun W r h1 h2 h3 h4 => (key W r h1 h2 h3 h4).mono ?_))
      rintro e w' ⟨rfl, hp⟩
      exact ⟨rfl, hp, fun b hb1 hb2 => hp.choose_spec.choose_spec.2.2.2.2.2 b (by omega) (by omega) (by omega)⟩
end Go.Proofs.YtlbdocdjijhkbaaGreatDoor

/-
  The contracts of the document's own SameAll and of the laws' helper live for read: the chapter's examples.
-/
namespace Go.Proofs.YtlbdocdjijhkbaaGreatDoor
open Go.RowKit

theorem ex_rd1 : progL [97, 32, 58, 45, 32, 98, 44, 32, 99, 46] = .ok [compT [58, 45] [atomT [97], compT [44] [atomT [98], atomT [99]]]] := by kernel_rfl
theorem ex_rd2 : queryL [88, 32, 61, 32, 45, 49] = .ok (compT [61] [varT 0, intT (-1)], [[88]]) := by kernel_rfl
theorem ex_rd3 : queryL [45, 32, 61, 32, 120] = .ok (compT [61] [atomT [45], atomT [120]], []) := by kernel_rfl
theorem ex_rd4 : queryL [102, 40, 58, 45, 32, 97, 41] = .bad 2 60 := by kernel_rfl

set_option maxRecDepth 100000 in
set_option maxHeartbeats 2000000 in
theorem ref_SameAll (l m : List Tm) (ad bd : Option Addr) (ca cb : Nat) (w : World) (hs : Tm.sizes l ≤ 100000) (hl : l.length ≤ ca) (hc : ca ≤ maxLen) (hm : m.length ≤ cb) (hd : cb ≤ maxLen) (h : TArgs w ad l) (k : TArgs w bd m) :
    Calls Tryz.prog 13 #[.slice ad l.length ca, .slice bd m.length cb] w fun e w' => e = .returned (.bool ((Tm.mk 0 ⟨#[]⟩ 0 l).same (Tm.mk 0 ⟨#[]⟩ 0 m))) ∧ Below w.heap.size w w' := by
  have HS := Lib.hid (ref_Same 100001 (.mk 0 ⟨#[]⟩ 0 l) (.mk 0 ⟨#[]⟩ 0 m) ad bd ca cb w (by rw [show (Tm.mk 0 ⟨#[]⟩ 0 l).size = 1 + Tm.sizes l from rfl]; omega) (by rw [show (Tm.mk 0 ⟨#[]⟩ 0 l).size = 1 + Tm.sizes l from rfl]; omega) ⟨in64R (x := 0) (by decide) (by decide), in64R (x := 0) (by decide) (by decide), (by decide : (⟨#[]⟩ : ByteArray).size ≤ maxLen), hl, hc, h⟩ ⟨in64R (x := 0) (by decide) (by decide), in64R (x := 0) (by decide) (by decide), (by decide : (⟨#[]⟩ : ByteArray).size ≤ maxLen), hm, hd, k⟩)
  unfold tmv at HS
  clear h k
  go_enter Tryz.func13, Tryz.ntmps13
  go_wp2_with fail
  refine HS.out.mono ?_; rintro e w' ⟨rfl, hb⟩
  go_wp2_with fail
  go_ret
  exact ⟨rfl, hb⟩

theorem row1L {w : World} {A : Tm} {ad : Option Addr} {ca : Nat} (hA : TmIn w A ad ca) (C : Array Value) (hC : C = (tcells A ad ca).toArray) : TArgs (w.alloc (.cells C 30)) (some ⟨w.heap.size, 0, none⟩) [A] := by
  subst hC
  have h1 := hA.args.on ((Below.refl _ w).alloc (Nat.le_refl _) (.cells (tcells A ad ca).toArray 30))
  rw [A.eta]
  exact .cons _ _ _ _ _ _ _ ad ca (World.cell?_alloc_at _ _ _ _ rfl) (World.cell?_alloc_at _ _ _ _ rfl) (World.cell?_alloc_at _ _ _ _ rfl) (World.cell?_alloc_at _ _ _ _ rfl) hA.kind hA.n hA.name hA.len hA.cap h1 (.nil _)
theorem row2L {w : World} {A B : Tm} {ad bd : Option Addr} {ca cb : Nat} (hA : TmIn w A ad ca) (hB : TmIn w B bd cb) (C : Array Value) (hC : C = (tcells A ad ca ++ tcells B bd cb).toArray) : TArgs (w.alloc (.cells C 30)) (some ⟨w.heap.size, 0, none⟩) [A, B] := by
  subst hC
  have h1 := hA.args.on ((Below.refl _ w).alloc (Nat.le_refl _) (.cells (tcells A ad ca ++ tcells B bd cb).toArray 30))
  have h2 := hB.args.on ((Below.refl _ w).alloc (Nat.le_refl _) (.cells (tcells A ad ca ++ tcells B bd cb).toArray 30))
  rw [A.eta, B.eta]
  exact .cons _ _ _ _ _ _ _ ad ca (World.cell?_alloc_at _ _ _ _ rfl) (World.cell?_alloc_at _ _ _ _ rfl) (World.cell?_alloc_at _ _ _ _ rfl) (World.cell?_alloc_at _ _ _ _ rfl) hA.kind hA.n hA.name hA.len hA.cap h1
    (.cons _ _ _ _ _ _ _ bd cb (World.cell?_alloc_at _ _ _ _ rfl) (World.cell?_alloc_at _ _ _ _ rfl) (World.cell?_alloc_at _ _ _ _ rfl) (World.cell?_alloc_at _ _ _ _ rfl) hB.kind hB.n hB.name hB.len hB.cap h2 (.nil _))
theorem leafI (w : World) {k n : Int} {s : ByteArray} (hk : In64 k) (hn : In64 n) (hs : s.size ≤ maxLen) : TmIn w (.mk k s n []) none 0 := ⟨hk, hn, hs, Nat.le_refl _, Nat.zero_le _, .nil _⟩
theorem atomI (w : World) (b : UInt8) : TmIn w (atomT [b]) none 0 := leafI w (in64R (by decide) (by decide)) (in64R (by decide) (by decide)) (by show 1 ≤ maxLen; unfold maxLen; decide)
theorem compI {w : World} {s : List UInt8} {ad : Option Addr} {cap : Nat} {l : List Tm} (hs : s.length ≤ 10000) (hl : l.length ≤ cap) (hc : cap ≤ maxLen) (h : TArgs w ad l) : TmIn w (compT s l) ad cap :=
  ⟨in64R (x := 4) (by decide) (by decide), in64R (x := 0) (by decide) (by decide), by show (⟨s.toArray⟩ : ByteArray).size ≤ maxLen; rw [show (⟨s.toArray⟩ : ByteArray).size = s.length from by show s.toArray.size = _; simp]; unfold maxLen; omega, hl, hc, h⟩
def lvL : List Tm := [compT [58, 45] [atomT [97], compT [44] [atomT [98], atomT [99]]]]
def lvQ : Tm := compT [61] [varT 0, intT (-1)]
def lvU : Tm := compT [61] [atomT [45], atomT [120]]
theorem own_one (w : World) : OwnStrs w.heap.size (w.alloc (.cells #[.string ⟨#[88]⟩] 9)) (.slice (some ⟨w.heap.size, 0, none⟩) 1 1) (nmB [[88]]) :=
  World.ownsRow_lit (base := w.heap.size) (e := 9) (size := 1) w #[.string ⟨#[88]⟩] 1 (Nat.le_refl _) (by unfold maxLen; decide) rfl

set_option maxRecDepth 100000 in
set_option maxHeartbeats 8000000 in
theorem read_live (w : World) (hT : TabsT w) :
    Calls Tryz.prog 10 #[] w fun e w' => e = .returned (.bool true) ∧ Below w.heap.size w w' := by
  have HP := Lib.hid (fun W (hb : Below w.heap.size w W) => rd_Program ⟨#[97, 32, 58, 45, 32, 98, 44, 32, 99, 46]⟩ W (hT.on hb))
  have HQ := Lib.hid (fun W (hb : Below w.heap.size w W) => rd_Query ⟨#[88, 32, 61, 32, 45, 49]⟩ W (hT.on hb))
  have HU := Lib.hid (fun W (hb : Below w.heap.size w W) => rd_Query ⟨#[45, 32, 61, 32, 120]⟩ W (hT.on hb))
  have HV := Lib.hid (fun W (hb : Below w.heap.size w W) => rd_Query ⟨#[102, 40, 58, 45, 32, 97, 41]⟩ W (hT.on hb))
  rw [show progL (⟨#[97, 32, 58, 45, 32, 98, 44, 32, 99, 46]⟩ : ByteArray).data.toList = .ok lvL from ex_rd1] at HP
  rw [show queryL (⟨#[88, 32, 61, 32, 45, 49]⟩ : ByteArray).data.toList = .ok (lvQ, [[88]]) from ex_rd2] at HQ
  rw [show queryL (⟨#[45, 32, 61, 32, 120]⟩ : ByteArray).data.toList = .ok (lvU, []) from ex_rd3] at HU
  rw [show queryL (⟨#[102, 40, 58, 45, 32, 97, 41]⟩ : ByteArray).data.toList = _ from ex_rd4] at HV
  have HSQ : Hid (∀ (W : World) ad cap bd, TmIn W lvQ ad cap → TArgs W bd [varT 0, intT (-1)] → Calls Tryz.prog 16 #[tmv lvQ ad cap, .agg #[.int .i64 4, .string ⟨#[61]⟩, .int .i64 0, .slice bd 2 2]] W fun e w' => e = .returned (.bool true) ∧ Below W.heap.size W w') := Lib.hid (fun W ad cap bd h1 h2 => by
    have := ref_Same 10 lvQ lvQ ad bd cap 2 W (by decide +kernel) (by decide +kernel) h1 (compI (by decide) (by decide) (by decide) h2)
    rwa [Tm.same_true rfl] at this)
  have HSU : Hid (∀ (W : World) ad cap bd, TmIn W lvU ad cap → TArgs W bd [atomT [45], atomT [120]] → Calls Tryz.prog 16 #[tmv lvU ad cap, .agg #[.int .i64 4, .string ⟨#[61]⟩, .int .i64 0, .slice bd 2 2]] W fun e w' => e = .returned (.bool true) ∧ Below W.heap.size W w') := Lib.hid (fun W ad cap bd h1 h2 => by
    have := ref_Same 10 lvU lvU ad bd cap 2 W (by decide +kernel) (by decide +kernel) h1 (compI (by decide) (by decide) (by decide) h2)
    rwa [Tm.same_true rfl] at this)
  have HSL : Hid (∀ (W : World) ad cap bd, lvL.length ≤ cap → cap ≤ maxLen → TArgs W ad lvL → TArgs W bd lvL → Calls Tryz.prog 13 #[.slice ad lvL.length cap, .slice bd 1 1] W fun e w' => e = .returned (.bool true) ∧ Below W.heap.size W w') := Lib.hid (fun W ad cap bd h1 h2 h3 h4 => by
    have := ref_SameAll lvL lvL ad bd cap 1 W (by decide +kernel) h1 h2 (by decide) (by decide) h3 h4
    rwa [Tm.same_true rfl] at this)
  generalize htq : lvQ = tq at *
  generalize htu : lvU = tu at *
  generalize hll : lvL = ll at *
  have HLL := Lib.hid hll
  have HTQ := Lib.hid htq
  have HTU := Lib.hid htu
  clear hT htq htu hll
  go_enter Tryz.func10, Tryz.ntmps10
  go_wp2_with fail
  refine (HP.out _ (Below.refl _ _)).mono ?_; rintro e w1 ⟨ad1, cap1, rfl, hl1, hc1, ht1, hb1⟩
  have HL1 := Lib.hid ht1
  have HB1 := Lib.hid hb1
  clear hb1 ht1 HP
  go_wp2_with fail
  refine (ref_Atom1 _ _).mono ?_; rintro e w2 ⟨rfl, hb2⟩
  have HB2 := Lib.hid (HB1.out.trans (hb2.mono HB1.out.size))
  have HL2 : Hid (TArgs w2 ad1 ll) := Lib.hid (HL1.out.all.on hb2)
  clear hb2 HL1 HB1
  go_upto_region 3 with fail
  generalize hw : w2.alloc (.cells #[.int .i64 2, .string ⟨#[97]⟩, .int .i64 0, .slice none 0 0] 30) = w2a
  have HA : Hid (w2a.heap[w2.heap.size]? = some (.cells #[.int .i64 2, .string ⟨#[97]⟩, .int .i64 0, .slice none 0 0] 30 (0, 0))) := Lib.hid (by rw [← hw]; exact newR w2 _)
  have hb2a : Below w2.heap.size w2 w2a := by rw [← hw]; exact (Below.refl _ _).alloc (Nat.le_refl _) _
  have hz2 : w2a.heap.size = w2.heap.size + 1 := by rw [← hw]; exact World.size_alloc _ _
  have HL2a := Lib.hid (HL2.out.on hb2a)
  have HB2a := Lib.hid (HB2.out.trans (hb2a.mono HB2.out.size))
  clear hw hb2a HL2 HB2
  go_wp2_with fail
  refine (ref_Atom1 _ _).mono ?_; rintro e w3 ⟨rfl, hb3⟩
  have HB3 := Lib.hid (HB2a.out.trans (hb3.mono HB2a.out.size))
  have HL3 := Lib.hid (HL2a.out.on hb3)
  have HA3 := Lib.hid (keptR hb3 HA.out)
  have hz3 := hb3.size
  clear hb3 HL2a HB2a HA
  go_upto_region 4 with fail
  generalize hw : w3.alloc (.cells #[.int .i64 2, .string ⟨#[120]⟩, .int .i64 0, .slice none 0 0] 30) = w3a
  have HX : Hid (w3a.heap[w3.heap.size]? = some (.cells #[.int .i64 2, .string ⟨#[120]⟩, .int .i64 0, .slice none 0 0] 30 (0, 0))) := Lib.hid (by rw [← hw]; exact newR w3 _)
  have hb3a : Below w3.heap.size w3 w3a := by rw [← hw]; exact (Below.refl _ _).alloc (Nat.le_refl _) _
  have HL3a := Lib.hid (HL3.out.on hb3a)
  have HB3a := Lib.hid (HB3.out.trans (hb3a.mono HB3.out.size))
  have HA3a := Lib.hid (keptR hb3a HA3.out)
  have hz3a : w3a.heap.size = w3.heap.size + 1 := by rw [← hw]; exact World.size_alloc _ _
  clear hw hb3a HL3 HB3 HA3
  go_wp2_with fail
  refine (HQ.out _ HB3a.out).mono ?_; rintro e w4 ⟨vq, adq, capq, rfl, hoq, htq, hb4⟩
  have HB4 := Lib.hid (HB3a.out.trans (hb4.mono HB3a.out.size))
  have HL4 := Lib.hid (HL3a.out.on hb4)
  have HA4 := Lib.hid (keptR hb4 HA3a.out)
  have HX4 := Lib.hid (keptR hb4 HX.out)
  have HQ4 := Lib.hid htq.toIn
  have HO4 := Lib.hid hoq
  have hz4 := hb4.size
  clear hb4 htq hoq HL3a HB3a HA3a HX HQ
  unfold tmv
  go_upto_region 5 with fail
  generalize hw : w4.alloc (.cells #[.int .i64 tq.kind, .string tq.name, .int .i64 tq.n, .slice adq tq.args.length capq] 30) = w4a
  have HC4 : Hid (w4a.heap[w4.heap.size]? = some (.cells #[.int .i64 tq.kind, .string tq.name, .int .i64 tq.n, .slice adq tq.args.length capq] 30 (0, 0))) := Lib.hid (by rw [← hw]; exact newR w4 _)
  have hb4a : Below w4.heap.size w4 w4a := by rw [← hw]; exact (Below.refl _ _).alloc (Nat.le_refl _) _
  have HB4a := Lib.hid (HB4.out.trans (hb4a.mono HB4.out.size))
  have HL4a := Lib.hid (HL4.out.on hb4a)
  have HA4a := Lib.hid (keptR hb4a HA4.out)
  have HX4a := Lib.hid (keptR hb4a HX4.out)
  have HQ4a : Hid (TmIn w4a tq adq capq) := Lib.hid (HQ4.out.on hb4a)
  have HO4a := Lib.hid (OwnStrs.below HO4.out hb4a)
  have hz4a : w4a.heap.size = w4.heap.size + 1 := by rw [← hw]; exact World.size_alloc _ _
  clear hw hb4a HB4 HL4 HA4 HX4 HQ4 HO4
  go_wp2_with fail
  refine (HU.out _ HB4a.out).mono ?_; rintro e w5 ⟨vu, adu, capu, rfl, hou, htu, hb5⟩
  have HB5 := Lib.hid (HB4a.out.trans (hb5.mono HB4a.out.size))
  have HL5 := Lib.hid (HL4a.out.on hb5)
  have HA5 := Lib.hid (keptR hb5 HA4a.out)
  have HX5 := Lib.hid (keptR hb5 HX4a.out)
  have HQ5 : Hid (TmIn w5 tq adq capq) := Lib.hid (HQ4a.out.on hb5)
  have HO5 := Lib.hid (OwnStrs.below HO4a.out hb5)
  have HC5 := Lib.hid (keptR hb5 HC4.out)
  have HU5 := Lib.hid htu.toIn
  have hz5 := hb5.size
  clear hb5 htu hou HL4a HB4a HA4a HX4a HQ4a HO4a HC4 HU
  unfold tmv
  go_upto_region 6 with fail
  generalize hw : w5.alloc (.cells #[.int .i64 tu.kind, .string tu.name, .int .i64 tu.n, .slice adu tu.args.length capu] 30) = w5a
  have HD5 : Hid (w5a.heap[w5.heap.size]? = some (.cells #[.int .i64 tu.kind, .string tu.name, .int .i64 tu.n, .slice adu tu.args.length capu] 30 (0, 0))) := Lib.hid (by rw [← hw]; exact newR w5 _)
  have hb5a : Below w5.heap.size w5 w5a := by rw [← hw]; exact (Below.refl _ _).alloc (Nat.le_refl _) _
  have HB5a := Lib.hid (HB5.out.trans (hb5a.mono HB5.out.size))
  have HL5a := Lib.hid (HL5.out.on hb5a)
  have HA5a := Lib.hid (keptR hb5a HA5.out)
  have HX5a := Lib.hid (keptR hb5a HX5.out)
  have HQ5a : Hid (TmIn w5a tq adq capq) := Lib.hid (HQ5.out.on hb5a)
  have HU5a : Hid (TmIn w5a tu adu capu) := Lib.hid (HU5.out.on hb5a)
  have HO5a := Lib.hid (OwnStrs.below HO5.out hb5a)
  have HC5a := Lib.hid (keptR hb5a HC5.out)
  have hz5a : w5a.heap.size = w5.heap.size + 1 := by rw [← hw]; exact World.size_alloc _ _
  clear hw hb5a HB5 HL5 HA5 HX5 HQ5 HO5 HC5 HU5
  go_wp2_with fail
  refine (HV.out _ HB5a.out).mono ?_; rintro e w6 ⟨rfl, hb6⟩
  have HB6 := Lib.hid (HB5a.out.trans (hb6.mono HB5a.out.size))
  have HL6 := Lib.hid (HL5a.out.on hb6)
  have HA6 := Lib.hid (keptR hb6 HA5a.out)
  have HX6 := Lib.hid (keptR hb6 HX5a.out)
  have HQ6 : Hid (TmIn w6 tq adq capq) := Lib.hid (HQ5a.out.on hb6)
  have HU6 : Hid (TmIn w6 tu adu capu) := Lib.hid (HU5a.out.on hb6)
  have HO6 := Lib.hid (OwnStrs.below HO5a.out hb6)
  have HC6 := Lib.hid (keptR hb6 HC5a.out)
  have HD6 := Lib.hid (keptR hb6 HD5.out)
  clear hb6 HL5a HB5a HA5a HX5a HQ5a HU5a HO5a HC5a HD5 HV
  unfold zeroT
  go_upto_region 7 with fail
  generalize hw : w6.alloc (.cells #[.int .i64 0, .string ⟨#[]⟩, .int .i64 0, .slice none 0 0] 30) = w0
  have hb0 : Below w6.heap.size w6 w0 := by rw [← hw]; exact (Below.refl _ _).alloc (Nat.le_refl _) _
  have HB0 := Lib.hid (HB6.out.trans (hb0.mono HB6.out.size))
  have HL0 := Lib.hid (HL6.out.on hb0)
  have HA0 := Lib.hid (keptR hb0 HA6.out)
  have HX0 := Lib.hid (keptR hb0 HX6.out)
  have HQ0 : Hid (TmIn w0 tq adq capq) := Lib.hid (HQ6.out.on hb0)
  have HU0 : Hid (TmIn w0 tu adu capu) := Lib.hid (HU6.out.on hb0)
  have HO0 := Lib.hid (OwnStrs.below HO6.out hb0)
  have HC0 := Lib.hid (keptR hb0 HC6.out)
  have HD0 := Lib.hid (keptR hb0 HD6.out)
  clear hw hb0 HB6 HL6 HA6 HX6 HQ6 HU6 HO6 HC6 HD6
  have HKEEP : Hid (∀ (W : World), Below w0.heap.size w0 W → Below w0.heap.size w0 W ∧ (W.cell? ⟨w2.heap.size, 0, none⟩ = some (.int .i64 2) ∧ W.cell? ⟨w2.heap.size, 1, none⟩ = some (.string ⟨#[97]⟩) ∧ W.cell? ⟨w2.heap.size, 2, none⟩ = some (.int .i64 0) ∧ W.cell? ⟨w2.heap.size, 3, none⟩ = some (.slice none 0 0)) ∧ (W.cell? ⟨w3.heap.size, 0, none⟩ = some (.int .i64 2) ∧ W.cell? ⟨w3.heap.size, 1, none⟩ = some (.string ⟨#[120]⟩) ∧ W.cell? ⟨w3.heap.size, 2, none⟩ = some (.int .i64 0) ∧ W.cell? ⟨w3.heap.size, 3, none⟩ = some (.slice none 0 0)) ∧ (W.cell? ⟨w4.heap.size, 0, none⟩ = some (.int .i64 tq.kind) ∧ W.cell? ⟨w4.heap.size, 1, none⟩ = some (.string tq.name) ∧ W.cell? ⟨w4.heap.size, 2, none⟩ = some (.int .i64 tq.n) ∧ W.cell? ⟨w4.heap.size, 3, none⟩ = some (.slice adq tq.args.length capq)) ∧ (W.cell? ⟨w5.heap.size, 0, none⟩ = some (.int .i64 tu.kind) ∧ W.cell? ⟨w5.heap.size, 1, none⟩ = some (.string tu.name) ∧ W.cell? ⟨w5.heap.size, 2, none⟩ = some (.int .i64 tu.n) ∧ W.cell? ⟨w5.heap.size, 3, none⟩ = some (.slice adu tu.args.length capu))) := Lib.hid (fun W hb => by
    obtain ⟨a0, a1, a2, a3, _⟩ := cellsR4 (keptR hb HA0.out)
    obtain ⟨x0, x1, x2, x3, _⟩ := cellsR4 (keptR hb HX0.out)
    obtain ⟨q0, q1, q2, q3, _⟩ := cellsR4 (keptR hb HC0.out)
    obtain ⟨u0, u1, u2, u3, _⟩ := cellsR4 (keptR hb HD0.out)
    exact ⟨hb, ⟨a0, a1, a2, a3⟩, ⟨x0, x1, x2, x3⟩, ⟨q0, q1, q2, q3⟩, ⟨u0, u1, u2, u3⟩⟩)
  have HST : Hid (∀ W W', Below w0.heap.size w0 W → Below W.heap.size W W' → Below w0.heap.size w0 W') := Lib.hid (fun W W' h h' => h.trans (h'.mono h.size))
  have HSW : Hid (∀ (W : World), Below w0.heap.size w0 W → Below w.heap.size w W) := Lib.hid (fun W h => HB0.out.trans (h.mono HB0.out.size))
  have hD0 : Below w0.heap.size w0 w0.drew := (Below.refl _ w0).drew
  have hK0 := HKEEP.out _ (Below.refl _ w0)
  have al1 : Hid (∀ (W : World) (o : Obj), Below W.heap.size W (W.alloc o)) := Lib.hid (fun W o => (Below.refl _ W).alloc (Nat.le_refl _) o)
  have HSL2 : Hid (∀ (W : World) bd, Below w0.heap.size w0 W → TArgs W bd ll → Calls Tryz.prog 13 #[.slice ad1 ll.length cap1, .slice bd 1 1] W fun e w' => e = .returned (.bool true) ∧ Below W.heap.size W w') := Lib.hid (fun W bd h1 h2 => HSL.out W ad1 cap1 bd hl1 hc1 (HL0.out.on h1) h2)
  have HSQ2 : Hid (∀ (W : World) bd, Below w0.heap.size w0 W → TArgs W bd [varT 0, intT (-1)] → Calls Tryz.prog 16 #[.agg #[.int .i64 tq.kind, .string tq.name, .int .i64 tq.n, .slice adq tq.args.length capq], .agg #[.int .i64 4, .string ⟨#[61]⟩, .int .i64 0, .slice bd 2 2]] W fun e w' => e = .returned (.bool true) ∧ Below W.heap.size W w') := Lib.hid (fun W bd h1 h2 => HSQ.out W adq capq bd (HQ0.out.on h1) h2)
  have HSU2 : Hid (∀ (W : World) bd, Below w0.heap.size w0 W → TArgs W bd [atomT [45], atomT [120]] → Calls Tryz.prog 16 #[.agg #[.int .i64 tu.kind, .string tu.name, .int .i64 tu.n, .slice adu tu.args.length capu], .agg #[.int .i64 4, .string ⟨#[61]⟩, .int .i64 0, .slice bd 2 2]] W fun e w' => e = .returned (.bool true) ∧ Below W.heap.size W w') := Lib.hid (fun W bd h1 h2 => HSU.out W adu capu bd (HU0.out.on h1) h2)
  have HSN2 : Hid (∀ (W : World), Below w0.heap.size w0 W → Calls Tryz.prog 17 #[vq, .slice (some ⟨W.heap.size, 0, none⟩) 1 1] (W.alloc (.cells #[.string ⟨#[88]⟩] 9)) fun e w' => e = .returned (.bool true) ∧ Below (W.alloc (.cells #[.string ⟨#[88]⟩] 9)).heap.size (W.alloc (.cells #[.string ⟨#[88]⟩] 9)) w') := Lib.hid (fun W h1 => ref_SameNames _ _ _ _ _ _ _ (OwnStrs.below HO0.out (h1.alloc h1.size _)) (own_one W) (by decide) rfl)
  have HRA : Hid (∀ (W : World), TArgs (W.alloc (.cells #[.int .i64 2, .string ⟨#[98]⟩, .int .i64 0, .slice none 0 0, .int .i64 2, .string ⟨#[99]⟩, .int .i64 0, .slice none 0 0] 30)) (some ⟨W.heap.size, 0, none⟩) [atomT [98], atomT [99]]) := Lib.hid (fun W => row2L (atomI W 98) (atomI W 99) _ rfl)
  have HRB : Hid (∀ (W : World) ad, TArgs W ad [atomT [98], atomT [99]] → TArgs (W.alloc (.cells #[.int .i64 2, .string ⟨#[97]⟩, .int .i64 0, .slice none 0 0, .int .i64 4, .string ⟨#[44]⟩, .int .i64 0, .slice ad 2 2] 30)) (some ⟨W.heap.size, 0, none⟩) [atomT [97], compT [44] [atomT [98], atomT [99]]]) := Lib.hid (fun W ad h => row2L (atomI W 97) (compI (s := [44]) (cap := 2) (by decide) (by decide) (by decide) h) _ rfl)
  have HRC : Hid (∀ (W : World) ad, TArgs W ad [atomT [97], compT [44] [atomT [98], atomT [99]]] → TArgs (W.alloc (.cells #[.int .i64 4, .string ⟨#[58, 45]⟩, .int .i64 0, .slice ad 2 2] 30)) (some ⟨W.heap.size, 0, none⟩) ll) := Lib.hid (fun W ad h => by
    rw [← HLL.out]
    exact row1L (compI (s := [58, 45]) (cap := 2) (by decide) (by decide) (by decide) h) _ rfl)
  have HRD : Hid (∀ (W : World), TArgs (W.alloc (.cells #[.int .i64 1, .string ⟨#[]⟩, .int .i64 0, .slice none 0 0, .int .i64 3, .string ⟨#[]⟩, .int .i64 (-1), .slice none 0 0] 30)) (some ⟨W.heap.size, 0, none⟩) [varT 0, intT (-1)]) := Lib.hid (fun W => row2L (ad := none) (ca := 0) (bd := none) (cb := 0) (leafI W (k := 1) (n := ((0 : Nat) : Int)) (s := ⟨#[]⟩) (in64R (by decide) (by decide)) (in64R (by decide) (by decide)) (Nat.zero_le _)) (leafI W (k := 3) (n := -1) (s := ⟨#[]⟩) (in64R (by decide) (by decide)) (in64R (by decide) (by decide)) (Nat.zero_le _)) _ rfl)
  have HRE : Hid (∀ (W : World), TArgs (W.alloc (.cells #[.int .i64 2, .string ⟨#[45]⟩, .int .i64 0, .slice none 0 0, .int .i64 2, .string ⟨#[120]⟩, .int .i64 0, .slice none 0 0] 30)) (some ⟨W.heap.size, 0, none⟩) [atomT [45], atomT [120]]) := Lib.hid (fun W => row2L (atomI W 45) (atomI W 120) _ rfl)
  clear hl1 hc1 HL0 HQ0 HU0 HO0 HA0 HX0 HC0 HD0 HSL HSQ HSU HLL HTQ HTU HB0 hz2 hz3 hz3a hz4 hz4a hz5 hz5a
  go_region_held3 (fun W => Below w0.heap.size w0 W ∧ (W.cell? ⟨w2.heap.size, 0, none⟩ = some (.int .i64 2) ∧ W.cell? ⟨w2.heap.size, 1, none⟩ = some (.string ⟨#[97]⟩) ∧ W.cell? ⟨w2.heap.size, 2, none⟩ = some (.int .i64 0) ∧ W.cell? ⟨w2.heap.size, 3, none⟩ = some (.slice none 0 0)) ∧ (W.cell? ⟨w3.heap.size, 0, none⟩ = some (.int .i64 2) ∧ W.cell? ⟨w3.heap.size, 1, none⟩ = some (.string ⟨#[120]⟩) ∧ W.cell? ⟨w3.heap.size, 2, none⟩ = some (.int .i64 0) ∧ W.cell? ⟨w3.heap.size, 3, none⟩ = some (.slice none 0 0)) ∧ (W.cell? ⟨w4.heap.size, 0, none⟩ = some (.int .i64 tq.kind) ∧ W.cell? ⟨w4.heap.size, 1, none⟩ = some (.string tq.name) ∧ W.cell? ⟨w4.heap.size, 2, none⟩ = some (.int .i64 tq.n) ∧ W.cell? ⟨w4.heap.size, 3, none⟩ = some (.slice adq tq.args.length capq)) ∧ (W.cell? ⟨w5.heap.size, 0, none⟩ = some (.int .i64 tu.kind) ∧ W.cell? ⟨w5.heap.size, 1, none⟩ = some (.string tu.name) ∧ W.cell? ⟨w5.heap.size, 2, none⟩ = some (.int .i64 tu.n) ∧ W.cell? ⟨w5.heap.size, 3, none⟩ = some (.slice adu tu.args.length capu)))
    (first | exact HKEEP.out _ b13 | exact HKEEP.out _ b12 | exact HKEEP.out _ (b11.alloc b11.size _) | exact HKEEP.out _ b11 | exact HKEEP.out _ b10 | exact HKEEP.out _ (b9.alloc b9.size _) | exact HKEEP.out _ b9 | exact HKEEP.out _ b8 | exact HKEEP.out _ (b7.alloc b7.size _) | exact HKEEP.out _ b7 | exact HKEEP.out _ b6 | exact HKEEP.out _ b5 | exact HKEEP.out _ (b4.alloc b4.size _) | exact HKEEP.out _ b4 | exact HKEEP.out _ (b3.alloc b3.size _) | exact HKEEP.out _ b3 | exact HKEEP.out _ (b2.alloc b2.size _) | exact HKEEP.out _ b2 | exact HKEEP.out _ b1 | exact HKEEP.out _ hD0)
    (first
      | (go_at_call 16; (refine (HSU2.out _ _ b12 ((HRE.out _).on c12)).mono ?_); rintro e v13 ⟨rfl, c13⟩; have b13 := HST.out _ _ b12 c13)
      | (go_at_call 26; have _h := c11; (with_reducible refine (ref_Comp1 _ _ _ _ _).mono ?_); rintro e v12 ⟨rfl, c12⟩; have b12 := HST.out _ _ (b11.alloc b11.size _) c12)
      | (go_at_call 23; have _h := c10; (with_reducible refine (ref_Atom1 _ _).mono ?_); rintro e v11 ⟨rfl, c11⟩; have b11 := HST.out _ _ b10 c11)
      | (go_at_call 17; (refine (HSN2.out _ b9).mono ?_); rintro e v10 ⟨rfl, c10⟩; have b10 := HST.out _ _ (b9.alloc b9.size _) c10)
      | (go_at_call 16; (refine (HSQ2.out _ _ b8 ((HRD.out _).on c8)).mono ?_); rintro e v9 ⟨rfl, c9⟩; have b9 := HST.out _ _ b8 c9)
      | (go_at_call 26; have _h := c7; (with_reducible refine (ref_Comp1 _ _ _ _ _).mono ?_); rintro e v8 ⟨rfl, c8⟩; have b8 := HST.out _ _ (b7.alloc b7.size _) c8)
      | (go_at_call 27; (with_reducible refine (ref_Int1 _ _).mono ?_); rintro e v7 ⟨rfl, c7⟩; have b7 := HST.out _ _ b6 c7)
      | (go_at_call 25; (with_reducible refine (ref_Var1 _ _).mono ?_); rintro e v6 ⟨rfl, c6⟩; have b6 := HST.out _ _ b5 c6)
      | (go_at_call 13; (refine (HSL2.out _ _ (b4.alloc b4.size _) (HRC.out _ _ ((HRB.out _ _ ((HRA.out _).on c3)).on c4))).mono ?_); rintro e v5 ⟨rfl, c5⟩; have b5 := HST.out _ _ (b4.alloc b4.size _) c5)
      | (go_at_call 26; have _h := c3; (with_reducible refine (ref_Comp1 _ _ _ _ _).mono ?_); rintro e v4 ⟨rfl, c4⟩; have b4 := HST.out _ _ (b3.alloc b3.size _) c4)
      | (go_at_call 26; (with_reducible refine (ref_Comp1 _ _ _ _ _).mono ?_); rintro e v3 ⟨rfl, c3⟩; have b3 := HST.out _ _ (b2.alloc b2.size _) c3)
      | (go_at_call 23; have _h := c1; (with_reducible refine (ref_Atom1 _ _).mono ?_); rintro e v2 ⟨rfl, c2⟩; have b2 := HST.out _ _ b1 c2)
      | (go_at_call 23; (with_reducible refine (ref_Atom1 _ _).mono ?_); rintro e v1 ⟨rfl, c1⟩; have b1 := HST.out _ _ hD0 c1))
  all_goals
    go_wp2_with fail
    go_ret
    exact ⟨rfl, HSW.out _ b13⟩
end Go.Proofs.YtlbdocdjijhkbaaGreatDoor
