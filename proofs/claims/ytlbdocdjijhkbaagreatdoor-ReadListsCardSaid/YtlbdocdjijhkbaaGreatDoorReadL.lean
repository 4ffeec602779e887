/-
  The contracts of package read's own bracketed$2, list, bracketed, given within's.
-/
import Derived.Test.YtlbdocdjijhkbaaGreatDoorReadJ
import Derived.Test.YtlbdocdjijhkbaaGreatDoorReadK
namespace Go.Proofs.YtlbdocdjijhkbaaGreatDoor
open Go.RowKit
attribute [-go_sem] sliced

set_option maxRecDepth 100000 in
set_option maxHeartbeats 4000000 in
theorem rd_list {m : Nat} {W : Rdr} (hW : GoodW W m) (hC : WithinC m W) (hM : m ≤ 10000) (ts : List Tok) (ns : Nms) (w : World) (r : Nat) (v : Value) (hm : ts.length ≤ m) (hf : Fine ts) (hn : ns.length ≤ 200) (h : RMem w r v ts ns) :
    Calls Tryz.prog 148 #[.pointer (some ⟨r, 0, none⟩)] w fun e w' => ROut r v w (listR W ts ns) e w' := by
  unfold listR
  have hlt := h.lt
  have HB := Lib.hid (fun o : Obj => (Below.refl w.heap.size w).alloc (Nat.le_refl _) o)
  have HC : Hid (∀ W', Below w.heap.size w W' → Calls Tryz.prog 141 #[.pointer (some ⟨r, 0, none⟩), .int .i64 4096] W' fun e w' => RList r v W' (manyR W 4096 ts ns) e w') := Lib.hid (fun W' (hb : Below w.heap.size w W') => rd_several hW hC hM 4096 ts ns W' r v hm hf hn (h.below hb))
  cases hx : manyR W 4096 ts ns with
  | bad o =>
    rw [hx] at HC
    rw [Rd.bind_bad]
    clear h hC hW hf
    go_enter Tryz.func148, Tryz.ntmps148
    go_wp2_with fail
    refine (HC.out _ (HB.out _)).mono ?_; rintro e w1 ⟨rfl, hb⟩
    exact ⟨rfl, rfl, ((HB.out _).mono (Nat.le_of_lt hlt)).trans hb⟩
  | ok l ts1 ns1 =>
    rw [Rd.bind_ok]
    unfold tailR
    cases hbar : (fstT ts1).isP [124] with
    | false =>
      rw [if_neg (by decide), Rd.bind_ok]
      exact rd_list_plain hW hC hM ts ns w r v hm hf hn h l ts1 ns1 hx hbar
    | true =>
      rw [if_pos rfl]
      cases hx2 : W 999 ts1.tail ns1 with
      | ok t2 ts2 ns2 =>
        rw [Rd.bind_ok]
        exact rd_list_tail hW hC hM ts ns w r v hm hf hn h l ts1 ns1 hx hbar t2 ts2 ns2 hx2
      | bad o =>
        rw [Rd.bind_bad]
        obtain ⟨⟨f1, f2, f3⟩, f4, f5, f6⟩ := manyR_left hW (by decide) hm hf hn hx
        obtain ⟨f7, f8⟩ := f1.tail (by rw [(isP_kind hbar).1]; decide)
        have HF1 := Lib.hid f1
        have HCW := Lib.hid (fun W' v' (hh : RMem W' r v' ts1.tail ns1) => hC 999 ts1.tail ns1 W' r v' (by omega) f7 f3 hh)
        rw [hx2] at HCW
        rw [hx] at HC
        clear h hC hW hf hx hx2 f1 f7
        go_enter Tryz.func148, Tryz.ntmps148
        go_wp2_with fail
        refine (HC.out _ (HB.out _)).mono ?_; rintro e w2 ⟨v2, ad, cap, rfl, g1, g2, hm2, hg2, ha2⟩
        have HG2 := Lib.hid (((HB.out (.cells #[.int .i64 0, .string ⟨#[]⟩, .int .i64 0, .slice none 0 0] 30)).mono (Nat.le_of_lt hlt)).trans hg2.below)
        have HM2 := Lib.hid hm2
        clear hm2 hg2 ha2
        go_wp2_with fail
        refine (rd_atom _ _).mono ?_; rintro e w3 ⟨rfl, hb3⟩
        have hb4 : Below w2.heap.size w2 (w3.alloc (.cells #[.int .i64 2, .string ⟨#[91, 93]⟩, .int .i64 0, .slice none 0 0] 30)) := hb3.alloc hb3.size _
        have hm4 := HM2.out.below hb4
        have HP := Lib.hid (rd_passed _ r v2 ts1 ns1 [124] ⟨#[124]⟩ rfl hm4 HF1.out)
        have HB4 := Lib.hid (HG2.out.trans (hb4.mono (Nat.le_of_lt HM2.out.lt)))
        rw [hbar, if_pos rfl] at HP
        clear hb3 hb4 hm4
        go_wp2_with fail
        refine HP.out.mono ?_; rintro e w7 ⟨rfl, hm7, hg7⟩
        have HM7 := Lib.hid hm7
        have HG7 := Lib.hid (HB4.out.trans hg7.below)
        clear hm7 hg7
        go_wp2_with fail
        refine (HCW.out _ _ HM7.out).mono ?_; rintro e w8 ⟨rfl, hb8⟩
        exact ⟨rfl, rfl, HG7.out.trans hb8⟩

set_option maxRecDepth 100000 in
set_option maxHeartbeats 4000000 in
theorem rd_square {m : Nat} {W : Rdr} (hW : GoodW W m) (hC : WithinC m W) (hM : m ≤ 10000) (ts : List Tok) (ns : Nms) (w : World) (r R : Nat) (v : Value) (hm : ts.length ≤ m) (hf : Fine ts) (hn : ns.length ≤ 200) (h : RMem w r v ts ns) (hR : BoxR w R r) :
    Calls Tryz.prog 147 #[.pointer (some ⟨R, 0, none⟩)] w fun e w' => ROut r v w (squareR W ts ns) e w' := by
  have hlt := h.lt
  have hnew := h.new_ne (Nat.le_refl _)
  have HB := Lib.hid (fun o : Obj => (Below.refl w.heap.size w).alloc (Nat.le_refl _) o)
  have HF := Lib.hid (fun W' (hb : Below w.heap.size w W') => rd_first W' r v ts ns (h.below hb) hf.pos)
  have HP := Lib.hid (fun W' => rd_isPunct (fstT ts) [93] W')
  have HC := Lib.hid (fun W' (hb : Below w.heap.size w W') => rd_list hW hC hM ts ns W' r v hm hf hn (h.below hb))
  have HH := Lib.hid (fun W' (hb : Below w.heap.size w W') => h.below hb)
  have HQ := Lib.hid (newR w (.cells #[.int .i64 0, .string ⟨#[]⟩, .int .i64 0, .slice none 0 0] 30))
  have HRB := Lib.hid hR
  obtain ⟨r0, _⟩ := cellsR1 hR
  have hRl : R < w.heap.size := World.block_lt_of_cell? w ⟨R, 0, none⟩ r0
  unfold squareR
  clear h hC hR hf
  generalize fstT ts = t0 at *
  generalize t0.isP [93] = b at *
  generalize tokv t0 = tv at *
  cases b with
  | true =>
    rw [if_pos rfl]
    go_enter Tryz.func147, Tryz.ntmps147
    go_wp2_with fail
    refine (HF.out _ (HB.out _)).mono ?_; rintro e w1 ⟨rfl, hb1⟩
    have HB1 := Lib.hid ((HB.out (.cells #[.int .i64 0, .string ⟨#[]⟩, .int .i64 0, .slice none 0 0] 30)).trans (hb1.mono (by simp)))
    have HQ1 := Lib.hid (keptR hb1 HQ.out)
    clear hb1
    go_wp2_with fail
    refine (HP.out _).mono ?_; rintro e w2 ⟨rfl, hb2⟩
    have HB2 := Lib.hid (HB1.out.trans (hb2.mono HB1.out.size))
    have HQ2 := Lib.hid (keptR hb2 HQ1.out)
    clear hb2
    go_wp2_with fail
    refine (rd_atom _ _).mono ?_; rintro e w3 ⟨rfl, hb3⟩
    have hq3 := keptR hb3 HQ2.out
    obtain ⟨d0, d1, d2, d3, e0, e1, e2, e3⟩ := cellsR4 hq3
    have HB3 := Lib.hid (HB2.out.trans (hb3.mono HB2.out.size))
    clear hb3 hq3
    go_wp2_with fail
    refine bodyPost_ret (v := tmv (atomT [91, 93]) none 0) (by simp [results, Tryz.results147, go_sem, d0, d1, d2, d3, tmv, atomT, Tm.kind, Tm.name, Tm.n, Tm.args]) rfl ⟨v, none, 0, rfl, ?_⟩
    exact ROk.fin (B := w.heap.size + 1) (HH.out _ HB3.out) (RGo.of_below HB3.out (Nat.le_of_lt hlt)) (leafR _ _ _ (in64R (by decide) (by decide)) (in64R (by omega) (by omega)) (by unfold maxLen; decide)) hlt (Nat.le_refl _) (by omega) hnew.2 _ _ _ _
  | false =>
    rw [if_neg (by decide)]
    cases hx : listR W ts ns with
    | bad o =>
      rw [hx] at HC
      go_enter Tryz.func147, Tryz.ntmps147
      go_wp2_with fail
      refine (HF.out _ (HB.out _)).mono ?_; rintro e w1 ⟨rfl, hb1⟩
      have HB1 := Lib.hid ((HB.out (.cells #[.int .i64 0, .string ⟨#[]⟩, .int .i64 0, .slice none 0 0] 30)).trans (hb1.mono (by simp)))
      clear hb1
      go_wp2_with fail
      refine (HP.out _).mono ?_; rintro e w2 ⟨rfl, hb2⟩
      have HB2 := Lib.hid (HB1.out.trans (hb2.mono HB1.out.size))
      obtain ⟨r1, _⟩ := cellsR1 (keptR HB2.out HRB.out)
      clear hb2
      go_wp2_with fail
      refine (HC.out _ HB2.out).mono ?_; rintro e w3 ⟨rfl, hb3⟩
      exact ⟨rfl, rfl, (HB2.out.mono (Nat.le_of_lt hlt)).trans hb3⟩
    | ok t ts1 ns1 =>
      rw [hx] at HC
      go_enter Tryz.func147, Tryz.ntmps147
      go_wp2_with fail
      refine (HF.out _ (HB.out _)).mono ?_; rintro e w1 ⟨rfl, hb1⟩
      have HB1 := Lib.hid ((HB.out (.cells #[.int .i64 0, .string ⟨#[]⟩, .int .i64 0, .slice none 0 0] 30)).trans (hb1.mono (by simp)))
      have HQ1 := Lib.hid (keptR hb1 HQ.out)
      have hs1 := hb1.size
      clear hb1
      go_wp2_with fail
      refine (HP.out _).mono ?_; rintro e w2 ⟨rfl, hb2⟩
      have HB2 := Lib.hid (HB1.out.trans (hb2.mono HB1.out.size))
      have HQ2 := Lib.hid (keptR hb2 HQ1.out)
      obtain ⟨r1, _⟩ := cellsR1 (keptR HB2.out HRB.out)
      have hs2 := hb2.size
      rw [World.size_alloc] at hs1
      clear hb2
      go_wp2_with fail
      refine (HC.out _ HB2.out).mono ?_; rintro e w3 ⟨v3, ad, cap, rfl, hm3, hg3, ht3⟩
      have hq3 := hg3.at HQ2.out hnew.1 hnew.2
      have hv3 := hg3.ne (b := w.heap.size) (by omega) hnew.2
      obtain ⟨d0, d1, d2, d3, e0, e1, e2, e3⟩ := cellsR4 hq3
      have HM3 := Lib.hid hm3
      have HG3 := Lib.hid ((RGo.of_below (r := r) (v := v) HB2.out (Nat.le_of_lt hlt)).trans hg3)
      have HT3 := Lib.hid ht3
      clear hm3 hg3 ht3 hq3
      unfold tmv
      go_wp2_with fail
      refine bodyPost_ret (v := tmv t ad cap) (by simp [results, Tryz.results147, go_sem, d0, d1, d2, d3, tmv]) rfl ⟨v3, ad, cap, rfl, ?_⟩
      exact ROk.fin HM3.out HG3.out HT3.out hlt (Nat.le_refl _) (by omega) hv3 _ _ _ _
end Go.Proofs.YtlbdocdjijhkbaaGreatDoor
