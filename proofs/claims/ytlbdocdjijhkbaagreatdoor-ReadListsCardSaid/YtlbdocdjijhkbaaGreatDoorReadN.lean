/-
  The contract of package read's own bracketed, given within's.
-/
import Derived.Test.YtlbdocdjijhkbaaGreatDoorReadL
namespace Go.Proofs.YtlbdocdjijhkbaaGreatDoor
open Go.RowKit
attribute [-go_sem] sliced

theorem curly_fine {m : Nat} {W : Rdr} (hW : GoodW W m) {ts : List Tok} {ns : Nms} (hm : ts.length ≤ m) (hf : Fine ts) (hn : ns.length ≤ 200) : ∀ t ts' ns', curlyR W ts ns = .ok t ts' ns' → Fine ts' := fun t ts' ns' h => by
  unfold curlyR at h
  split at h
  · injection h with h1 h2 h3
    subst h2
    exact hf
  · obtain ⟨t, ts1, ns1, hl, h⟩ := Rd.bind_is h
    injection h with h1 h2 h3
    subst h2
    exact (hW _ _ _ _ _ _ hm hf hn hl).fine
theorem square_fine {m : Nat} {W : Rdr} (hW : GoodW W m) {ts : List Tok} {ns : Nms} (hm : ts.length ≤ m) (hf : Fine ts) (hn : ns.length ≤ 200) : ∀ t ts' ns', squareR W ts ns = .ok t ts' ns' → Fine ts' := fun t ts' ns' h => by
  unfold squareR at h
  split at h
  · injection h with h1 h2 h3
    subst h2
    exact hf
  · unfold listR at h
    obtain ⟨l, ts1, ns1, hl, h⟩ := Rd.bind_is h
    obtain ⟨⟨c1, c2, c3⟩, c4, c5, c6⟩ := manyR_left hW (by decide) hm hf hn hl
    obtain ⟨e, ts2, ns2, he, h⟩ := Rd.bind_is h
    injection h with h1 h2 h3
    subst h2
    unfold tailR at he
    split at he
    · rename_i hb
      obtain ⟨d1, d2⟩ := c1.tail (by rw [(isP_kind hb).1]; decide)
      exact (hW _ _ _ _ _ _ (by omega) d1 c3 he).fine
    · injection he with h1 h2 h3
      subst h2
      exact c1

set_option maxRecDepth 100000 in
set_option maxHeartbeats 8000000 in
theorem rd_bracketed {m : Nat} {W : Rdr} (hW : GoodW W m) (hC : WithinC m W) (hM : m ≤ 10000) (ts : List Tok) (ns : Nms) (w : World) (r : Nat) (v : Value) (hm : ts.length ≤ m + 1) (hf : Fine ts) (hk : (fstT ts).kind ≠ 9) (hn : ns.length ≤ 200) (h : RMem w r v ts ns) :
    Calls Tryz.prog 121 #[.pointer (some ⟨r, 0, none⟩)] w fun e w' => ROut r v w (bracketR W ts ns) e w' := by
  have hlt := h.lt
  have h2 := hf.two hk
  obtain ⟨ht2, hl2⟩ := hf.tail hk
  have hm2 : ts.tail.length ≤ m := by omega
  have hnew := h.new_ne (Nat.le_refl _)
  have hnew2 := h.new_ne (b := w.heap.size + 1) (Nat.le_succ _)
  have hmf : ∀ (fn : Fn) (first cap : Array Value) (w : World), (Instr.makeFunc fn first cap).run Tryz.prog w = .ok (.func fn first cap) w := fun _ _ _ _ => rfl
  have HB := Lib.hid (fun o o2 : Obj => ((Below.refl w.heap.size w).alloc (Nat.le_refl _) o).alloc (by simp) o2)
  have HF := Lib.hid (fun W' (hb : Below w.heap.size w W') => rd_first W' r v ts ns (h.below hb) hf.pos)
  have HH := Lib.hid (fun W' (hb : Below w.heap.size w W') => h.below hb)
  have HR0 := Lib.hid (newR w (.cells #[.pointer (some ⟨r, 0, none⟩)] 53))
  have HRF := Lib.hid (fun W' (hb : Below w.heap.size w W') => rd_refuse W' r v ts ns (h.below hb) (by omega))
  have e40 := text_is (fstT ts).text [40]
  have e91 := text_is (fstT ts).text [91]
  have e123 := text_is (fstT ts).text [123]
  have f1 := tok_field1
  unfold bracketR
  unfold tokv at HF
  clear h
  generalize (fstT ts) = t0 at *
  obtain ⟨tk, tx, tn, tp⟩ := t0
  dsimp only at *
  generalize (⟨tx.toArray⟩ : ByteArray) = u at *
  cases c40 : (tx == [40]) with
  | true =>
    rw [c40] at e40
    rw [if_pos rfl]
    have HI := Lib.hid (fun W' (hm' : RMem W' r v ts ns) (hR' : BoxR W' w.heap.size r) => rd_inside 146 (enters_of Tryz.func146 (by kernel_rfl) rfl) #[.pointer (some ⟨w.heap.size, 0, none⟩)] [41] ⟨#[41]⟩ rfl (W 1200 ts.tail ns) ts ns W' r v h2 hm' (fun t ts' ns' hh => (hW _ _ _ _ _ _ hm2 ht2 hn hh).fine) (fun W2 h1 h2' _ => rd_round hC ts.tail ns W2 r w.heap.size v hm2 ht2 hn h1 (h2'.at hR' hnew.1 hnew.2)))
    obtain ⟨E, hE⟩ : ∃ E, closeR [41] (W 1200 ts.tail ns) = E := ⟨_, rfl⟩
    rw [hE] at HI ⊢
    clear hE hC hW hf h2 hm2 ht2
    cases E with
    | bad o =>
      go_enter Tryz.func121, Tryz.ntmps121
      go_wp2_with fail
      refine (HF.out _ (HB.out _ _)).mono ?_; rintro e w1 ⟨rfl, hb1⟩
      have hbw1 := (HB.out (.cells #[.pointer (some ⟨r, 0, none⟩)] 53) (.cells #[.int .i64 0, .string ⟨#[]⟩, .int .i64 0, .slice none 0 0] 30)).trans (hb1.mono (by simp; omega))
      have HB1 := Lib.hid hbw1
      have HR1 := Lib.hid (keptR hb1 (pastR HR0.out (.cells #[.int .i64 0, .string ⟨#[]⟩, .int .i64 0, .slice none 0 0] 30)))
      obtain ⟨r1, _⟩ := cellsR1 HR1.out
      clear hb1 hbw1
      go_wp2_with fail
      refine (HI.out _ (HH.out _ HB1.out) HR1.out).mono ?_; rintro e w2 ⟨rfl, hb2⟩
      exact ⟨rfl, rfl, (HB1.out.mono (Nat.le_of_lt hlt)).trans hb2⟩
    | ok t ts1 ns1 =>
      go_enter Tryz.func121, Tryz.ntmps121
      go_wp2_with fail
      refine (HF.out _ (HB.out _ _)).mono ?_; rintro e w1 ⟨rfl, hb1⟩
      have hbw1 := (HB.out (.cells #[.pointer (some ⟨r, 0, none⟩)] 53) (.cells #[.int .i64 0, .string ⟨#[]⟩, .int .i64 0, .slice none 0 0] 30)).trans (hb1.mono (by simp; omega))
      have HB1 := Lib.hid hbw1
      have HR1 := Lib.hid (keptR hb1 (pastR HR0.out (.cells #[.int .i64 0, .string ⟨#[]⟩, .int .i64 0, .slice none 0 0] 30)))
      have HQ1 := Lib.hid (keptR hb1 (newR (w.alloc (.cells #[.pointer (some ⟨r, 0, none⟩)] 53)) (.cells #[.int .i64 0, .string ⟨#[]⟩, .int .i64 0, .slice none 0 0] 30)))
      obtain ⟨r1, _⟩ := cellsR1 HR1.out
      have hs1 := hb1.size
      simp only [World.size_alloc] at hs1
      clear hb1 hbw1
      go_wp2_with fail
      refine (HI.out _ (HH.out _ HB1.out) HR1.out).mono ?_; rintro e w2 ⟨v2, ad, cap, rfl, hm2, hg2, ht2⟩
      have hq2 := hg2.at HQ1.out (by rw [World.size_alloc]; omega) (by rw [World.size_alloc]; exact hnew2.2)
      rw [World.size_alloc] at hq2
      have hv2 := hg2.ne (b := w.heap.size + 1) (by omega) hnew2.2
      obtain ⟨d0, d1, d2, d3, e0, e1, e2, e3⟩ := cellsR4 hq2
      have HM2 := Lib.hid hm2
      have HG2 := Lib.hid ((RGo.of_below (r := r) (v := v) HB1.out (Nat.le_of_lt hlt)).trans hg2)
      have HT2 := Lib.hid ht2
      clear hm2 hg2 ht2 hq2
      unfold tmv
      go_wp2_with fail
      refine bodyPost_ret (v := tmv t ad cap) (by simp [results, Tryz.results121, go_sem, d0, d1, d2, d3, tmv]) rfl ⟨v2, ad, cap, rfl, ?_⟩
      exact ROk.fin HM2.out HG2.out HT2.out hlt (Nat.le_succ _) (by omega) hv2 _ _ _ _
  | false =>
    rw [c40] at e40
    rw [if_neg (by decide)]
    cases c91 : (tx == [91]) with
    | true =>
      rw [c91] at e91
      rw [if_pos rfl]
      have HI := Lib.hid (fun W' (hm' : RMem W' r v ts ns) (hR' : BoxR W' w.heap.size r) => rd_inside 147 (enters_of Tryz.func147 (by kernel_rfl) rfl) #[.pointer (some ⟨w.heap.size, 0, none⟩)] [93] ⟨#[93]⟩ rfl (squareR W ts.tail ns) ts ns W' r v h2 hm' (square_fine hW hm2 ht2 hn) (fun W2 h1 h2' _ => rd_square hW hC hM ts.tail ns W2 r w.heap.size v hm2 ht2 hn h1 (h2'.at hR' hnew.1 hnew.2)))
      obtain ⟨E, hE⟩ : ∃ E, closeR [93] (squareR W ts.tail ns) = E := ⟨_, rfl⟩
      rw [hE] at HI ⊢
      clear hE hC hW hf h2 hm2 ht2
      cases E with
      | bad o =>
        go_enter Tryz.func121, Tryz.ntmps121
        go_wp2_with fail
        refine (HF.out _ (HB.out _ _)).mono ?_; rintro e w1 ⟨rfl, hb1⟩
        have hbw1 := (HB.out (.cells #[.pointer (some ⟨r, 0, none⟩)] 53) (.cells #[.int .i64 0, .string ⟨#[]⟩, .int .i64 0, .slice none 0 0] 30)).trans (hb1.mono (by simp; omega))
        have HB1 := Lib.hid hbw1
        have HR1 := Lib.hid (keptR hb1 (pastR HR0.out (.cells #[.int .i64 0, .string ⟨#[]⟩, .int .i64 0, .slice none 0 0] 30)))
        obtain ⟨r1, _⟩ := cellsR1 HR1.out
        clear hb1 hbw1
        go_wp2_with fail
        refine (HI.out _ (HH.out _ HB1.out) HR1.out).mono ?_; rintro e w2 ⟨rfl, hb2⟩
        exact ⟨rfl, rfl, (HB1.out.mono (Nat.le_of_lt hlt)).trans hb2⟩
      | ok t ts1 ns1 =>
        go_enter Tryz.func121, Tryz.ntmps121
        go_wp2_with fail
        refine (HF.out _ (HB.out _ _)).mono ?_; rintro e w1 ⟨rfl, hb1⟩
        have hbw1 := (HB.out (.cells #[.pointer (some ⟨r, 0, none⟩)] 53) (.cells #[.int .i64 0, .string ⟨#[]⟩, .int .i64 0, .slice none 0 0] 30)).trans (hb1.mono (by simp; omega))
        have HB1 := Lib.hid hbw1
        have HR1 := Lib.hid (keptR hb1 (pastR HR0.out (.cells #[.int .i64 0, .string ⟨#[]⟩, .int .i64 0, .slice none 0 0] 30)))
        have HQ1 := Lib.hid (keptR hb1 (newR (w.alloc (.cells #[.pointer (some ⟨r, 0, none⟩)] 53)) (.cells #[.int .i64 0, .string ⟨#[]⟩, .int .i64 0, .slice none 0 0] 30)))
        obtain ⟨r1, _⟩ := cellsR1 HR1.out
        have hs1 := hb1.size
        simp only [World.size_alloc] at hs1
        clear hb1 hbw1
        go_wp2_with fail
        refine (HI.out _ (HH.out _ HB1.out) HR1.out).mono ?_; rintro e w2 ⟨v2, ad, cap, rfl, hm2, hg2, ht2⟩
        have hq2 := hg2.at HQ1.out (by rw [World.size_alloc]; omega) (by rw [World.size_alloc]; exact hnew2.2)
        rw [World.size_alloc] at hq2
        have hv2 := hg2.ne (b := w.heap.size + 1) (by omega) hnew2.2
        obtain ⟨d0, d1, d2, d3, e0, e1, e2, e3⟩ := cellsR4 hq2
        have HM2 := Lib.hid hm2
        have HG2 := Lib.hid ((RGo.of_below (r := r) (v := v) HB1.out (Nat.le_of_lt hlt)).trans hg2)
        have HT2 := Lib.hid ht2
        clear hm2 hg2 ht2 hq2
        unfold tmv
        go_wp2_with fail
        refine bodyPost_ret (v := tmv t ad cap) (by simp [results, Tryz.results121, go_sem, d0, d1, d2, d3, tmv]) rfl ⟨v2, ad, cap, rfl, ?_⟩
        exact ROk.fin HM2.out HG2.out HT2.out hlt (Nat.le_succ _) (by omega) hv2 _ _ _ _
    | false =>
      rw [c91] at e91
      rw [if_neg (by decide)]
      cases c123 : (tx == [123]) with
      | true =>
        rw [c123] at e123
        rw [if_pos rfl]
        have HI := Lib.hid (fun W' (hm' : RMem W' r v ts ns) (hR' : BoxR W' w.heap.size r) => rd_inside 149 (enters_of Tryz.func149 (by kernel_rfl) rfl) #[.pointer (some ⟨w.heap.size, 0, none⟩)] [125] ⟨#[125]⟩ rfl (curlyR W ts.tail ns) ts ns W' r v h2 hm' (curly_fine hW hm2 ht2 hn) (fun W2 h1 h2' _ => rd_curly hC ts.tail ns W2 r w.heap.size v hm2 ht2 hn h1 (h2'.at hR' hnew.1 hnew.2)))
        obtain ⟨E, hE⟩ : ∃ E, closeR [125] (curlyR W ts.tail ns) = E := ⟨_, rfl⟩
        rw [hE] at HI ⊢
        clear hE hC hW hf h2 hm2 ht2
        cases E with
        | bad o =>
          go_enter Tryz.func121, Tryz.ntmps121
          go_wp2_with fail
          refine (HF.out _ (HB.out _ _)).mono ?_; rintro e w1 ⟨rfl, hb1⟩
          have hbw1 := (HB.out (.cells #[.pointer (some ⟨r, 0, none⟩)] 53) (.cells #[.int .i64 0, .string ⟨#[]⟩, .int .i64 0, .slice none 0 0] 30)).trans (hb1.mono (by simp; omega))
          have HB1 := Lib.hid hbw1
          have HR1 := Lib.hid (keptR hb1 (pastR HR0.out (.cells #[.int .i64 0, .string ⟨#[]⟩, .int .i64 0, .slice none 0 0] 30)))
          obtain ⟨r1, _⟩ := cellsR1 HR1.out
          clear hb1 hbw1
          go_wp2_with fail
          refine (HI.out _ (HH.out _ HB1.out) HR1.out).mono ?_; rintro e w2 ⟨rfl, hb2⟩
          exact ⟨rfl, rfl, (HB1.out.mono (Nat.le_of_lt hlt)).trans hb2⟩
        | ok t ts1 ns1 =>
          go_enter Tryz.func121, Tryz.ntmps121
          go_wp2_with fail
          refine (HF.out _ (HB.out _ _)).mono ?_; rintro e w1 ⟨rfl, hb1⟩
          have hbw1 := (HB.out (.cells #[.pointer (some ⟨r, 0, none⟩)] 53) (.cells #[.int .i64 0, .string ⟨#[]⟩, .int .i64 0, .slice none 0 0] 30)).trans (hb1.mono (by simp; omega))
          have HB1 := Lib.hid hbw1
          have HR1 := Lib.hid (keptR hb1 (pastR HR0.out (.cells #[.int .i64 0, .string ⟨#[]⟩, .int .i64 0, .slice none 0 0] 30)))
          have HQ1 := Lib.hid (keptR hb1 (newR (w.alloc (.cells #[.pointer (some ⟨r, 0, none⟩)] 53)) (.cells #[.int .i64 0, .string ⟨#[]⟩, .int .i64 0, .slice none 0 0] 30)))
          obtain ⟨r1, _⟩ := cellsR1 HR1.out
          have hs1 := hb1.size
          simp only [World.size_alloc] at hs1
          clear hb1 hbw1
          go_wp2_with fail
          refine (HI.out _ (HH.out _ HB1.out) HR1.out).mono ?_; rintro e w2 ⟨v2, ad, cap, rfl, hm2, hg2, ht2⟩
          have hq2 := hg2.at HQ1.out (by rw [World.size_alloc]; omega) (by rw [World.size_alloc]; exact hnew2.2)
          rw [World.size_alloc] at hq2
          have hv2 := hg2.ne (b := w.heap.size + 1) (by omega) hnew2.2
          obtain ⟨d0, d1, d2, d3, e0, e1, e2, e3⟩ := cellsR4 hq2
          have HM2 := Lib.hid hm2
          have HG2 := Lib.hid ((RGo.of_below (r := r) (v := v) HB1.out (Nat.le_of_lt hlt)).trans hg2)
          have HT2 := Lib.hid ht2
          clear hm2 hg2 ht2 hq2
          unfold tmv
          go_wp2_with fail
          refine bodyPost_ret (v := tmv t ad cap) (by simp [results, Tryz.results121, go_sem, d0, d1, d2, d3, tmv]) rfl ⟨v2, ad, cap, rfl, ?_⟩
          exact ROk.fin HM2.out HG2.out HT2.out hlt (Nat.le_succ _) (by omega) hv2 _ _ _ _
      | false =>
        rw [c123] at e123
        rw [if_neg (by decide)]
        clear hC hW hf
        go_enter Tryz.func121, Tryz.ntmps121
        go_wp2_with fail
        refine (HF.out _ (HB.out _ _)).mono ?_; rintro e w1 ⟨rfl, hb1⟩
        have hbw1 := (HB.out (.cells #[.pointer (some ⟨r, 0, none⟩)] 53) (.cells #[.int .i64 0, .string ⟨#[]⟩, .int .i64 0, .slice none 0 0] 30)).trans (hb1.mono (by simp; omega))
        have HB1 := Lib.hid hbw1
        obtain ⟨r1, _⟩ := cellsR1 (keptR hb1 (pastR HR0.out (.cells #[.int .i64 0, .string ⟨#[]⟩, .int .i64 0, .slice none 0 0] 30)))
        clear hb1 hbw1
        go_wp2_with fail
        refine (HRF.out _ HB1.out).mono ?_; rintro e w2 ⟨rfl, hb2⟩
        exact ⟨rfl, rfl, ((HB1.out.mono (Nat.le_of_lt hlt))).trans (hb2.mono (by have := HB1.out.size; omega))⟩
end Go.Proofs.YtlbdocdjijhkbaaGreatDoor
