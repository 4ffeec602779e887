/-
  The contract of package read's own beginning, by its ways.
-/
import Derived.Test.YtlbdocdjijhkbaaGreatDoorReadQ
namespace Go.Proofs.YtlbdocdjijhkbaaGreatDoor
open Go.RowKit

set_option maxRecDepth 100000 in
set_option maxHeartbeats 8000000 in
theorem rd_begin_atom (p : Int) (ts : List Tok) (ns : Nms) (E : Rd (Tm × Int)) (w : World) (r : Nat) (v : Value) (hf : Fine ts) (h : RMem w r v ts ns) (hE : ∀ W', Below w.heap.size w W' → Calls Tryz.prog 119 #[.pointer (some ⟨r, 0, none⟩), .int .i64 p] W' fun e w' => ROut2 r v W' E e w') (ha : (fstT ts).isAtom = true) :
    Calls Tryz.prog 90 #[.pointer (some ⟨r, 0, none⟩), .int .i64 p] w fun e w' => ROut2 r v w (E) e w' := by
  have hlt := h.lt
  have HH := Lib.hid (fun W' (hb : Below w.heap.size w W') => h.below hb)
  have hnew := h.new_ne (b := w.heap.size) (Nat.le_refl _)
  have HNEW := Lib.hid (fun b (hb : w.heap.size ≤ b) => h.new_ne hb)
  have HF := Lib.hid (fun W' hm' => rd_first W' r v ts ns hm' hf.pos)
  have HA := Lib.hid (fun W' => rd_isAtom (fstT ts) W')
  have HB := Lib.hid (fun o : Obj => (Below.refl w.heap.size w).alloc (Nat.le_refl _) o)
  rw [ha] at HA
  clear ha
  clear hf
  unfold tokv at HF HA
  generalize fstT ts = t0 at *
  obtain ⟨xk, xl, xn, xp⟩ := t0
  dsimp only at *
  generalize (⟨xl.toArray⟩ : ByteArray) = xt at *
  go_enter Tryz.func90, Tryz.ntmps90
  go_wp2_with fail
  refine (HF.out _ (HH.out _ (HB.out _))).mono ?_; rintro e w2 ⟨rfl, hb2⟩
  have HB2 := Lib.hid ((HB.out _).trans (hb2.mono (HB.out (.cells #[.int .i64 0, .string ⟨#[]⟩, .int .i64 0, .slice none 0 0] 30)).size))
  have HQ2 := Lib.hid (keptR hb2 (newR w (.cells #[.int .i64 0, .string ⟨#[]⟩, .int .i64 0, .slice none 0 0] 30)))
  have hs2 := HB2.out.size
  clear hb2
  go_upto_region 2 with fail
  generalize hw3 : w2.alloc (.cells #[.int .i64 xk, .string xt, .int .i64 xn, .int .i64 (xp : Nat)] 41) = w3
  have HB3 : Hid (Below w.heap.size w w3) := Lib.hid (by rw [← hw3]; exact HB2.out.alloc HB2.out.size _)
  have HX3 : Hid (w3.heap[w2.heap.size]? = some (.cells #[.int .i64 xk, .string xt, .int .i64 xn, .int .i64 (xp : Nat)] 41 (0, 0))) := Lib.hid (by rw [← hw3]; exact newR w2 _)
  have HQ3 : Hid (w3.heap[w.heap.size]? = some (.cells #[.int .i64 0, .string ⟨#[]⟩, .int .i64 0, .slice none 0 0] 30 (0, 0))) := Lib.hid (by rw [← hw3]; exact pastR HQ2.out _)
  obtain ⟨a0, a1, a2, a3, _⟩ := cellsR4 HX3.out
  clear hw3
  go_wp2_with fail
  refine (HA.out _).mono ?_; rintro e w4 ⟨rfl, hb4⟩
  have HB4 := Lib.hid (HB3.out.trans (hb4.mono HB3.out.size))
  have HX4 := Lib.hid (keptR hb4 HX3.out)
  have HQ4 := Lib.hid (keptR hb4 HQ3.out)
  obtain ⟨a0, a1, a2, a3, _⟩ := cellsR4 HX4.out
  clear hb4
  cases E with
  | bad o =>
    go_wp2_with (omega)
    refine (hE _ HB4.out).mono ?_; rintro e w5 ⟨rfl, hb5⟩
    exact ⟨rfl, rfl, (HB4.out.mono (Nat.le_of_lt hlt)).trans hb5⟩
  | ok t ts1 ns1 =>
    obtain ⟨t, pri⟩ := t
    go_wp2_with (omega)
    refine (hE _ HB4.out).mono ?_; rintro e w5 ⟨v5, ad, cap, rfl, hm5, hg5, ht5⟩
    have HQ5 := Lib.hid (hg5.at HQ4.out hnew.1 hnew.2)
    have hq4 := (Array.getElem?_eq_some_iff.1 HQ4.out).1
    have hv5 := hg5.ne (b := w.heap.size) hq4 hnew.2
    obtain ⟨d0, d1, d2, d3, e0, e1, e2, e3⟩ := cellsR4 HQ5.out
    have HM5 := Lib.hid hm5
    have HG5 := Lib.hid ((RGo.of_below (r := r) (v := v) HB4.out (Nat.le_of_lt hlt)).trans hg5)
    have HT5 := Lib.hid ht5
    clear hm5 hg5 ht5
    unfold tmv
    go_wp2_with fail
    refine bodyPost_ret (v := .tuple #[tmv t ad cap, .int .i64 pri]) (by simp [results, Tryz.results90, go_sem, d0, d1, d2, d3, tmv]) rfl ⟨v5, ad, cap, rfl, ?_⟩
    exact ROk.fin HM5.out HG5.out HT5.out hlt (Nat.le_refl _) hq4 hv5 _ _ _ _
set_option maxRecDepth 100000 in
set_option maxHeartbeats 8000000 in
theorem rd_begin_var (p : Int) (ts : List Tok) (ns : Nms) (E : Rd Tm) (w : World) (r : Nat) (v : Value) (hf : Fine ts) (h : RMem w r v ts ns) (hE : ∀ W', Below w.heap.size w W' → Calls Tryz.prog 120 #[.pointer (some ⟨r, 0, none⟩)] W' fun e w' => ROut r v W' E e w') (ha : (fstT ts).isAtom = false) (h4 : (fstT ts).kind = 4) :
    Calls Tryz.prog 90 #[.pointer (some ⟨r, 0, none⟩), .int .i64 p] w fun e w' => ROut2 r v w (zeroR E) e w' := by
  have hlt := h.lt
  have HH := Lib.hid (fun W' (hb : Below w.heap.size w W') => h.below hb)
  have hnew := h.new_ne (b := w.heap.size) (Nat.le_refl _)
  have HNEW := Lib.hid (fun b (hb : w.heap.size ≤ b) => h.new_ne hb)
  have HF := Lib.hid (fun W' hm' => rd_first W' r v ts ns hm' hf.pos)
  have HA := Lib.hid (fun W' => rd_isAtom (fstT ts) W')
  have HB := Lib.hid (fun o : Obj => (Below.refl w.heap.size w).alloc (Nat.le_refl _) o)
  rw [ha] at HA
  clear ha
  have hb4 : ((fstT ts).kind == 4) = true := by rw [h4]; rfl
  clear h4
  clear hf
  unfold tokv at HF HA
  generalize fstT ts = t0 at *
  obtain ⟨xk, xl, xn, xp⟩ := t0
  dsimp only at *
  generalize (⟨xl.toArray⟩ : ByteArray) = xt at *
  go_enter Tryz.func90, Tryz.ntmps90
  go_wp2_with fail
  refine (HF.out _ (HH.out _ (HB.out _))).mono ?_; rintro e w2 ⟨rfl, hb2⟩
  have HB2 := Lib.hid ((HB.out _).trans (hb2.mono (HB.out (.cells #[.int .i64 0, .string ⟨#[]⟩, .int .i64 0, .slice none 0 0] 30)).size))
  have HQ2 := Lib.hid (keptR hb2 (newR w (.cells #[.int .i64 0, .string ⟨#[]⟩, .int .i64 0, .slice none 0 0] 30)))
  have hs2 := HB2.out.size
  clear hb2
  go_upto_region 2 with fail
  generalize hw3 : w2.alloc (.cells #[.int .i64 xk, .string xt, .int .i64 xn, .int .i64 (xp : Nat)] 41) = w3
  have HB3 : Hid (Below w.heap.size w w3) := Lib.hid (by rw [← hw3]; exact HB2.out.alloc HB2.out.size _)
  have HX3 : Hid (w3.heap[w2.heap.size]? = some (.cells #[.int .i64 xk, .string xt, .int .i64 xn, .int .i64 (xp : Nat)] 41 (0, 0))) := Lib.hid (by rw [← hw3]; exact newR w2 _)
  have HQ3 : Hid (w3.heap[w.heap.size]? = some (.cells #[.int .i64 0, .string ⟨#[]⟩, .int .i64 0, .slice none 0 0] 30 (0, 0))) := Lib.hid (by rw [← hw3]; exact pastR HQ2.out _)
  obtain ⟨a0, a1, a2, a3, _⟩ := cellsR4 HX3.out
  clear hw3
  go_wp2_with fail
  refine (HA.out _).mono ?_; rintro e w4 ⟨rfl, hb4⟩
  have HB4 := Lib.hid (HB3.out.trans (hb4.mono HB3.out.size))
  have HX4 := Lib.hid (keptR hb4 HX3.out)
  have HQ4 := Lib.hid (keptR hb4 HQ3.out)
  obtain ⟨a0, a1, a2, a3, _⟩ := cellsR4 HX4.out
  clear hb4
  cases E with
  | bad o =>
    go_wp2_with (omega)
    refine (hE _ HB4.out).mono ?_; rintro e w5 ⟨rfl, hb5⟩
    exact ⟨rfl, rfl, (HB4.out.mono (Nat.le_of_lt hlt)).trans hb5⟩
  | ok t ts1 ns1 =>
    go_wp2_with (omega)
    refine (hE _ HB4.out).mono ?_; rintro e w5 ⟨v5, ad, cap, rfl, hm5, hg5, ht5⟩
    have HQ5 := Lib.hid (hg5.at HQ4.out hnew.1 hnew.2)
    have hq4 := (Array.getElem?_eq_some_iff.1 HQ4.out).1
    have hv5 := hg5.ne (b := w.heap.size) hq4 hnew.2
    obtain ⟨d0, d1, d2, d3, e0, e1, e2, e3⟩ := cellsR4 HQ5.out
    have HM5 := Lib.hid hm5
    have HG5 := Lib.hid ((RGo.of_below (r := r) (v := v) HB4.out (Nat.le_of_lt hlt)).trans hg5)
    have HT5 := Lib.hid ht5
    clear hm5 hg5 ht5
    unfold tmv
    go_wp2_with fail
    refine bodyPost_ret (v := .tuple #[tmv t ad cap, .int .i64 0]) (by simp [results, Tryz.results90, go_sem, d0, d1, d2, d3, tmv]) rfl ⟨v5, ad, cap, rfl, ?_⟩
    exact ROk.fin HM5.out HG5.out HT5.out hlt (Nat.le_refl _) hq4 hv5 _ _ _ _
set_option maxRecDepth 100000 in
set_option maxHeartbeats 8000000 in
theorem rd_begin_brk (p : Int) (ts : List Tok) (ns : Nms) (E : Rd Tm) (w : World) (r : Nat) (v : Value) (hf : Fine ts) (h : RMem w r v ts ns) (hE : ∀ W', Below w.heap.size w W' → Calls Tryz.prog 121 #[.pointer (some ⟨r, 0, none⟩)] W' fun e w' => ROut r v W' E e w') (ha : (fstT ts).isAtom = false) (h4 : (fstT ts).kind ≠ 4) (h67 : (fstT ts).kind = 6 ∨ (fstT ts).kind = 7) :
    Calls Tryz.prog 90 #[.pointer (some ⟨r, 0, none⟩), .int .i64 p] w fun e w' => ROut2 r v w (zeroR E) e w' := by
  have hlt := h.lt
  have HH := Lib.hid (fun W' (hb : Below w.heap.size w W') => h.below hb)
  have hnew := h.new_ne (b := w.heap.size) (Nat.le_refl _)
  have HNEW := Lib.hid (fun b (hb : w.heap.size ≤ b) => h.new_ne hb)
  have HF := Lib.hid (fun W' hm' => rd_first W' r v ts ns hm' hf.pos)
  have HA := Lib.hid (fun W' => rd_isAtom (fstT ts) W')
  have HB := Lib.hid (fun o : Obj => (Below.refl w.heap.size w).alloc (Nat.le_refl _) o)
  rw [ha] at HA
  clear ha
  have hb4 : ((fstT ts).kind == 4) = false := by simpa using h4
  clear h4
  clear hf
  unfold tokv at HF HA
  generalize fstT ts = t0 at *
  obtain ⟨xk, xl, xn, xp⟩ := t0
  dsimp only at *
  generalize (⟨xl.toArray⟩ : ByteArray) = xt at *
  go_enter Tryz.func90, Tryz.ntmps90
  go_wp2_with fail
  refine (HF.out _ (HH.out _ (HB.out _))).mono ?_; rintro e w2 ⟨rfl, hb2⟩
  have HB2 := Lib.hid ((HB.out _).trans (hb2.mono (HB.out (.cells #[.int .i64 0, .string ⟨#[]⟩, .int .i64 0, .slice none 0 0] 30)).size))
  have HQ2 := Lib.hid (keptR hb2 (newR w (.cells #[.int .i64 0, .string ⟨#[]⟩, .int .i64 0, .slice none 0 0] 30)))
  have hs2 := HB2.out.size
  clear hb2
  go_upto_region 2 with fail
  generalize hw3 : w2.alloc (.cells #[.int .i64 xk, .string xt, .int .i64 xn, .int .i64 (xp : Nat)] 41) = w3
  have HB3 : Hid (Below w.heap.size w w3) := Lib.hid (by rw [← hw3]; exact HB2.out.alloc HB2.out.size _)
  have HX3 : Hid (w3.heap[w2.heap.size]? = some (.cells #[.int .i64 xk, .string xt, .int .i64 xn, .int .i64 (xp : Nat)] 41 (0, 0))) := Lib.hid (by rw [← hw3]; exact newR w2 _)
  have HQ3 : Hid (w3.heap[w.heap.size]? = some (.cells #[.int .i64 0, .string ⟨#[]⟩, .int .i64 0, .slice none 0 0] 30 (0, 0))) := Lib.hid (by rw [← hw3]; exact pastR HQ2.out _)
  obtain ⟨a0, a1, a2, a3, _⟩ := cellsR4 HX3.out
  clear hw3
  go_wp2_with fail
  refine (HA.out _).mono ?_; rintro e w4 ⟨rfl, hb4⟩
  have HB4 := Lib.hid (HB3.out.trans (hb4.mono HB3.out.size))
  have HX4 := Lib.hid (keptR hb4 HX3.out)
  have HQ4 := Lib.hid (keptR hb4 HQ3.out)
  obtain ⟨a0, a1, a2, a3, _⟩ := cellsR4 HX4.out
  clear hb4
  rcases h67 with h6 | h7
  · have hb6 : (xk == 6) = true := by rw [h6]; rfl
    clear h6
    cases E with
    | bad o =>
      go_wp2_with (omega)
      refine (hE _ HB4.out).mono ?_; rintro e w5 ⟨rfl, hb5⟩
      exact ⟨rfl, rfl, (HB4.out.mono (Nat.le_of_lt hlt)).trans hb5⟩
    | ok t ts1 ns1 =>
      go_wp2_with (omega)
      refine (hE _ HB4.out).mono ?_; rintro e w5 ⟨v5, ad, cap, rfl, hm5, hg5, ht5⟩
      have HQ5 := Lib.hid (hg5.at HQ4.out hnew.1 hnew.2)
      have hq4 := (Array.getElem?_eq_some_iff.1 HQ4.out).1
      have hv5 := hg5.ne (b := w.heap.size) hq4 hnew.2
      obtain ⟨d0, d1, d2, d3, e0, e1, e2, e3⟩ := cellsR4 HQ5.out
      have HM5 := Lib.hid hm5
      have HG5 := Lib.hid ((RGo.of_below (r := r) (v := v) HB4.out (Nat.le_of_lt hlt)).trans hg5)
      have HT5 := Lib.hid ht5
      clear hm5 hg5 ht5
      unfold tmv
      go_wp2_with fail
      refine bodyPost_ret (v := .tuple #[tmv t ad cap, .int .i64 0]) (by simp [results, Tryz.results90, go_sem, d0, d1, d2, d3, tmv]) rfl ⟨v5, ad, cap, rfl, ?_⟩
      exact ROk.fin HM5.out HG5.out HT5.out hlt (Nat.le_refl _) hq4 hv5 _ _ _ _
  · have hb6 : (xk == 6) = false := by rw [h7]; rfl
    have hb7 : (xk == 7) = true := by rw [h7]; rfl
    clear h7
    cases E with
    | bad o =>
      go_wp2_with (omega)
      refine (hE _ HB4.out).mono ?_; rintro e w5 ⟨rfl, hb5⟩
      exact ⟨rfl, rfl, (HB4.out.mono (Nat.le_of_lt hlt)).trans hb5⟩
    | ok t ts1 ns1 =>
      go_wp2_with (omega)
      refine (hE _ HB4.out).mono ?_; rintro e w5 ⟨v5, ad, cap, rfl, hm5, hg5, ht5⟩
      have HQ5 := Lib.hid (hg5.at HQ4.out hnew.1 hnew.2)
      have hq4 := (Array.getElem?_eq_some_iff.1 HQ4.out).1
      have hv5 := hg5.ne (b := w.heap.size) hq4 hnew.2
      obtain ⟨d0, d1, d2, d3, e0, e1, e2, e3⟩ := cellsR4 HQ5.out
      have HM5 := Lib.hid hm5
      have HG5 := Lib.hid ((RGo.of_below (r := r) (v := v) HB4.out (Nat.le_of_lt hlt)).trans hg5)
      have HT5 := Lib.hid ht5
      clear hm5 hg5 ht5
      unfold tmv
      go_wp2_with fail
      refine bodyPost_ret (v := .tuple #[tmv t ad cap, .int .i64 0]) (by simp [results, Tryz.results90, go_sem, d0, d1, d2, d3, tmv]) rfl ⟨v5, ad, cap, rfl, ?_⟩
      exact ROk.fin HM5.out HG5.out HT5.out hlt (Nat.le_refl _) hq4 hv5 _ _ _ _
set_option maxRecDepth 100000 in
set_option maxHeartbeats 8000000 in
theorem rd_begin_int (p : Int) (ts : List Tok) (ns : Nms) (w : World) (r : Nat) (v : Value) (hf : Fine ts) (h : RMem w r v ts ns) (ha : (fstT ts).isAtom = false) (h4 : (fstT ts).kind ≠ 4) (h6 : (fstT ts).kind ≠ 6) (h7 : (fstT ts).kind ≠ 7) (h5 : (fstT ts).kind = 5) (h0 : 0 ≤ (fstT ts).n) :
    Calls Tryz.prog 90 #[.pointer (some ⟨r, 0, none⟩), .int .i64 p] w fun e w' => ROut2 r v w (.ok (intT (fstT ts).n, 0) ts.tail ns) e w' := by
  have hlt := h.lt
  have HH := Lib.hid (fun W' (hb : Below w.heap.size w W') => h.below hb)
  have hnew := h.new_ne (b := w.heap.size) (Nat.le_refl _)
  have HNEW := Lib.hid (fun b (hb : w.heap.size ≤ b) => h.new_ne hb)
  have HF := Lib.hid (fun W' hm' => rd_first W' r v ts ns hm' hf.pos)
  have HA := Lib.hid (fun W' => rd_isAtom (fstT ts) W')
  have HB := Lib.hid (fun o : Obj => (Below.refl w.heap.size w).alloc (Nat.le_refl _) o)
  have HPS := Lib.hid (fun W' hm' => rd_pass W' r v ts ns hm' (hf.two (by rw [h5]; decide)))
  have hn64 := hf.first.n
  rw [ha] at HA
  clear ha
  have hb4 : ((fstT ts).kind == 4) = false := by simpa using h4
  have hb6 : ((fstT ts).kind == 6) = false := by simpa using h6
  have hb7 : ((fstT ts).kind == 7) = false := by simpa using h7
  clear h4 h6 h7
  have hb5 : ((fstT ts).kind == 5) = true := by rw [h5]; rfl
  clear h5
  clear hf
  unfold tokv at HF HA
  generalize fstT ts = t0 at *
  obtain ⟨xk, xl, xn, xp⟩ := t0
  dsimp only at *
  generalize (⟨xl.toArray⟩ : ByteArray) = xt at *
  go_enter Tryz.func90, Tryz.ntmps90
  go_wp2_with fail
  refine (HF.out _ (HH.out _ (HB.out _))).mono ?_; rintro e w2 ⟨rfl, hb2⟩
  have HB2 := Lib.hid ((HB.out _).trans (hb2.mono (HB.out (.cells #[.int .i64 0, .string ⟨#[]⟩, .int .i64 0, .slice none 0 0] 30)).size))
  have HQ2 := Lib.hid (keptR hb2 (newR w (.cells #[.int .i64 0, .string ⟨#[]⟩, .int .i64 0, .slice none 0 0] 30)))
  have hs2 := HB2.out.size
  clear hb2
  go_upto_region 2 with fail
  generalize hw3 : w2.alloc (.cells #[.int .i64 xk, .string xt, .int .i64 xn, .int .i64 (xp : Nat)] 41) = w3
  have HB3 : Hid (Below w.heap.size w w3) := Lib.hid (by rw [← hw3]; exact HB2.out.alloc HB2.out.size _)
  have HX3 : Hid (w3.heap[w2.heap.size]? = some (.cells #[.int .i64 xk, .string xt, .int .i64 xn, .int .i64 (xp : Nat)] 41 (0, 0))) := Lib.hid (by rw [← hw3]; exact newR w2 _)
  have HQ3 : Hid (w3.heap[w.heap.size]? = some (.cells #[.int .i64 0, .string ⟨#[]⟩, .int .i64 0, .slice none 0 0] 30 (0, 0))) := Lib.hid (by rw [← hw3]; exact pastR HQ2.out _)
  obtain ⟨a0, a1, a2, a3, _⟩ := cellsR4 HX3.out
  clear hw3
  go_wp2_with fail
  refine (HA.out _).mono ?_; rintro e w4 ⟨rfl, hb4⟩
  have HB4 := Lib.hid (HB3.out.trans (hb4.mono HB3.out.size))
  have HX4 := Lib.hid (keptR hb4 HX3.out)
  have HQ4 := Lib.hid (keptR hb4 HQ3.out)
  obtain ⟨a0, a1, a2, a3, _⟩ := cellsR4 HX4.out
  clear hb4
  go_wp2_with fail
  refine (HPS.out _ (HH.out _ HB4.out)).mono ?_; rintro e w5 ⟨rfl, hm5, hg5⟩
  have hX2 := HNEW.out w2.heap.size hs2
  obtain ⟨a0, a1, a2, a3, _⟩ := cellsR4 (hg5.at HX4.out hX2.1 hX2.2)
  have HQ5 := Lib.hid (hg5.at HQ4.out hnew.1 hnew.2)
  have HM5 := Lib.hid hm5
  have HG5 := Lib.hid ((RGo.of_below (r := r) (v := v) HB4.out (Nat.le_of_lt hlt)).trans hg5)
  clear hm5 hg5
  go_wp2_with fail
  refine (rd_integer _ _).mono ?_; rintro e w6 ⟨rfl, hb6⟩
  have HG6 := Lib.hid (HG5.out.trans (RGo.of_below (r := r) (v := v) hb6 (Nat.le_of_lt HM5.out.lt)))
  have HQ6 := Lib.hid (keptR hb6 HQ5.out)
  have HM6 := Lib.hid (HM5.out.below hb6)
  have hq6 := (Array.getElem?_eq_some_iff.1 HQ4.out).1
  obtain ⟨d0, d1, d2, d3, e0, e1, e2, e3⟩ := cellsR4 HQ6.out
  clear hb6
  go_wp2_with fail
  refine bodyPost_ret (v := .tuple #[.agg #[.int .i64 3, .string ⟨#[]⟩, .int .i64 xn, .slice none 0 0], .int .i64 0]) (by simp [results, Tryz.results90, go_sem, d0, d1, d2, d3]) rfl ⟨v, none, 0, rfl, ?_⟩
  exact ROk.fin (B := w.heap.size + 1) HM6.out HG6.out (leafR _ _ _ (in64R (by decide) (by decide)) hn64 (Nat.zero_le _)) hlt (Nat.le_refl _) (by omega) hnew.2 _ _ _ _
set_option maxRecDepth 100000 in
set_option maxHeartbeats 8000000 in
theorem rd_begin_bad (p : Int) (ts : List Tok) (ns : Nms) (w : World) (r : Nat) (v : Value) (hf : Fine ts) (h : RMem w r v ts ns) (ha : (fstT ts).isAtom = false) (h4 : (fstT ts).kind ≠ 4) (h6 : (fstT ts).kind ≠ 6) (h7 : (fstT ts).kind ≠ 7) (h5 : ¬((fstT ts).kind = 5 ∧ 0 ≤ (fstT ts).n)) :
    Calls Tryz.prog 90 #[.pointer (some ⟨r, 0, none⟩), .int .i64 p] w fun e w' => ROut2 r v w (.bad (fstT ts).pos) e w' := by
  have hlt := h.lt
  have HH := Lib.hid (fun W' (hb : Below w.heap.size w W') => h.below hb)
  have hnew := h.new_ne (b := w.heap.size) (Nat.le_refl _)
  have HNEW := Lib.hid (fun b (hb : w.heap.size ≤ b) => h.new_ne hb)
  have HF := Lib.hid (fun W' hm' => rd_first W' r v ts ns hm' hf.pos)
  have HA := Lib.hid (fun W' => rd_isAtom (fstT ts) W')
  have HB := Lib.hid (fun o : Obj => (Below.refl w.heap.size w).alloc (Nat.le_refl _) o)
  have HRF := Lib.hid (fun W' hm' => rd_refuse W' r v ts ns hm' hf.pos)
  rw [ha] at HA
  clear ha
  have hb4 : ((fstT ts).kind == 4) = false := by simpa using h4
  have hb6 : ((fstT ts).kind == 6) = false := by simpa using h6
  have hb7 : ((fstT ts).kind == 7) = false := by simpa using h7
  clear h4 h6 h7
  clear hf
  unfold tokv at HF HA
  generalize fstT ts = t0 at *
  obtain ⟨xk, xl, xn, xp⟩ := t0
  dsimp only at *
  generalize (⟨xl.toArray⟩ : ByteArray) = xt at *
  go_enter Tryz.func90, Tryz.ntmps90
  go_wp2_with fail
  refine (HF.out _ (HH.out _ (HB.out _))).mono ?_; rintro e w2 ⟨rfl, hb2⟩
  have HB2 := Lib.hid ((HB.out _).trans (hb2.mono (HB.out (.cells #[.int .i64 0, .string ⟨#[]⟩, .int .i64 0, .slice none 0 0] 30)).size))
  have HQ2 := Lib.hid (keptR hb2 (newR w (.cells #[.int .i64 0, .string ⟨#[]⟩, .int .i64 0, .slice none 0 0] 30)))
  have hs2 := HB2.out.size
  clear hb2
  go_upto_region 2 with fail
  generalize hw3 : w2.alloc (.cells #[.int .i64 xk, .string xt, .int .i64 xn, .int .i64 (xp : Nat)] 41) = w3
  have HB3 : Hid (Below w.heap.size w w3) := Lib.hid (by rw [← hw3]; exact HB2.out.alloc HB2.out.size _)
  have HX3 : Hid (w3.heap[w2.heap.size]? = some (.cells #[.int .i64 xk, .string xt, .int .i64 xn, .int .i64 (xp : Nat)] 41 (0, 0))) := Lib.hid (by rw [← hw3]; exact newR w2 _)
  have HQ3 : Hid (w3.heap[w.heap.size]? = some (.cells #[.int .i64 0, .string ⟨#[]⟩, .int .i64 0, .slice none 0 0] 30 (0, 0))) := Lib.hid (by rw [← hw3]; exact pastR HQ2.out _)
  obtain ⟨a0, a1, a2, a3, _⟩ := cellsR4 HX3.out
  clear hw3
  go_wp2_with fail
  refine (HA.out _).mono ?_; rintro e w4 ⟨rfl, hb4⟩
  have HB4 := Lib.hid (HB3.out.trans (hb4.mono HB3.out.size))
  have HX4 := Lib.hid (keptR hb4 HX3.out)
  have HQ4 := Lib.hid (keptR hb4 HQ3.out)
  obtain ⟨a0, a1, a2, a3, _⟩ := cellsR4 HX4.out
  clear hb4
  by_cases c5 : xk = 5
  · have h0 : ¬ 0 ≤ xn := fun h0 => h5 ⟨c5, h0⟩
    have hb5 : (xk == 5) = true := by rw [c5]; rfl
    clear h5 c5
    go_wp2_with fail
    refine (HRF.out _ (HH.out _ HB4.out)).mono ?_; rintro e w5 ⟨rfl, hb5⟩
    exact ⟨rfl, rfl, (HB4.out.mono (Nat.le_of_lt hlt)).trans (hb5.mono (Nat.le_trans (Nat.le_of_lt hlt) HB4.out.size))⟩
  · have hb5 : (xk == 5) = false := by simpa using c5
    clear h5 c5
    go_wp2_with fail
    refine (HRF.out _ (HH.out _ HB4.out)).mono ?_; rintro e w5 ⟨rfl, hb5⟩
    exact ⟨rfl, rfl, (HB4.out.mono (Nat.le_of_lt hlt)).trans (hb5.mono (Nat.le_trans (Nat.le_of_lt hlt) HB4.out.size))⟩

theorem rd_beginning {m : Nat} {W : Rdr} (hW : GoodW W m) (hC : WithinC m W) (hM : m ≤ 10000) (p : Int) (ts : List Tok) (ns : Nms) (w : World) (r : Nat) (v : Value) (hm : ts.length ≤ m + 1) (hf : Fine ts) (hn : ns.length ≤ 200) (h : RMem w r v ts ns) :
    Calls Tryz.prog 90 #[.pointer (some ⟨r, 0, none⟩), .int .i64 p] w fun e w' => ROut2 r v w (beginR W p ts ns) e w' := by
  unfold beginR
  have HH := fun W' (hb : Below w.heap.size w W') => h.below hb
  by_cases ha : (fstT ts).isAtom = true
  · rw [if_pos ha]; exact rd_begin_atom p ts ns _ w r v hf h (fun W' hb => (rd_named hW hC hM p ts ns W' r v hm hf ha hn (HH W' hb))) ha
  rw [if_neg ha]
  have ha2 : (fstT ts).isAtom = false := by simpa using ha
  by_cases h4 : (fstT ts).kind = 4
  · rw [if_pos h4]; exact rd_begin_var p ts ns _ w r v hf h (fun W' hb => (rd_variable W' r v ts ns (HH W' hb) hf (by rw [h4]; decide) hn)) ha2 h4
  rw [if_neg h4]
  by_cases h67 : (fstT ts).kind = 6 ∨ (fstT ts).kind = 7
  · rw [if_pos h67]; exact rd_begin_brk p ts ns _ w r v hf h (fun W' hb => (rd_bracketed hW hC hM ts ns W' r v hm hf (by rcases h67 with h6 | h6 <;> rw [h6] <;> decide) hn (HH W' hb))) ha2 h4 h67
  rw [if_neg h67]
  have h6 : (fstT ts).kind ≠ 6 := fun c => h67 (.inl c)
  have h7 : (fstT ts).kind ≠ 7 := fun c => h67 (.inr c)
  by_cases h5 : (fstT ts).kind = 5 ∧ 0 ≤ (fstT ts).n
  · rw [if_pos h5]; exact rd_begin_int p ts ns w r v hf h ha2 h4 h6 h7 h5.1 h5.2
  · rw [if_neg h5]; exact rd_begin_bad p ts ns w r v hf h ha2 h4 h6 h7 h5
end Go.Proofs.YtlbdocdjijhkbaaGreatDoor
