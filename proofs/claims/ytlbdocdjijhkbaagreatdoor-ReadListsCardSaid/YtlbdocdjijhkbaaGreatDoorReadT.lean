/-
  The contract of package read's own within, given that of as many tokens less.
-/
import Derived.Test.YtlbdocdjijhkbaaGreatDoorReadU
import Derived.Deep.DeepCutAuto
namespace Go.Proofs.YtlbdocdjijhkbaaGreatDoor
open Go.RowKit
attribute [-go_sem] sliced

set_option maxRecDepth 100000 in
set_option maxHeartbeats 16000000 in
theorem rd_within {m : Nat} {W : Rdr} (hW : GoodW W m) (hC : WithinC m W) (hM : m ≤ 10000) (p : Int) (ts : List Tok) (ns : Nms) (w : World) (r : Nat) (v : Value) (hm : ts.length ≤ m + 1) (hf : Fine ts) (hn : ns.length ≤ 200) (h : RMem w r v ts ns) :
    Calls Tryz.prog 67 #[.pointer (some ⟨r, 0, none⟩), .int .i64 p] w fun e w' => ROut r v w ((beginR W p ts ns).bind fun x ts' ns' => moreR W p ts'.length x.1 x.2 ts' ns') e w' := by
  have hlt := h.lt
  have HH := Lib.hid (fun W' (hb : Below w.heap.size w W') => h.below hb)
  have hnew := h.new_ne (b := w.heap.size) (Nat.le_refl _)
  have HB := Lib.hid (fun o : Obj => (Below.refl w.heap.size w).alloc (Nat.le_refl _) o)
  have HBG := Lib.hid (fun W' hm' => rd_beginning hW hC hM p ts ns W' r v hm hf hn hm')
  have HZ := Lib.hid (newR w (.cells #[.int .i64 0, .string ⟨#[]⟩, .int .i64 0, .slice none 0 0] 30))
  obtain ⟨E, hE⟩ : ∃ E, ((beginR W p ts ns).bind fun x ts' ns' => moreR W p ts'.length x.1 x.2 ts' ns') = E := ⟨_, rfl⟩
  rw [hE]
  cases hx : beginR W p ts ns with
  | bad o =>
    rw [hx] at HBG hE
    rw [Rd.bind_bad] at hE
    subst hE
    clear hx hf hW hC
    go_enter Tryz.func67, Tryz.ntmps67
    go_wp2_with fail
    refine (HBG.out _ (HH.out _ (HB.out _))).mono ?_; rintro e w1 ⟨rfl, hb1⟩
    exact ⟨rfl, rfl, ((HB.out _).mono (Nat.le_of_lt hlt)).trans hb1⟩
  | ok x ts1 ns1 =>
    obtain ⟨b1, b2, b3⟩ := beginR_left hW hm hf hn hx
    rw [hx] at HBG hE
    rw [Rd.bind_ok] at hE
    obtain ⟨t1, pri1⟩ := x
    dsimp only at hE b2
    have hsz := t1.size_pos
    have HE := Lib.hid hE
    have HA1 := Lib.hid b1
    have HCC := Lib.hid hC
    have HWW := Lib.hid hW
    clear hx hf hW hC hE b1 h
    go_enter Tryz.func67, Tryz.ntmps67
    go_wp2_with fail
    refine (HBG.out _ (HH.out _ (HB.out _))).mono ?_; rintro e w1 ⟨v1, ad1, cap1, rfl, hm1, hg1, ht1⟩
    have hqs : w.heap.size + 1 ≤ w1.heap.size := by have := hg1.below.size; simpa using this
    have hq1 := hg1.at HZ.out hnew.1 hnew.2
    have hqv1 := hg1.ne (b := w.heap.size) (by simp) hnew.2
    have hltv := hm1.ltv
    have ht1n : some w1.heap.size ≠ v1.ownBlock := fun e => by have := hltv _ e.symm; omega
    have HW1 : Hid (WMem (w.heap.size + 1) w1.heap.size (w1.alloc (.cells #[.int .i64 t1.kind, .string t1.name, .int .i64 t1.n, .slice ad1 t1.args.length cap1] 30)) v1 t1 ad1 cap1) := Lib.hid ⟨newR w1 _, TmP.kept ht1 (fun b _ hb => Below.heap_alloc _ _ _ hb) (fun b hp hb => ⟨by have := hp.1; simpa using this, hp.2, by omega⟩), ht1n⟩
    have HQ1 := Lib.hid (pastR hq1 (.cells #[.int .i64 t1.kind, .string t1.name, .int .i64 t1.n, .slice ad1 t1.args.length cap1] 30))
    have HM1 := Lib.hid (hm1.below ((Below.refl _ w1).alloc (Nat.le_refl _) (.cells #[.int .i64 t1.kind, .string t1.name, .int .i64 t1.n, .slice ad1 t1.args.length cap1] 30)))
    have HG1 := Lib.hid (((RGo.of_below (r := r) (v := v) (HB.out (.cells #[.int .i64 0, .string ⟨#[]⟩, .int .i64 0, .slice none 0 0] 30)) (Nat.le_of_lt hlt)).trans hg1).alloc hlt (.cells #[.int .i64 t1.kind, .string t1.name, .int .i64 t1.n, .slice ad1 t1.args.length cap1] 30))
    clear hm1 hg1 ht1 hq1 hltv
    have hTr : w1.heap.size ≠ r := by omega
    unfold tmv
    go_wp2_with fail
    go_loopw [6] (fun s6 wr => ∃ (f : Nat) (pri : Int) (t : Tm) (ad : Option Addr) (cap : Nat) (tk : List Tok) (nk : Nms) (vk : Value), s6 = .int .i64 pri ∧ tk.length ≤ f ∧ tk.length ≤ m ∧ Fine tk ∧ nk.length ≤ 200 ∧ Hid (moreR W p f t pri tk nk = E) ∧ RMem wr r vk tk nk ∧ RGo r v w vk wr ∧ WMem (w.heap.size + 1) w1.heap.size wr vk t ad cap ∧ wr.heap[w.heap.size]? = some (.cells #[.int .i64 0, .string ⟨#[]⟩, .int .i64 0, .slice none 0 0] 30 (0, 0)) ∧ some w.heap.size ≠ vk.ownBlock) (fun _ wr => tokLen wr r)
    case atStart => exact ⟨ts1.length, pri1, t1, ad1, cap1, ts1, ns1, v1, rfl, Nat.le_refl _, by omega, HA1.out, b3, HE, HM1.out, HG1.out, HW1.out, HQ1.out, hqv1⟩
    case round =>
      obtain ⟨f, pri, t, ad, cap, tk, nk, vk, rfl, hfl, hml, hfk, hnk, HK, hmk, hgk, hwk, hqk, hqv⟩ := hrel
      have HF := Lib.hid (rd_first wr r vk tk nk hmk hfk.pos)
      have HI := Lib.hid (fun W' => rd_infix (fstT tk) W')
      have HTL := Lib.hid hmk.tokLen
      have HN9 := Lib.hid (fun o (ho : (fstT tk).infix = some o) => hfk.tail (infix_not9 ho))
      have hk := HK.out
      obtain ⟨f', rfl⟩ : ∃ f', f = f' + 1 := ⟨f - 1, by have := hfk.pos; omega⟩
      unfold moreR at hk
      have hws := hgk.below.size
      have HMk := Lib.hid hmk
      have HGk := Lib.hid hgk
      have HWk := Lib.hid hwk
      have HQk := Lib.hid hqk
      have hfs := hfk.first.size
      have hTk := (Array.getElem?_eq_some_iff.1 hwk.cells).1
      clear hmk hgk hwk hqk HK
      cases hi : (fstT tk).infix with
      | none =>
        rw [hi] at HI hk
        rw [opAns_none] at HI
        dsimp only at hk
        have HK2 := Lib.hid hk
        clear hk hi hfk HN9 hfs
        unfold tokv at HF HI
        generalize fstT tk = t0 at *
        obtain ⟨xk, xl, xn, xp⟩ := t0
        dsimp only at *
        generalize (⟨xl.toArray⟩ : ByteArray) = xt at *
        go_wp2_with fail
        refine HF.out.mono ?_; rintro e w3 ⟨rfl, hb3⟩
        go_upto_region 3 with fail
        generalize hw4 : w3.alloc (.cells #[.int .i64 xk, .string xt, .int .i64 xn, .int .i64 (xp : Nat)] 41) = w4
        have HB4 : Hid (Below wr.heap.size wr w4) := Lib.hid (by rw [← hw4]; exact hb3.alloc hb3.size _)
        have HX4 : Hid (w4.heap[w3.heap.size]? = some (.cells #[.int .i64 xk, .string xt, .int .i64 xn, .int .i64 (xp : Nat)] 41 (0, 0))) := Lib.hid (by rw [← hw4]; exact newR w3 _)
        have hs3 := hb3.size
        have hs4 : w4.heap.size = w3.heap.size + 1 := by rw [← hw4]; simp
        obtain ⟨a0, a1, a2, a3, _⟩ := cellsR4 HX4.out
        clear hw4 hb3
        go_wp2_with fail
        refine (HI.out _).mono ?_; rintro e w5 ⟨rfl, hb5⟩
        go_upto_region 4 with fail
        generalize hw6 : w5.alloc (.cells #[.int .i64 0, .string ⟨#[]⟩] 102) = w6
        have hs5 := hb5.size
        have hs6 : w6.heap.size = w5.heap.size + 1 := by rw [← hw6]; simp
        have HB5 := Lib.hid (HB4.out.trans (hb5.mono HB4.out.size))
        have HB6 : Hid (Below wr.heap.size wr w6) := Lib.hid (by rw [← hw6]; exact HB5.out.alloc HB5.out.size _)
        have HO6 : Hid (w6.heap[w5.heap.size]? = some (.cells #[.int .i64 0, .string ⟨#[]⟩] 102 (0, 0))) := Lib.hid (by rw [← hw6]; exact newR w5 _)
        have HX6 : Hid (w6.heap[w3.heap.size]? = some (.cells #[.int .i64 xk, .string xt, .int .i64 xn, .int .i64 (xp : Nat)] 41 (0, 0))) := Lib.hid (by rw [← hw6]; exact pastR (keptR hb5 HX4.out) _)
        have HW6 := Lib.hid (HWk.out.below HB6.out)
        have HQ6 := Lib.hid (keptR HB6.out HQk.out)
        have HM6 := Lib.hid (HMk.out.below HB6.out)
        have HG6 := Lib.hid (HGk.out.trans (RGo.of_below (r := r) (v := vk) HB6.out (by omega)))
        obtain ⟨u0, u1, u2, u3, _⟩ := cellsR4 HW6.out.cells
        obtain ⟨o0, o1, _⟩ := cellsR2 HO6.out
        obtain ⟨d0, d1, d2, d3, e0, e1, e2, e3⟩ := cellsR4 HQ6.out
        clear hw6 hb5 a0 a1 a2 a3 HX4
        go_wp2_with (omega)
        refine bodyPost_ret (v := tmv t ad cap) (by simp [results, Tryz.results67, go_sem, d0, d1, d2, d3, tmv]) rfl ?_
        rw [← HK2.out]
        exact ⟨vk, ad, cap, rfl, ROk.fin (B := w.heap.size + 1) HM6.out HG6.out (TmP.kept HW6.out.tm (fun _ _ _ => rfl) (fun b hp _ => ⟨hp.1, hp.2.1⟩)) hlt (Nat.le_refl _) (Nat.lt_succ_self _) hqv _ _ _ _⟩
      | some o =>
        rw [hi] at HI hk
        rw [opAns_some] at HI
        dsimp only at hk
        have HL := Lib.hid (fun W' => ops_Left o.k o.p W')
        by_cases hpo : p < o.p
        · rw [if_pos (.inl hpo)] at hk
          have HK2 := Lib.hid hk
          clear hk hi hfk HN9 hfs HL
          unfold tokv at HF HI
          generalize fstT tk = t0 at *
          obtain ⟨xk, xl, xn, xp⟩ := t0
          dsimp only at *
          generalize (⟨xl.toArray⟩ : ByteArray) = xt at *
          go_wp2_with fail
          refine HF.out.mono ?_; rintro e w3 ⟨rfl, hb3⟩
          go_upto_region 3 with fail
          generalize hw4 : w3.alloc (.cells #[.int .i64 xk, .string xt, .int .i64 xn, .int .i64 (xp : Nat)] 41) = w4
          have HB4 : Hid (Below wr.heap.size wr w4) := Lib.hid (by rw [← hw4]; exact hb3.alloc hb3.size _)
          have HX4 : Hid (w4.heap[w3.heap.size]? = some (.cells #[.int .i64 xk, .string xt, .int .i64 xn, .int .i64 (xp : Nat)] 41 (0, 0))) := Lib.hid (by rw [← hw4]; exact newR w3 _)
          have hs3 := hb3.size
          have hs4 : w4.heap.size = w3.heap.size + 1 := by rw [← hw4]; simp
          obtain ⟨a0, a1, a2, a3, _⟩ := cellsR4 HX4.out
          clear hw4 hb3
          go_wp2_with fail
          refine (HI.out _).mono ?_; rintro e w5 ⟨rfl, hb5⟩
          go_upto_region 4 with fail
          generalize hw6 : w5.alloc (.cells #[.int .i64 o.p, .string o.k] 102) = w6
          have hs5 := hb5.size
          have hs6 : w6.heap.size = w5.heap.size + 1 := by rw [← hw6]; simp
          have HB5 := Lib.hid (HB4.out.trans (hb5.mono HB4.out.size))
          have HB6 : Hid (Below wr.heap.size wr w6) := Lib.hid (by rw [← hw6]; exact HB5.out.alloc HB5.out.size _)
          have HO6 : Hid (w6.heap[w5.heap.size]? = some (.cells #[.int .i64 o.p, .string o.k] 102 (0, 0))) := Lib.hid (by rw [← hw6]; exact newR w5 _)
          have HX6 : Hid (w6.heap[w3.heap.size]? = some (.cells #[.int .i64 xk, .string xt, .int .i64 xn, .int .i64 (xp : Nat)] 41 (0, 0))) := Lib.hid (by rw [← hw6]; exact pastR (keptR hb5 HX4.out) _)
          have HW6 := Lib.hid (HWk.out.below HB6.out)
          have HQ6 := Lib.hid (keptR HB6.out HQk.out)
          have HM6 := Lib.hid (HMk.out.below HB6.out)
          have HG6 := Lib.hid (HGk.out.trans (RGo.of_below (r := r) (v := vk) HB6.out (by omega)))
          obtain ⟨u0, u1, u2, u3, _⟩ := cellsR4 HW6.out.cells
          obtain ⟨o0, o1, _⟩ := cellsR2 HO6.out
          obtain ⟨d0, d1, d2, d3, e0, e1, e2, e3⟩ := cellsR4 HQ6.out
          clear hw6 hb5 a0 a1 a2 a3 HX4
          go_wp2_with fail
          refine bodyPost_ret (v := tmv t ad cap) (by simp [results, Tryz.results67, go_sem, d0, d1, d2, d3, tmv]) rfl ?_
          rw [← HK2.out]
          exact ⟨vk, ad, cap, rfl, ROk.fin (B := w.heap.size + 1) HM6.out HG6.out (TmP.kept HW6.out.tm (fun _ _ _ => rfl) (fun b hp _ => ⟨hp.1, hp.2.1⟩)) hlt (Nat.le_refl _) (Nat.lt_succ_self _) hqv _ _ _ _⟩
        by_cases hle : leftOf o.k o.p < pri
        · rw [if_pos (.inr hle)] at hk
          have HK2 := Lib.hid hk
          clear hk hi hfk HN9 hfs
          unfold tokv at HF HI
          generalize fstT tk = t0 at *
          obtain ⟨xk, xl, xn, xp⟩ := t0
          dsimp only at *
          generalize (⟨xl.toArray⟩ : ByteArray) = xt at *
          go_wp2_with fail
          refine HF.out.mono ?_; rintro e w3 ⟨rfl, hb3⟩
          go_upto_region 3 with fail
          generalize hw4 : w3.alloc (.cells #[.int .i64 xk, .string xt, .int .i64 xn, .int .i64 (xp : Nat)] 41) = w4
          have HB4 : Hid (Below wr.heap.size wr w4) := Lib.hid (by rw [← hw4]; exact hb3.alloc hb3.size _)
          have HX4 : Hid (w4.heap[w3.heap.size]? = some (.cells #[.int .i64 xk, .string xt, .int .i64 xn, .int .i64 (xp : Nat)] 41 (0, 0))) := Lib.hid (by rw [← hw4]; exact newR w3 _)
          have hs3 := hb3.size
          have hs4 : w4.heap.size = w3.heap.size + 1 := by rw [← hw4]; simp
          obtain ⟨a0, a1, a2, a3, _⟩ := cellsR4 HX4.out
          clear hw4 hb3
          go_wp2_with fail
          refine (HI.out _).mono ?_; rintro e w5 ⟨rfl, hb5⟩
          go_upto_region 4 with fail
          generalize hw6 : w5.alloc (.cells #[.int .i64 o.p, .string o.k] 102) = w6
          have hs5 := hb5.size
          have hs6 : w6.heap.size = w5.heap.size + 1 := by rw [← hw6]; simp
          have HB5 := Lib.hid (HB4.out.trans (hb5.mono HB4.out.size))
          have HB6 : Hid (Below wr.heap.size wr w6) := Lib.hid (by rw [← hw6]; exact HB5.out.alloc HB5.out.size _)
          have HO6 : Hid (w6.heap[w5.heap.size]? = some (.cells #[.int .i64 o.p, .string o.k] 102 (0, 0))) := Lib.hid (by rw [← hw6]; exact newR w5 _)
          have HX6 : Hid (w6.heap[w3.heap.size]? = some (.cells #[.int .i64 xk, .string xt, .int .i64 xn, .int .i64 (xp : Nat)] 41 (0, 0))) := Lib.hid (by rw [← hw6]; exact pastR (keptR hb5 HX4.out) _)
          have HW6 := Lib.hid (HWk.out.below HB6.out)
          have HQ6 := Lib.hid (keptR HB6.out HQk.out)
          have HM6 := Lib.hid (HMk.out.below HB6.out)
          have HG6 := Lib.hid (HGk.out.trans (RGo.of_below (r := r) (v := vk) HB6.out (by omega)))
          obtain ⟨u0, u1, u2, u3, _⟩ := cellsR4 HW6.out.cells
          obtain ⟨o0, o1, _⟩ := cellsR2 HO6.out
          obtain ⟨d0, d1, d2, d3, e0, e1, e2, e3⟩ := cellsR4 HQ6.out
          clear hw6 hb5 a0 a1 a2 a3 HX4
          go_wp2_with fail
          refine (HL.out _).mono ?_; rintro e w7 ⟨rfl, hb7⟩
          have hs7 := hb7.size
          have HX6 := Lib.hid (keptR hb7 HX6.out)
          have HO6 := Lib.hid (keptR hb7 HO6.out)
          have HQ6 := Lib.hid (keptR hb7 HQ6.out)
          have HW6 := Lib.hid (HW6.out.below hb7)
          have HG6 := Lib.hid (HG6.out.trans (RGo.of_below (r := r) (v := vk) hb7 (Nat.le_of_lt HM6.out.lt)))
          have HM6 := Lib.hid (HM6.out.below hb7)
          obtain ⟨u0, u1, u2, u3, _⟩ := cellsR4 HW6.out.cells
          obtain ⟨o0, o1, _⟩ := cellsR2 HO6.out
          obtain ⟨d0, d1, d2, d3, e0, e1, e2, e3⟩ := cellsR4 HQ6.out
          clear hb7
          go_wp2_with fail
          refine bodyPost_ret (v := tmv t ad cap) (by simp [results, Tryz.results67, go_sem, d0, d1, d2, d3, tmv]) rfl ?_
          rw [← HK2.out]
          exact ⟨vk, ad, cap, rfl, ROk.fin (B := w.heap.size + 1) HM6.out HG6.out (TmP.kept HW6.out.tm (fun _ _ _ => rfl) (fun b hp _ => ⟨hp.1, hp.2.1⟩)) hlt (Nat.le_refl _) (Nat.lt_succ_self _) hqv _ _ _ _⟩
        · rw [if_neg (fun c => by rcases c with c | c <;> contradiction)] at hk
          obtain ⟨hft, htl⟩ := HN9.out o hi
          have hft1 := hft.pos
          have HPS := Lib.hid (fun W' hm' => rd_pass W' r vk tk nk hm' (by omega))
          have HC2 := Lib.hid (fun W' hm' => HCC.out (rightOf o.k o.p) tk.tail nk W' r vk (by omega) hft hnk hm')
          have HRT := Lib.hid (fun W' => ops_Right o.k o.p W')
          have HGW := Lib.hid (HWW.out (rightOf o.k o.p) tk.tail nk)
          have HFT := Lib.hid hft
          have HCB : Hid (∀ (w : World) (P : Nat → Prop) (u : Tm) (ad' : Option Addr), TArgsP w P ad' [t, u] → TmP w P (compT (fstT tk).text [t, u]) ad' 2) := Lib.hid (fun w P u ad' h => compP (by omega) (Nat.le_refl _) (by show 2 ≤ maxLen; unfold maxLen; decide) h)
          have HTV : Hid (∀ u : Tm, (compT (fstT tk).text [t, u]).name = ⟨(fstT tk).text.toArray⟩) := Lib.hid (fun u => rfl)
          obtain ⟨E2, hE2⟩ : ∃ E2, W (rightOf o.k o.p) tk.tail nk = E2 := ⟨_, rfl⟩
          rw [hE2] at HC2 hk
          have HE2 := Lib.hid hE2
          have HK2 := Lib.hid hk
          have hX2 := fun b (hb : wr.heap.size ≤ b) => HMk.out.new_ne (b := b) hb
          have HXN := Lib.hid hX2
          clear hk hi hfk HN9 hfs hft hE2 hX2 HCC HWW
          unfold tokv at HF HI
          generalize fstT tk = t0 at *
          obtain ⟨xk, xl, xn, xp⟩ := t0
          dsimp only at *
          generalize (⟨xl.toArray⟩ : ByteArray) = xt at *
          go_wp2_with fail
          refine HF.out.mono ?_; rintro e w3 ⟨rfl, hb3⟩
          go_upto_region 3 with fail
          generalize hw4 : w3.alloc (.cells #[.int .i64 xk, .string xt, .int .i64 xn, .int .i64 (xp : Nat)] 41) = w4
          have HB4 : Hid (Below wr.heap.size wr w4) := Lib.hid (by rw [← hw4]; exact hb3.alloc hb3.size _)
          have HX4 : Hid (w4.heap[w3.heap.size]? = some (.cells #[.int .i64 xk, .string xt, .int .i64 xn, .int .i64 (xp : Nat)] 41 (0, 0))) := Lib.hid (by rw [← hw4]; exact newR w3 _)
          have hs3 := hb3.size
          have hs4 : w4.heap.size = w3.heap.size + 1 := by rw [← hw4]; simp
          obtain ⟨a0, a1, a2, a3, _⟩ := cellsR4 HX4.out
          clear hw4 hb3
          go_wp2_with fail
          refine (HI.out _).mono ?_; rintro e w5 ⟨rfl, hb5⟩
          go_upto_region 4 with fail
          generalize hw6 : w5.alloc (.cells #[.int .i64 o.p, .string o.k] 102) = w6
          have hs5 := hb5.size
          have hs6 : w6.heap.size = w5.heap.size + 1 := by rw [← hw6]; simp
          have HB5 := Lib.hid (HB4.out.trans (hb5.mono HB4.out.size))
          have HB6 : Hid (Below wr.heap.size wr w6) := Lib.hid (by rw [← hw6]; exact HB5.out.alloc HB5.out.size _)
          have HO6 : Hid (w6.heap[w5.heap.size]? = some (.cells #[.int .i64 o.p, .string o.k] 102 (0, 0))) := Lib.hid (by rw [← hw6]; exact newR w5 _)
          have HX6 : Hid (w6.heap[w3.heap.size]? = some (.cells #[.int .i64 xk, .string xt, .int .i64 xn, .int .i64 (xp : Nat)] 41 (0, 0))) := Lib.hid (by rw [← hw6]; exact pastR (keptR hb5 HX4.out) _)
          have HW6 := Lib.hid (HWk.out.below HB6.out)
          have HQ6 := Lib.hid (keptR HB6.out HQk.out)
          have HM6 := Lib.hid (HMk.out.below HB6.out)
          have HG6 := Lib.hid (HGk.out.trans (RGo.of_below (r := r) (v := vk) HB6.out (by omega)))
          obtain ⟨u0, u1, u2, u3, _⟩ := cellsR4 HW6.out.cells
          obtain ⟨o0, o1, _⟩ := cellsR2 HO6.out
          obtain ⟨d0, d1, d2, d3, e0, e1, e2, e3⟩ := cellsR4 HQ6.out
          clear hw6 hb5 a0 a1 a2 a3 HX4
          go_wp2_with fail
          refine (HL.out _).mono ?_; rintro e w7 ⟨rfl, hb7⟩
          have hs7 := hb7.size
          have HX6 := Lib.hid (keptR hb7 HX6.out)
          have HO6 := Lib.hid (keptR hb7 HO6.out)
          have HQ6 := Lib.hid (keptR hb7 HQ6.out)
          have HW6 := Lib.hid (HW6.out.below hb7)
          have HG6 := Lib.hid (HG6.out.trans (RGo.of_below (r := r) (v := vk) hb7 (Nat.le_of_lt HM6.out.lt)))
          have HM6 := Lib.hid (HM6.out.below hb7)
          obtain ⟨u0, u1, u2, u3, _⟩ := cellsR4 HW6.out.cells
          obtain ⟨o0, o1, _⟩ := cellsR2 HO6.out
          obtain ⟨d0, d1, d2, d3, e0, e1, e2, e3⟩ := cellsR4 HQ6.out
          clear hb7
          go_wp2_with fail
          refine (HPS.out _ HM6.out).mono ?_; rintro e w8 ⟨rfl, hm8, hg8⟩
          have hX := HXN.out w3.heap.size hs3
          have hO := HXN.out w5.heap.size (by omega)
          have HX8 := Lib.hid (hg8.at HX6.out hX.1 hX.2)
          have HO8 := Lib.hid (hg8.at HO6.out hO.1 hO.2)
          have HQ8 := Lib.hid (hg8.at HQ6.out hnew.1 hqv)
          have HW8 := Lib.hid (HW6.out.go (r := r) (by omega) hTr hg8)
          have HW8d := Lib.hid (HW8.out.below (Below.refl w8.heap.size w8).drew)
          have HG8 := Lib.hid (HG6.out.trans hg8)
          have HM8 := Lib.hid hm8
          have hs8 := hg8.below.size
          have hTs : w1.heap.size < w8.heap.size := (Array.getElem?_eq_some_iff.1 HW8.out.cells).1
          clear hm8 hg8 u0 u1 u2 u3 o0 o1 d0 d1 d2 d3 e0 e1 e2 e3 HL HX6 HO6 HQ6 HW6 HG6 HM6 HB4 HB5 HB6 HPS HXN HMk HGk HWk HQk
          go_wp2_with fail
          refine wp_region_held_drew (S := (fun W => W.cell? ⟨w3.heap.size, 1, none⟩ = some (.string xt) ∧ W.cell? ⟨w5.heap.size, 0, none⟩ = some (.int .i64 o.p) ∧ W.cell? ⟨w5.heap.size, 1, none⟩ = some (.string o.k))) (by kernel_rfl) ⟨(cellsR4 HX8.out).2.1, (cellsR2 HO8.out).1, (cellsR2 HO8.out).2.1⟩ (fun hHeld1 => ?_)
          refine wpAnyH_take (i := 0) (oi := _) (v := ?v2) rfl (by kernel_rfl) (by kernel_rfl) (by kernel_rfl) (fun _ _ _ h => h) (Or.inl ⟨by rfl, ?y2⟩) (by assumption) ?r2
          case y2 => (intro w hSw; (try dsimp only at hSw); go_simp; try with_reducible rfl)
          try simp only [Act.put]
          try simp only [List.setIfInBounds_toArray]
          try simp only [List.set_cons_zero]
          try simp only [List.set_cons_succ]
          try simp only [List.set_cons_zero]
          refine wpAnyH_take (i := 1) (oi := _) (v := ?v3) rfl (by kernel_rfl) (by kernel_rfl) (by kernel_rfl) (fun _ _ _ h => h) (Or.inl ⟨by rfl, ?y3⟩) (by assumption) ?r3
          case y3 => (intro w hSw; (try dsimp only at hSw); go_simp; try with_reducible rfl)
          try simp only [Act.put]
          try simp only [List.setIfInBounds_toArray]
          try simp only [List.set_cons_zero]
          try simp only [List.set_cons_succ]
          try simp only [List.set_cons_zero]
          refine wpAnyH_take (i := 3) (oi := _) (v := ?v4) rfl (by kernel_rfl) (by kernel_rfl) (by kernel_rfl) (fun _ _ _ h => h) (Or.inl ⟨by rfl, ?y4⟩) (by assumption) ?r4
          case y4 => (intro w hSw; (try dsimp only at hSw); go_simp; try with_reducible rfl)
          try simp only [Act.put]
          try simp only [List.setIfInBounds_toArray]
          try simp only [List.set_cons_zero]
          try simp only [List.set_cons_succ]
          try simp only [List.set_cons_zero]
          refine wpAnyH_take (i := 4) (oi := _) (v := ?v5) rfl (by kernel_rfl) (by kernel_rfl) (by kernel_rfl) (fun _ _ _ h => h) (Or.inl ⟨by rfl, ?y5⟩) (by assumption) ?r5
          case y5 => (intro w hSw; (try dsimp only at hSw); go_simp; try with_reducible rfl)
          try simp only [Act.put]
          try simp only [List.setIfInBounds_toArray]
          try simp only [List.set_cons_zero]
          try simp only [List.set_cons_succ]
          try simp only [List.set_cons_zero]
          refine wpAnyH_take (i := 9) (oi := _) (v := ?v6) rfl (by kernel_rfl) (by kernel_rfl) (by kernel_rfl) (fun _ _ _ h => h) (Or.inl ⟨by rfl, ?y6⟩) (by assumption) ?r6
          case y6 => (intro w hSw; (try dsimp only at hSw); go_simp; try with_reducible rfl)
          try simp only [Act.put]
          try simp only [List.setIfInBounds_toArray]
          try simp only [List.set_cons_zero]
          try simp only [List.set_cons_succ]
          try simp only [List.set_cons_zero]
          refine wpAnyH_take (i := 10) (oi := _) (v := ?v7) rfl (by kernel_rfl) (by kernel_rfl) (by kernel_rfl) (fun _ _ _ h => h) (Or.inl ⟨by rfl, ?y7⟩) (by assumption) ?r7
          case y7 => (intro w hSw; (try dsimp only at hSw); go_simp; try with_reducible rfl)
          try simp only [Act.put]
          try simp only [List.setIfInBounds_toArray]
          try simp only [List.set_cons_zero]
          try simp only [List.set_cons_succ]
          try simp only [List.set_cons_zero]
          refine wpAnyH_ready (rs := [2, 5]) (by kernel_rfl) (by simp) ?_
          refine AllReadyH.cons (o := _) rfl (fun K hK => ?_) (AllReadyH.cons (o := _) rfl (fun K hK => ?_) (AllReadyH.nil))
          · obtain ⟨u0, u1, u2, u3, _⟩ := cellsR4 HW8d.out.cells
            go_simp
            try go_wp2_with fail
            refine hK.out _ _ ⟨(cellsR4 HX8.out).2.1, (cellsR2 HO8.out).1, (cellsR2 HO8.out).2.1⟩ (fun hHeld8 => ?_)
            clear hK K hHeld1
            try simp only [Act.put]
            try simp only [List.setIfInBounds_toArray]
            try simp only [List.set_cons_zero]
            try simp only [List.set_cons_succ]
            try simp only [List.set_cons_zero]
            refine wpAnyH_ready (rs := [5]) (by kernel_rfl) (by simp) ?_
            refine AllReadyH.cons (o := _) rfl (fun K hK => ?_) (AllReadyH.nil)
            go_simp
            (with_reducible refine (HRT.out _).mono ?_); rintro e w9 ⟨rfl, hb9⟩
            have HD9 := Lib.hid ((Below.refl w8.heap.size w8).drew.trans hb9)
            have hs9 := HD9.out.size
            have HX9 := Lib.hid (keptR HD9.out HX8.out)
            have HO9 := Lib.hid (keptR HD9.out HO8.out)
            have HQ9 := Lib.hid (keptR HD9.out HQ8.out)
            have HW9 := Lib.hid (HW8.out.below HD9.out)
            have HM9 := Lib.hid (HM8.out.below HD9.out)
            have HG9 := Lib.hid (HG8.out.trans (RGo.of_below (r := r) (v := vk) HD9.out (Nat.le_of_lt HM8.out.lt)))
            clear hb9
            try go_wp2_with fail
            refine hK.out _ _ ⟨(cellsR4 HX9.out).2.1, (cellsR2 HO9.out).1, (cellsR2 HO9.out).2.1⟩ (fun hHeld9 => ?_)
            clear hK K hHeld8
            try simp only [Act.put]
            try simp only [List.setIfInBounds_toArray]
            try simp only [List.set_cons_zero]
            try simp only [List.set_cons_succ]
            try simp only [List.set_cons_zero]
            refine wpAnyH_ready (rs := [6]) (by kernel_rfl) (by simp) ?_
            refine AllReadyH.cons (o := _) rfl (fun K hK => ?_) (AllReadyH.nil)
            go_simp
            cases E2 with
            | bad o1 =>
              (with_reducible refine (HC2.out _ HM9.out).mono ?_); rintro e w10 ⟨rfl, hc10⟩
              refine ⟨rfl, ?_⟩
              have hkb := HK2.out
              rw [Rd.bind_bad] at hkb
              rw [← hkb]
              exact ⟨rfl, HG9.out.below.trans hc10⟩
            | ok u tk2 nk2 =>
              (with_reducible refine (HC2.out _ HM9.out).mono ?_); rintro e w10 ⟨v10, ad2, cap2, rfl, hm10, hg10, ht10⟩
              have hs10 := hg10.below.size
              have HX10 := Lib.hid (hg10.at HX9.out hX.1 hX.2)
              have HO10 := Lib.hid (hg10.at HO9.out hO.1 hO.2)
              have HQ10 := Lib.hid (hg10.at HQ9.out hnew.1 hqv)
              have HW10 := Lib.hid (HW9.out.go (r := r) (by omega) hTr hg10)
              have hqv10 := hg10.ne (b := w.heap.size) (Array.getElem?_eq_some_iff.1 HQ9.out).1 hqv
              have HM10 := Lib.hid hm10
              have HG10 := Lib.hid (HG9.out.trans hg10)
              have HU10 : Hid (TmP w10 (fun b => w.heap.size + 1 ≤ b ∧ some b ≠ v10.ownBlock ∧ b ≠ w1.heap.size) u ad2 cap2) := Lib.hid (TmP.kept ht10 (fun _ _ _ => rfl) (fun b hp _ => ⟨by have := hp.1; omega, hp.2, by have := hp.1; omega⟩))
              clear hm10 hg10 ht10
              unfold tmv
              try go_wp2_with fail
              refine hK.out _ _ ⟨(cellsR4 HX10.out).2.1, (cellsR2 HO10.out).1, (cellsR2 HO10.out).2.1⟩ (fun hHeld10 => ?_)
              clear hK K hHeld9
              try simp only [Act.put]
              try simp only [List.setIfInBounds_toArray]
              try simp only [List.set_cons_zero]
              try simp only [List.set_cons_succ]
              try simp only [List.set_cons_zero]
              refine wpAnyH_ready (rs := [7]) (by kernel_rfl) (by simp) ?_
              refine AllReadyH.cons (o := _) rfl (fun K hK => ?_) (AllReadyH.nil)
              go_simp
              try go_wp2_with fail
              refine hK.out _ _ ⟨(cellsR4 (pastR HX10.out _)).2.1, (cellsR2 (pastR HO10.out _)).1, (cellsR2 (pastR HO10.out _)).2.1⟩ (fun hHeld11 => ?_)
              clear hK K hHeld10
              try simp only [Act.put]
              try simp only [List.setIfInBounds_toArray]
              try simp only [List.set_cons_zero]
              try simp only [List.set_cons_succ]
              try simp only [List.set_cons_zero]
              have hltv10 := HM10.out.ltv
              have HA11 : Hid (TArgsP (w10.alloc (.cells #[.int .i64 t.kind, .string t.name, .int .i64 t.n, .slice ad t.args.length cap, .int .i64 u.kind, .string u.name, .int .i64 u.n, .slice ad2 u.args.length cap2] 30)) (fun b => w.heap.size + 1 ≤ b ∧ some b ≠ v10.ownBlock ∧ b ≠ w1.heap.size) (some ⟨w10.heap.size, 0, none⟩) [t, u]) := Lib.hid (args2T ⟨by omega, fun e => by have := hltv10 _ e.symm; omega, by omega⟩ HW10.out.tm HU10.out)
              have HM11 := Lib.hid (HM10.out.below ((Below.refl _ w10).alloc (Nat.le_refl _) (.cells #[.int .i64 t.kind, .string t.name, .int .i64 t.n, .slice ad t.args.length cap, .int .i64 u.kind, .string u.name, .int .i64 u.n, .slice ad2 u.args.length cap2] 30)))
              have HG11 := Lib.hid (HG10.out.alloc hlt (.cells #[.int .i64 t.kind, .string t.name, .int .i64 t.n, .slice ad t.args.length cap, .int .i64 u.kind, .string u.name, .int .i64 u.n, .slice ad2 u.args.length cap2] 30))
              have HQ11 := Lib.hid (pastR HQ10.out (.cells #[.int .i64 t.kind, .string t.name, .int .i64 t.n, .slice ad t.args.length cap, .int .i64 u.kind, .string u.name, .int .i64 u.n, .slice ad2 u.args.length cap2] 30))
              have HT11 := Lib.hid (pastR HW10.out.cells (.cells #[.int .i64 t.kind, .string t.name, .int .i64 t.n, .slice ad t.args.length cap, .int .i64 u.kind, .string u.name, .int .i64 u.n, .slice ad2 u.args.length cap2] 30))
              refine wpAnyH_ready (rs := [8]) (by kernel_rfl) (by simp) ?_
              refine AllReadyH.cons (o := _) rfl (fun K hK => ?_) (AllReadyH.nil)
              go_simp
              (with_reducible refine (rd_comp _ _ _ _ _).mono ?_); rintro e w12 ⟨rfl, hb12⟩
              have HX12 := Lib.hid (keptR hb12 (pastR HX10.out _))
              have HO12 := Lib.hid (keptR hb12 (pastR HO10.out _))
              have HQ12 := Lib.hid (keptR hb12 HQ11.out)
              have HT12 := Lib.hid (keptR hb12 HT11.out)
              have HM12 := Lib.hid (HM11.out.below hb12)
              have HG12 := Lib.hid (HG11.out.trans (RGo.of_below hb12 (by have := HM11.out.lt; omega)))
              have HA12 := Lib.hid (TArgsP.kept HA11.out (fun b _ hb => hb12.block b hb) (fun _ hp _ => hp))
              obtain ⟨d0, d1, d2, d3, e0, e1, e2, e3⟩ := cellsR4 HT12.out
              clear hb12
              have hq1 : w3.heap.size ≠ w1.heap.size := by omega
              have hq2 : w5.heap.size ≠ w1.heap.size := by omega
              have hq3 : w.heap.size ≠ w1.heap.size := by omega
              try go_wp2_with fail
              refine hK.out _ _ ⟨(cellsR4 HX12.out).2.1, (cellsR2 HO12.out).1, (cellsR2 HO12.out).2.1⟩ (fun hHeld12 => ?_)
              clear hK K hHeld11
              try simp only [Act.put]
              try simp only [List.setIfInBounds_toArray]
              try simp only [List.set_cons_zero]
              try simp only [List.set_cons_succ]
              try simp only [List.set_cons_zero]
              refine wpAnyH_ready (rs := [11]) (by kernel_rfl) (by simp) ?_
              refine AllReadyH.cons (o := _) rfl (fun K hK => ?_) (AllReadyH.nil)
              go_simp
              try go_wp2_with fail
              refine hK.out _ _ ⟨(cell_set4 hq1 _ _ _ _).trans (cellsR4 HX12.out).2.1, (cell_set4 hq2 _ _ _ _).trans (cellsR2 HO12.out).1, (cell_set4 hq2 _ _ _ _).trans (cellsR2 HO12.out).2.1⟩ (fun hHeld13 => ?_)
              clear hK K hHeld12
              try simp only [Act.put]
              try simp only [List.setIfInBounds_toArray]
              try simp only [List.set_cons_zero]
              try simp only [List.set_cons_succ]
              try simp only [List.set_cons_zero]
              refine wpAnyH_ready (rs := [12]) (by kernel_rfl) (by simp) ?_
              refine AllReadyH.cons (o := _) rfl (fun K hK => ?_) (AllReadyH.nil)
              go_simp
              try go_wp2_with fail
              refine hK.out _ _ (by assumption) (fun hHeld14 => ?_)
              clear hK K hHeld13
              try simp only [Act.put]
              try simp only [List.setIfInBounds_toArray]
              try simp only [List.set_cons_zero]
              try simp only [List.set_cons_succ]
              try simp only [List.set_cons_zero]
              refine wpAnyH_done (by kernel_rfl) ?_ _
              go_wp2_with fail
              have hn12 := WMem.next HM12.out HG12.out (by omega) (by omega) HW10.out.own HT12.out (HCB.out _ _ _ _ HA12.out) (HTV.out u)
              obtain ⟨n1, n2, n3, n4⟩ := hn12
              obtain ⟨l1, l2, l3⟩ := HGW.out u tk2 nk2 (by omega) HFT.out hnk HE2.out
              have hk3 := HK2.out
              rw [Rd.bind_ok] at hk3
              have hup := u.size_pos
              go_roundw
              case rel => exact ⟨f', o.p, _, some ⟨w10.heap.size, 0, none⟩, 2, tk2, nk2, v10, rfl, by omega, by omega, l1, l3, Lib.hid hk3, n1, n2, n3, (n4 _ hq3).trans HQ12.out, hqv10⟩
              case measure => rw [n1.tokLen, HTL.out]; omega
          · go_simp
            (with_reducible refine (HRT.out _).mono ?_); rintro e w9 ⟨rfl, hb9⟩
            have HD9 := Lib.hid ((Below.refl w8.heap.size w8).drew.trans hb9)
            have hs9 := HD9.out.size
            have HX9 := Lib.hid (keptR HD9.out HX8.out)
            have HO9 := Lib.hid (keptR HD9.out HO8.out)
            have HQ9 := Lib.hid (keptR HD9.out HQ8.out)
            have HW9 := Lib.hid (HW8.out.below HD9.out)
            have HM9 := Lib.hid (HM8.out.below HD9.out)
            have HG9 := Lib.hid (HG8.out.trans (RGo.of_below (r := r) (v := vk) HD9.out (Nat.le_of_lt HM8.out.lt)))
            clear hb9
            try go_wp2_with fail
            refine hK.out _ _ ⟨(cellsR4 HX9.out).2.1, (cellsR2 HO9.out).1, (cellsR2 HO9.out).2.1⟩ (fun hHeld15 => ?_)
            clear hK K hHeld1
            try simp only [Act.put]
            try simp only [List.setIfInBounds_toArray]
            try simp only [List.set_cons_zero]
            try simp only [List.set_cons_succ]
            try simp only [List.set_cons_zero]
            refine wpAnyH_ready (rs := [2, 6]) (by kernel_rfl) (by simp) ?_
            refine AllReadyH.cons (o := _) rfl (fun K hK => ?_) (AllReadyH.cons (o := _) rfl (fun K hK => ?_) (AllReadyH.nil))
            · obtain ⟨u0, u1, u2, u3, _⟩ := cellsR4 HW9.out.cells
              go_simp
              try go_wp2_with fail
              refine hK.out _ _ ⟨(cellsR4 HX9.out).2.1, (cellsR2 HO9.out).1, (cellsR2 HO9.out).2.1⟩ (fun hHeld16 => ?_)
              clear hK K hHeld15
              try simp only [Act.put]
              try simp only [List.setIfInBounds_toArray]
              try simp only [List.set_cons_zero]
              try simp only [List.set_cons_succ]
              try simp only [List.set_cons_zero]
              refine wpAnyH_ready (rs := [6]) (by kernel_rfl) (by simp) ?_
              refine AllReadyH.cons (o := _) rfl (fun K hK => ?_) (AllReadyH.nil)
              go_simp
              cases E2 with
              | bad o1 =>
                (with_reducible refine (HC2.out _ HM9.out).mono ?_); rintro e w10 ⟨rfl, hc10⟩
                refine ⟨rfl, ?_⟩
                have hkb := HK2.out
                rw [Rd.bind_bad] at hkb
                rw [← hkb]
                exact ⟨rfl, HG9.out.below.trans hc10⟩
              | ok u tk2 nk2 =>
                (with_reducible refine (HC2.out _ HM9.out).mono ?_); rintro e w10 ⟨v10, ad2, cap2, rfl, hm10, hg10, ht10⟩
                have hs10 := hg10.below.size
                have HX10 := Lib.hid (hg10.at HX9.out hX.1 hX.2)
                have HO10 := Lib.hid (hg10.at HO9.out hO.1 hO.2)
                have HQ10 := Lib.hid (hg10.at HQ9.out hnew.1 hqv)
                have HW10 := Lib.hid (HW9.out.go (r := r) (by omega) hTr hg10)
                have hqv10 := hg10.ne (b := w.heap.size) (Array.getElem?_eq_some_iff.1 HQ9.out).1 hqv
                have HM10 := Lib.hid hm10
                have HG10 := Lib.hid (HG9.out.trans hg10)
                have HU10 : Hid (TmP w10 (fun b => w.heap.size + 1 ≤ b ∧ some b ≠ v10.ownBlock ∧ b ≠ w1.heap.size) u ad2 cap2) := Lib.hid (TmP.kept ht10 (fun _ _ _ => rfl) (fun b hp _ => ⟨by have := hp.1; omega, hp.2, by have := hp.1; omega⟩))
                clear hm10 hg10 ht10
                unfold tmv
                try go_wp2_with fail
                refine hK.out _ _ ⟨(cellsR4 HX10.out).2.1, (cellsR2 HO10.out).1, (cellsR2 HO10.out).2.1⟩ (fun hHeld17 => ?_)
                clear hK K hHeld16
                try simp only [Act.put]
                try simp only [List.setIfInBounds_toArray]
                try simp only [List.set_cons_zero]
                try simp only [List.set_cons_succ]
                try simp only [List.set_cons_zero]
                refine wpAnyH_ready (rs := [7]) (by kernel_rfl) (by simp) ?_
                refine AllReadyH.cons (o := _) rfl (fun K hK => ?_) (AllReadyH.nil)
                go_simp
                try go_wp2_with fail
                refine hK.out _ _ ⟨(cellsR4 (pastR HX10.out _)).2.1, (cellsR2 (pastR HO10.out _)).1, (cellsR2 (pastR HO10.out _)).2.1⟩ (fun hHeld18 => ?_)
                clear hK K hHeld17
                try simp only [Act.put]
                try simp only [List.setIfInBounds_toArray]
                try simp only [List.set_cons_zero]
                try simp only [List.set_cons_succ]
                try simp only [List.set_cons_zero]
                have hltv10 := HM10.out.ltv
                have HA11 : Hid (TArgsP (w10.alloc (.cells #[.int .i64 t.kind, .string t.name, .int .i64 t.n, .slice ad t.args.length cap, .int .i64 u.kind, .string u.name, .int .i64 u.n, .slice ad2 u.args.length cap2] 30)) (fun b => w.heap.size + 1 ≤ b ∧ some b ≠ v10.ownBlock ∧ b ≠ w1.heap.size) (some ⟨w10.heap.size, 0, none⟩) [t, u]) := Lib.hid (args2T ⟨by omega, fun e => by have := hltv10 _ e.symm; omega, by omega⟩ HW10.out.tm HU10.out)
                have HM11 := Lib.hid (HM10.out.below ((Below.refl _ w10).alloc (Nat.le_refl _) (.cells #[.int .i64 t.kind, .string t.name, .int .i64 t.n, .slice ad t.args.length cap, .int .i64 u.kind, .string u.name, .int .i64 u.n, .slice ad2 u.args.length cap2] 30)))
                have HG11 := Lib.hid (HG10.out.alloc hlt (.cells #[.int .i64 t.kind, .string t.name, .int .i64 t.n, .slice ad t.args.length cap, .int .i64 u.kind, .string u.name, .int .i64 u.n, .slice ad2 u.args.length cap2] 30))
                have HQ11 := Lib.hid (pastR HQ10.out (.cells #[.int .i64 t.kind, .string t.name, .int .i64 t.n, .slice ad t.args.length cap, .int .i64 u.kind, .string u.name, .int .i64 u.n, .slice ad2 u.args.length cap2] 30))
                have HT11 := Lib.hid (pastR HW10.out.cells (.cells #[.int .i64 t.kind, .string t.name, .int .i64 t.n, .slice ad t.args.length cap, .int .i64 u.kind, .string u.name, .int .i64 u.n, .slice ad2 u.args.length cap2] 30))
                refine wpAnyH_ready (rs := [8]) (by kernel_rfl) (by simp) ?_
                refine AllReadyH.cons (o := _) rfl (fun K hK => ?_) (AllReadyH.nil)
                go_simp
                (with_reducible refine (rd_comp _ _ _ _ _).mono ?_); rintro e w12 ⟨rfl, hb12⟩
                have HX12 := Lib.hid (keptR hb12 (pastR HX10.out _))
                have HO12 := Lib.hid (keptR hb12 (pastR HO10.out _))
                have HQ12 := Lib.hid (keptR hb12 HQ11.out)
                have HT12 := Lib.hid (keptR hb12 HT11.out)
                have HM12 := Lib.hid (HM11.out.below hb12)
                have HG12 := Lib.hid (HG11.out.trans (RGo.of_below hb12 (by have := HM11.out.lt; omega)))
                have HA12 := Lib.hid (TArgsP.kept HA11.out (fun b _ hb => hb12.block b hb) (fun _ hp _ => hp))
                obtain ⟨d0, d1, d2, d3, e0, e1, e2, e3⟩ := cellsR4 HT12.out
                clear hb12
                have hq1 : w3.heap.size ≠ w1.heap.size := by omega
                have hq2 : w5.heap.size ≠ w1.heap.size := by omega
                have hq3 : w.heap.size ≠ w1.heap.size := by omega
                try go_wp2_with fail
                refine hK.out _ _ ⟨(cellsR4 HX12.out).2.1, (cellsR2 HO12.out).1, (cellsR2 HO12.out).2.1⟩ (fun hHeld19 => ?_)
                clear hK K hHeld18
                try simp only [Act.put]
                try simp only [List.setIfInBounds_toArray]
                try simp only [List.set_cons_zero]
                try simp only [List.set_cons_succ]
                try simp only [List.set_cons_zero]
                refine wpAnyH_ready (rs := [11]) (by kernel_rfl) (by simp) ?_
                refine AllReadyH.cons (o := _) rfl (fun K hK => ?_) (AllReadyH.nil)
                go_simp
                try go_wp2_with fail
                refine hK.out _ _ ⟨(cell_set4 hq1 _ _ _ _).trans (cellsR4 HX12.out).2.1, (cell_set4 hq2 _ _ _ _).trans (cellsR2 HO12.out).1, (cell_set4 hq2 _ _ _ _).trans (cellsR2 HO12.out).2.1⟩ (fun hHeld20 => ?_)
                clear hK K hHeld19
                try simp only [Act.put]
                try simp only [List.setIfInBounds_toArray]
                try simp only [List.set_cons_zero]
                try simp only [List.set_cons_succ]
                try simp only [List.set_cons_zero]
                refine wpAnyH_ready (rs := [12]) (by kernel_rfl) (by simp) ?_
                refine AllReadyH.cons (o := _) rfl (fun K hK => ?_) (AllReadyH.nil)
                go_simp
                try go_wp2_with fail
                refine hK.out _ _ (by assumption) (fun hHeld21 => ?_)
                clear hK K hHeld20
                try simp only [Act.put]
                try simp only [List.setIfInBounds_toArray]
                try simp only [List.set_cons_zero]
                try simp only [List.set_cons_succ]
                try simp only [List.set_cons_zero]
                refine wpAnyH_done (by kernel_rfl) ?_ _
                go_wp2_with fail
                have hn12 := WMem.next HM12.out HG12.out (by omega) (by omega) HW10.out.own HT12.out (HCB.out _ _ _ _ HA12.out) (HTV.out u)
                obtain ⟨n1, n2, n3, n4⟩ := hn12
                obtain ⟨l1, l2, l3⟩ := HGW.out u tk2 nk2 (by omega) HFT.out hnk HE2.out
                have hk3 := HK2.out
                rw [Rd.bind_ok] at hk3
                have hup := u.size_pos
                go_roundw
                case rel => exact ⟨f', o.p, _, some ⟨w10.heap.size, 0, none⟩, 2, tk2, nk2, v10, rfl, by omega, by omega, l1, l3, Lib.hid hk3, n1, n2, n3, (n4 _ hq3).trans HQ12.out, hqv10⟩
                case measure => rw [n1.tokLen, HTL.out]; omega
            · go_simp
              cases E2 with
              | bad o1 =>
                (with_reducible refine (HC2.out _ HM9.out).mono ?_); rintro e w10 ⟨rfl, hc10⟩
                refine ⟨rfl, ?_⟩
                have hkb := HK2.out
                rw [Rd.bind_bad] at hkb
                rw [← hkb]
                exact ⟨rfl, HG9.out.below.trans hc10⟩
              | ok u tk2 nk2 =>
                (with_reducible refine (HC2.out _ HM9.out).mono ?_); rintro e w10 ⟨v10, ad2, cap2, rfl, hm10, hg10, ht10⟩
                have hs10 := hg10.below.size
                have HX10 := Lib.hid (hg10.at HX9.out hX.1 hX.2)
                have HO10 := Lib.hid (hg10.at HO9.out hO.1 hO.2)
                have HQ10 := Lib.hid (hg10.at HQ9.out hnew.1 hqv)
                have HW10 := Lib.hid (HW9.out.go (r := r) (by omega) hTr hg10)
                have hqv10 := hg10.ne (b := w.heap.size) (Array.getElem?_eq_some_iff.1 HQ9.out).1 hqv
                have HM10 := Lib.hid hm10
                have HG10 := Lib.hid (HG9.out.trans hg10)
                have HU10 : Hid (TmP w10 (fun b => w.heap.size + 1 ≤ b ∧ some b ≠ v10.ownBlock ∧ b ≠ w1.heap.size) u ad2 cap2) := Lib.hid (TmP.kept ht10 (fun _ _ _ => rfl) (fun b hp _ => ⟨by have := hp.1; omega, hp.2, by have := hp.1; omega⟩))
                clear hm10 hg10 ht10
                unfold tmv
                try go_wp2_with fail
                refine hK.out _ _ ⟨(cellsR4 HX10.out).2.1, (cellsR2 HO10.out).1, (cellsR2 HO10.out).2.1⟩ (fun hHeld22 => ?_)
                clear hK K hHeld15
                try simp only [Act.put]
                try simp only [List.setIfInBounds_toArray]
                try simp only [List.set_cons_zero]
                try simp only [List.set_cons_succ]
                try simp only [List.set_cons_zero]
                refine wpAnyH_ready (rs := [2]) (by kernel_rfl) (by simp) ?_
                refine AllReadyH.cons (o := _) rfl (fun K hK => ?_) (AllReadyH.nil)
                obtain ⟨u0, u1, u2, u3, _⟩ := cellsR4 HW10.out.cells
                go_simp
                try go_wp2_with fail
                refine hK.out _ _ ⟨(cellsR4 HX10.out).2.1, (cellsR2 HO10.out).1, (cellsR2 HO10.out).2.1⟩ (fun hHeld23 => ?_)
                clear hK K hHeld22
                try simp only [Act.put]
                try simp only [List.setIfInBounds_toArray]
                try simp only [List.set_cons_zero]
                try simp only [List.set_cons_succ]
                try simp only [List.set_cons_zero]
                refine wpAnyH_ready (rs := [7]) (by kernel_rfl) (by simp) ?_
                refine AllReadyH.cons (o := _) rfl (fun K hK => ?_) (AllReadyH.nil)
                go_simp
                try go_wp2_with fail
                refine hK.out _ _ ⟨(cellsR4 (pastR HX10.out _)).2.1, (cellsR2 (pastR HO10.out _)).1, (cellsR2 (pastR HO10.out _)).2.1⟩ (fun hHeld24 => ?_)
                clear hK K hHeld23
                try simp only [Act.put]
                try simp only [List.setIfInBounds_toArray]
                try simp only [List.set_cons_zero]
                try simp only [List.set_cons_succ]
                try simp only [List.set_cons_zero]
                have hltv10 := HM10.out.ltv
                have HA11 : Hid (TArgsP (w10.alloc (.cells #[.int .i64 t.kind, .string t.name, .int .i64 t.n, .slice ad t.args.length cap, .int .i64 u.kind, .string u.name, .int .i64 u.n, .slice ad2 u.args.length cap2] 30)) (fun b => w.heap.size + 1 ≤ b ∧ some b ≠ v10.ownBlock ∧ b ≠ w1.heap.size) (some ⟨w10.heap.size, 0, none⟩) [t, u]) := Lib.hid (args2T ⟨by omega, fun e => by have := hltv10 _ e.symm; omega, by omega⟩ HW10.out.tm HU10.out)
                have HM11 := Lib.hid (HM10.out.below ((Below.refl _ w10).alloc (Nat.le_refl _) (.cells #[.int .i64 t.kind, .string t.name, .int .i64 t.n, .slice ad t.args.length cap, .int .i64 u.kind, .string u.name, .int .i64 u.n, .slice ad2 u.args.length cap2] 30)))
                have HG11 := Lib.hid (HG10.out.alloc hlt (.cells #[.int .i64 t.kind, .string t.name, .int .i64 t.n, .slice ad t.args.length cap, .int .i64 u.kind, .string u.name, .int .i64 u.n, .slice ad2 u.args.length cap2] 30))
                have HQ11 := Lib.hid (pastR HQ10.out (.cells #[.int .i64 t.kind, .string t.name, .int .i64 t.n, .slice ad t.args.length cap, .int .i64 u.kind, .string u.name, .int .i64 u.n, .slice ad2 u.args.length cap2] 30))
                have HT11 := Lib.hid (pastR HW10.out.cells (.cells #[.int .i64 t.kind, .string t.name, .int .i64 t.n, .slice ad t.args.length cap, .int .i64 u.kind, .string u.name, .int .i64 u.n, .slice ad2 u.args.length cap2] 30))
                refine wpAnyH_ready (rs := [8]) (by kernel_rfl) (by simp) ?_
                refine AllReadyH.cons (o := _) rfl (fun K hK => ?_) (AllReadyH.nil)
                go_simp
                (with_reducible refine (rd_comp _ _ _ _ _).mono ?_); rintro e w12 ⟨rfl, hb12⟩
                have HX12 := Lib.hid (keptR hb12 (pastR HX10.out _))
                have HO12 := Lib.hid (keptR hb12 (pastR HO10.out _))
                have HQ12 := Lib.hid (keptR hb12 HQ11.out)
                have HT12 := Lib.hid (keptR hb12 HT11.out)
                have HM12 := Lib.hid (HM11.out.below hb12)
                have HG12 := Lib.hid (HG11.out.trans (RGo.of_below hb12 (by have := HM11.out.lt; omega)))
                have HA12 := Lib.hid (TArgsP.kept HA11.out (fun b _ hb => hb12.block b hb) (fun _ hp _ => hp))
                obtain ⟨d0, d1, d2, d3, e0, e1, e2, e3⟩ := cellsR4 HT12.out
                clear hb12
                have hq1 : w3.heap.size ≠ w1.heap.size := by omega
                have hq2 : w5.heap.size ≠ w1.heap.size := by omega
                have hq3 : w.heap.size ≠ w1.heap.size := by omega
                try go_wp2_with fail
                refine hK.out _ _ ⟨(cellsR4 HX12.out).2.1, (cellsR2 HO12.out).1, (cellsR2 HO12.out).2.1⟩ (fun hHeld25 => ?_)
                clear hK K hHeld24
                try simp only [Act.put]
                try simp only [List.setIfInBounds_toArray]
                try simp only [List.set_cons_zero]
                try simp only [List.set_cons_succ]
                try simp only [List.set_cons_zero]
                refine wpAnyH_ready (rs := [11]) (by kernel_rfl) (by simp) ?_
                refine AllReadyH.cons (o := _) rfl (fun K hK => ?_) (AllReadyH.nil)
                go_simp
                try go_wp2_with fail
                refine hK.out _ _ ⟨(cell_set4 hq1 _ _ _ _).trans (cellsR4 HX12.out).2.1, (cell_set4 hq2 _ _ _ _).trans (cellsR2 HO12.out).1, (cell_set4 hq2 _ _ _ _).trans (cellsR2 HO12.out).2.1⟩ (fun hHeld26 => ?_)
                clear hK K hHeld25
                try simp only [Act.put]
                try simp only [List.setIfInBounds_toArray]
                try simp only [List.set_cons_zero]
                try simp only [List.set_cons_succ]
                try simp only [List.set_cons_zero]
                refine wpAnyH_ready (rs := [12]) (by kernel_rfl) (by simp) ?_
                refine AllReadyH.cons (o := _) rfl (fun K hK => ?_) (AllReadyH.nil)
                go_simp
                try go_wp2_with fail
                refine hK.out _ _ (by assumption) (fun hHeld27 => ?_)
                clear hK K hHeld26
                try simp only [Act.put]
                try simp only [List.setIfInBounds_toArray]
                try simp only [List.set_cons_zero]
                try simp only [List.set_cons_succ]
                try simp only [List.set_cons_zero]
                refine wpAnyH_done (by kernel_rfl) ?_ _
                go_wp2_with fail
                have hn12 := WMem.next HM12.out HG12.out (by omega) (by omega) HW10.out.own HT12.out (HCB.out _ _ _ _ HA12.out) (HTV.out u)
                obtain ⟨n1, n2, n3, n4⟩ := hn12
                obtain ⟨l1, l2, l3⟩ := HGW.out u tk2 nk2 (by omega) HFT.out hnk HE2.out
                have hk3 := HK2.out
                rw [Rd.bind_ok] at hk3
                have hup := u.size_pos
                go_roundw
                case rel => exact ⟨f', o.p, _, some ⟨w10.heap.size, 0, none⟩, 2, tk2, nk2, v10, rfl, by omega, by omega, l1, l3, Lib.hid hk3, n1, n2, n3, (n4 _ hq3).trans HQ12.out, hqv10⟩
                case measure => rw [n1.tokLen, HTL.out]; omega

end Go.Proofs.YtlbdocdjijhkbaaGreatDoor
