/-
  The contract of package read's own inside, given what is read between the brackets.
-/
import Derived.Test.YtlbdocdjijhkbaaGreatDoorReadE
namespace Go.Proofs.YtlbdocdjijhkbaaGreatDoor
open Go.RowKit
attribute [-go_sem] sliced

set_option maxRecDepth 100000 in
set_option maxHeartbeats 4000000 in
theorem rd_inside (fid : Nat) (he : ∀ args w, (callFunc fid args).run Tryz.prog w = .ok (.enter fid args) w) (capt : Array Value) (c : List UInt8) (cb : ByteArray) (hcb : cb = ⟨c.toArray⟩) (x : Rd Tm) (ts : List Tok) (ns : Nms) (w : World) (r : Nat) (v : Value) (h2 : 2 ≤ ts.length) (h : RMem w r v ts ns)
    (hx : ∀ t ts' ns', x = .ok t ts' ns' → Fine ts')
    (hcall : ∀ W, RMem W r v ts.tail ns → RGo r v w v W → w.heap.size < W.heap.size → Calls Tryz.prog fid capt W fun e w' => ROut r v W x e w') :
    Calls Tryz.prog 139 #[.pointer (some ⟨r, 0, none⟩), .string cb, .func (.func fid) #[] capt] w fun e w' => ROut r v w (closeR c x) e w' := by
  have hlt := h.lt
  have hnew := h.new_ne (Nat.le_refl _)
  have HB := Lib.hid (fun o : Obj => (Below.refl w.heap.size w).alloc (Nat.le_refl _) o)
  have HP := Lib.hid (fun W (hb : Below w.heap.size w W) => rd_pass W r v ts ns (h.below hb) h2)
  have HC := Lib.hid hcall
  have HX := Lib.hid hx
  have hq := newR w (.cells #[.int .i64 0, .string ⟨#[]⟩, .int .i64 0, .slice none 0 0] 30)
  have HQ := Lib.hid hq
  have HCB := Lib.hid hcb
  clear h hcall hx hq hcb
  unfold closeR
  cases x with
  | bad o =>
    rw [Rd.bind_bad]
    go_enter Tryz.func139, Tryz.ntmps139
    go_wp2_with fail
    refine (HP.out _ (HB.out _)).mono ?_; rintro e w1 ⟨rfl, hm1, hg1⟩
    have hg2 := (RGo.of_below (r := r) (v := v) (HB.out (.cells #[.int .i64 0, .string ⟨#[]⟩, .int .i64 0, .slice none 0 0] 30)) (Nat.le_of_lt hlt)).trans hg1
    have HM1 := Lib.hid hm1
    have HG2 := Lib.hid hg2
    have hs1 := hg1.below.size
    rw [World.size_alloc] at hs1
    clear hm1 hg1 hg2
    go_wp2_with fail
    refine (HC.out _ HM1.out HG2.out (by omega)).mono ?_; rintro e w2 ⟨rfl, hb⟩
    exact ⟨rfl, rfl, HG2.out.below.trans hb⟩
  | ok t ts1 ns1 =>
    rw [Rd.bind_ok]
    have hf1 := HX.out t ts1 ns1 rfl
    have HF1 := Lib.hid hf1
    have hp1 := hf1.pos
    clear HX hf1
    generalize hbb : (fstT ts1).isP c = b at *
    have HBB := Lib.hid hbb
    clear hbb
    go_enter Tryz.func139, Tryz.ntmps139
    go_wp2_with fail
    refine (HP.out _ (HB.out _)).mono ?_; rintro e w1 ⟨rfl, hm1, hg1⟩
    have hg2 := (RGo.of_below (r := r) (v := v) (HB.out (.cells #[.int .i64 0, .string ⟨#[]⟩, .int .i64 0, .slice none 0 0] 30)) (Nat.le_of_lt hlt)).trans hg1
    have hq1 := hg1.at HQ.out hnew.1 hnew.2
    have HM1 := Lib.hid hm1
    have HG2 := Lib.hid hg2
    have HQ1 := Lib.hid hq1
    have hs1 := hg1.below.size
    rw [World.size_alloc] at hs1
    clear hm1 hg1 hg2 hq1
    go_wp2_with fail
    refine (HC.out _ HM1.out HG2.out (by omega)).mono ?_; rintro e w2 ⟨v2, ad, cap, rfl, hm2, hg3, ht2⟩
    have hq2 := hg3.at HQ1.out hnew.1 hnew.2
    have hv2 := hg3.ne (b := w.heap.size) (by omega) hnew.2
    have hq3 := newR w2 (.cells #[.int .i64 t.kind, .string t.name, .int .i64 t.n, .slice ad t.args.length cap] 30)
    have hb3 : Below w2.heap.size w2 (w2.alloc (.cells #[.int .i64 t.kind, .string t.name, .int .i64 t.n, .slice ad t.args.length cap] 30)) := (Below.refl _ w2).alloc (Nat.le_refl _) _
    have hm3 := hm2.below hb3
    have HP3 := Lib.hid (rd_passed _ r v2 ts1 ns1 c cb HCB.out hm3 HF1.out)
    have HM3 := Lib.hid hm3
    have HG3 := Lib.hid ((HG2.out.trans hg3).alloc hlt (.cells #[.int .i64 t.kind, .string t.name, .int .i64 t.n, .slice ad t.args.length cap] 30))
    have HQ2 := Lib.hid (pastR hq2 (.cells #[.int .i64 t.kind, .string t.name, .int .i64 t.n, .slice ad t.args.length cap] 30))
    have HQ3 := Lib.hid hq3
    have hn3 := hm2.new_ne (Nat.le_refl _)
    have HT3 := Lib.hid (ht2.below hb3)
    have HR3 := Lib.hid (fun W (hb : RMem W r v2 ts1 ns1) => rd_refuse W r v2 ts1 ns1 hb hp1)
    have hs3 := hg3.below.size
    clear hm2 hg3 ht2 hq2 hq3 hb3 hm3
    rw [HBB.out] at HP3
    clear HBB
    cases b with
    | true =>
      rw [if_pos rfl] at HP3
      unfold tmv
      go_wp2_with fail
      refine HP3.out.mono ?_; rintro e w4 ⟨rfl, hm4, hg4⟩
      have hq4 := hg4.at HQ2.out hnew.1 hv2
      have hq5 := hg4.at HQ3.out hn3.1 hn3.2
      obtain ⟨d0, d1, d2, d3, e0, e1, e2, e3⟩ := cellsR4 hq4
      obtain ⟨d4, d5, d6, d7, _⟩ := cellsR4 hq5
      have HM4 := Lib.hid hm4
      have HG4 := Lib.hid (HG3.out.trans hg4)
      have HT4 := Lib.hid (HT3.out.go (by omega) hg4)
      clear hm4 hg4 hq4 hq5
      go_wp2_with fail
      refine bodyPost_ret (v := tmv t ad cap) (by simp [results, Tryz.results139, go_sem, d0, d1, d2, d3, tmv]) rfl ⟨v2, ad, cap, rfl, ?_⟩
      exact ROk.fin HM4.out HG4.out HT4.out hlt (Nat.le_refl _) hs1 hv2 _ _ _ _
    | false =>
      rw [if_neg (by decide)] at HP3
      unfold tmv
      go_wp2_with fail
      refine HP3.out.mono ?_; rintro e w4 ⟨rfl, hm4, hg4⟩
      have HM4 := Lib.hid hm4
      have HG4 := Lib.hid (HG3.out.trans hg4)
      clear hm4 hg4
      go_wp2_with fail
      refine (HR3.out _ HM4.out).mono ?_; rintro e w5 ⟨rfl, hb5⟩
      exact ⟨rfl, rfl, HG4.out.below.trans (hb5.mono (by have := HM4.out.lt; omega))⟩
end Go.Proofs.YtlbdocdjijhkbaaGreatDoor
