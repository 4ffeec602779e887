import Derived.Test.YtlbdocdjijhkbaaGreatDoorReadFI
import Derived.Test.YtlbdocdjijhkbaaGreatDoorReadTop
import Derived.Test.YtlbdocdjijhkbaaGreatDoorTokXC
namespace Go.Proofs.YtlbdocdjijhkbaaGreatDoor
open Go.RowKit
attribute [-go_sem] sliced
def endR (must : Bool) (x : Rd Tm) : Rd Tm := x.bind fun t ts ns => if (fstT ts).kind = 8 then .ok t ts.tail ns else if must = true then .bad (fstT ts).pos else .ok t ts ns
theorem wholeR_end (must : Bool) (ts : List Tok) : wholeR must ts = match endR must (termR ts.length 1200 ts []) with
 | .bad o => .syn o
 | .ok t ts' ns => if 60 < t.deep then .deep (fstT ts).pos else .ok t ts' ns := by
 unfold wholeR endR;cases termR ts.length 1200 ts [] with
 | bad o => rfl
 | ok t ts' ns =>
  rw [Rd.bind_ok];dsimp only;by_cases h8 : (fstT ts').kind = 8
  · rw [if_neg (fun h => h.1 h8), if_pos h8, if_pos h8]
  · rw [if_neg h8, if_neg h8];cases must with
    | true => rw [if_pos ⟨h8, rfl⟩, if_pos rfl]
    | false => simp
def WIs (a0 : Int) (x : Wh) (t : Tm) (ts : List Tok) (ns : Nms) (er at_ : Int) : Prop :=
 match x with
 | .syn o => er = 60 /\ at_ = (o : Nat)
 | .deep o => er = 3 /\ at_ = (o : Nat)
 | .ok t0 ts0 ns0 => t = t0 /\ ts = ts0 /\ ns = ns0 /\ er = 0 /\ at_ = a0
def FWOut (r : Nat) (w : World) (a0 : Int) (x : Wh) (e : Ending) (w' : World) : Prop :=
 ∃ t ts ns er at_ v' ad cap, e = .returned (tmv t ad cap) /\ FMem w' r v' ts ns er at_ /\ WGo r w v' w' /\ TmB w.heap.size w' v' t ad cap /\ WIs a0 x t ts ns er at_
theorem FWOut.fin {r q B : Nat} {v' : Value} {w w3 : World} {a0 : Int} {x : Wh} {t : Tm} {ts : List Tok} {ns : Nms} {er at_ : Int} {ad : Option Addr} {cap : Nat} {e : Ending} (he : e = .returned (tmv t ad cap)) (hm : FMem w3 r v' ts ns er at_) (hg : WGo r w v' w3) (ht : TmB B w3 v' t ad cap) (hi : WIs a0 x t ts ns er at_) (hlt : r < w.heap.size) (hq : w.heap.size <= q) (hB : q < B) (hv : some q ≠ v'.ownBlock) (u0 u1 u2 u3 : Value) :
 FWOut r w a0 x e ((((w3.setCell ⟨q, 0, none⟩ u0).setCell ⟨q, 1, none⟩ u1).setCell ⟨q, 2, none⟩ u2).setCell ⟨q, 3, none⟩ u3) :=
 ⟨t, ts, ns, er, at_, v', ad, cap, he, hm.set4 (by omega) hv _ _ _ _, (((hg.set hq (by omega) u0).set hq (by omega) u1).set hq (by omega) u2).set hq (by omega) u3, ((((ht.set hB u0).set hB u1).set hB u2).set hB u3).mono (by omega), hi⟩
theorem FMem.nil {w : World} {r : Nat} {v : Value} {ts : List Tok} {ns : Nms} {er at_ : Int} (h : FMem w r v ts ns er at_) : FMem (w.setCell ⟨r, 1, none⟩ (.slice none 0 0)) r (.slice none 0 0) ts [] er at_ := by
 obtain ⟨g, k, cap, hg, hr, hl, hc, ht⟩ := h.ex;have h1 := Lib.heap_setCell_same (i := 1) hr (.slice none 0 0);refine ⟨⟨g, k, cap, hg, ?_, hl, hc, ht.kept (fun _ => Below.heap_setCell _ _ _ _ (show g ≠ r by omega))⟩, World.ownsRow_nil _ _ _ _⟩;rw [h1]; rfl
theorem FMem.err {w : World} {r : Nat} {v : Value} {ts : List Tok} {ns : Nms} {er at_ : Int} (h : FMem w r v ts ns er at_) (e a : Int) : FMem ((w.setCell ⟨r, 2, none⟩ (.int .i64 e)).setCell ⟨r, 3, none⟩ (.int .i64 a)) r v ts ns e a /\ RGo r v w v ((w.setCell ⟨r, 2, none⟩ (.int .i64 e)).setCell ⟨r, 3, none⟩ (.int .i64 a)) := by
 obtain ⟨g, k, cap, hg, hr, hl, hc, ht⟩ := h.ex;have hk : ∀ b, b ≠ r -> ((w.setCell ⟨r, 2, none⟩ (.int .i64 e)).setCell ⟨r, 3, none⟩ (.int .i64 a)).heap[b]? = w.heap[b]? := fun b hb => (Below.heap_setCell _ _ _ _ (show b ≠ r from hb)).trans (Below.heap_setCell _ _ _ _ (show b ≠ r from hb));have h2 := Lib.heap_setCell_same (i := 3) (Lib.heap_setCell_same (i := 2) hr (.int .i64 e)) (.int .i64 a);refine ⟨⟨⟨g, k, cap, hg, by simpa using h2, hl, hc, ht.kept (fun _ => hk g (by omega))⟩, h.names.kept (fun b hb _ => hk b (by have := (h.names.lt b hb).1; omega))⟩, ⟨((Below.refl _ _).setCell (p := ⟨r, 2, none⟩) (Nat.le_refl _) _).setCell (p := ⟨r, 3, none⟩) (Nat.le_refl _) _, fun b hb h1 _ => hk b h1, .inl rfl⟩⟩
set_option maxRecDepth 100000 in
set_option maxHeartbeats 8000000 in
theorem rf_whole (must : Bool) (ts : List Tok) (ns : Nms) (w : World) (r : Nat) (v : Value) (at_ : Int) (hm : ts.length <= 4098) (hf : Fine ts) (h : FMem w r v ts ns 0 at_) (hT : ∀ W', Below r w W' -> Tabs W') :
 Calls Tryz.prog 33 #[.pointer (some ⟨r, 0, none⟩), .bool must] w fun e w' => FWOut r w at_ (wholeR must ts) e w' := by
 have hlt := h.lt;have f3 := tok_field3;have f0 := tok_field0;have HB0 := Lib.hid ((Below.refl w.heap.size w).alloc (Nat.le_refl _) (.cells #[.int .i64 0, .string ⟨#[]⟩, .int .i64 0, .slice none 0 0] 30));have HQ0 := Lib.hid (newR w (.cells #[.int .i64 0, .string ⟨#[]⟩, .int .i64 0, .slice none 0 0] 30));have HH := Lib.hid h;have hfp := hf.pos;have HTT := Lib.hid hT;obtain ⟨E, hE⟩ : ∃ E, wholeR must ts = E := ⟨_, rfl⟩;rw [hE];have HE : Hid (E = match endR must (termR ts.length 1200 ts []) with
  | .bad o => .syn o
  | .ok t ts' ns => if 60 < t.deep then .deep (fstT ts).pos else .ok t ts' ns) := Lib.hid (by rw [<- hE, wholeR_end])
 have HTE := Lib.hid (fun W' hm' => fterm_all ts.length hm 1200 ts [] W' r (.slice none 0 0) at_ (Nat.le_refl _) hf (by simp) hm');have HGO := Lib.hid (fun t ts' ns' hx => termR_good ts.length 1200 ts [] t ts' ns' (Nat.le_refl _) hf (by simp) hx);have HMAY := Lib.hid (fun t ts' ns' hx => termR_may ts.length 1200 ts [] t ts' ns' (Nat.le_refl _) hf (by simp) hx);have HN := Lib.hid (fun W' hm' => rf_next W' r v ts ns 0 at_ hm' hfp);obtain ⟨X, hX⟩ : ∃ X, termR ts.length 1200 ts [] = X := ⟨_, rfl⟩;rw [hX] at HE HTE;have HXX := Lib.hid hX;clear h hT hE hf hX;unfold tokv at HN;generalize (⟨(fstT ts).text.toArray⟩ : ByteArray) = tx at *;generalize (fstT ts).kind = tk at *;generalize (fstT ts).n = tn at *;generalize (fstT ts).pos = tp at *;go_enter Tryz.func33, Tryz.ntmps33;go_wp2_with fail;refine (HN.out _ (HH.out.below HB0.out)).mono ?_; rintro e w1 ⟨rfl, hb1⟩;have HB1 := Lib.hid (HB0.out.trans (hb1.mono HB0.out.size));have HQ1 := Lib.hid (keptR hb1 HQ0.out);have HM1 := Lib.hid (HH.out.below HB1.out);have hs1 := hb1.size;rw [World.size_alloc] at hs1;obtain ⟨g1, k1, cap1, _, hr1, _⟩ := HM1.out.ex;obtain ⟨_, r1, _, _, _, z1, _⟩ := cellsF4 hr1;clear hb1 hr1 HN HQ0 HB0 HH;go_upto_region 3 with fail;have HM2 := Lib.hid HM1.out.nil;have HBW : Hid (Below r w (w1.setCell ⟨r, 1, none⟩ (.slice none 0 0))) := Lib.hid ((HB1.out.mono (Nat.le_of_lt hlt)).setCell (p := ⟨r, 1, none⟩) (Nat.le_refl _) _);have HBK : Hid (∀ b, b < w.heap.size -> b ≠ r -> (w1.setCell ⟨r, 1, none⟩ (.slice none 0 0)).heap[b]? = w.heap[b]?) := Lib.hid (fun b hb hr => (Below.heap_setCell _ _ _ _ (show b ≠ r from hr)).trans (HB1.out.block b hb));have HQ2 : Hid ((w1.setCell ⟨r, 1, none⟩ (.slice none 0 0)).heap[w.heap.size]? = some (.cells #[.int .i64 0, .string ⟨#[]⟩, .int .i64 0, .slice none 0 0] 30 (0, 0))) := Lib.hid (setOR HQ1.out (by omega) _);have hs2 : (w1.setCell ⟨r, 1, none⟩ (.slice none 0 0)).heap.size = w1.heap.size := by simp [World.setCell]
 generalize w1.setCell ⟨r, 1, none⟩ (.slice none 0 0) = w3 at *;clear HM1 HQ1 HB1 r1 z1;have hqr : w.heap.size ≠ r := by omega
 have hqv : some w.heap.size ≠ (Value.slice none 0 0).ownBlock := by intro e; cases e
 go_wp2_with fail;refine (HTE.out _ HM2.out).mono ?_; rintro e w4 ⟨t2, ts2, ns2, er2, at2, v2, ad2, cap2, rfl, hm4, hg4, ht4, hi4⟩;have HG4 := Lib.hid hg4;have HQ4 := Lib.hid (hg4.at HQ2.out hqr hqv);have HV4 := Lib.hid (hg4.ne (b := w.heap.size) (by omega) hqv);have HI4 := Lib.hid hi4;have hX4 := hm4.new_ne (b := w4.heap.size) (Nat.le_refl _);have hlt4 := hm4.lt;have hs4 := hg4.below.size;unfold tmv;go_upto_region 4 with fail;have hb5 : Below w4.heap.size w4 (w4.alloc (.cells #[.int .i64 t2.kind, .string t2.name, .int .i64 t2.n, .slice ad2 t2.args.length cap2] 30)) := (Below.refl _ _).alloc (Nat.le_refl _) _;have HN5 := Lib.hid (newR w4 (.cells #[.int .i64 t2.kind, .string t2.name, .int .i64 t2.n, .slice ad2 t2.args.length cap2] 30));generalize w4.alloc (.cells #[.int .i64 t2.kind, .string t2.name, .int .i64 t2.n, .slice ad2 t2.args.length cap2] 30) = w5 at *;have HM5 := Lib.hid (hm4.below hb5);have HG5 := Lib.hid (HG4.out.trans (RGo.of_below (r := r) (v := v2) hb5 (Nat.le_of_lt hlt4)));have HQ5 := Lib.hid (keptR hb5 HQ4.out);have HT5 := Lib.hid (ht4.below hb5);have hs5 := hb5.size;clear hm4 hg4 ht4 hi4 hb5 HG4 HQ4 HQ2 HM2 HTE;go_cut [22] (fun s22 wx => ∃ b, s22 = .bool b /\ Hid (b = ((er2 == 0) && ((fstT ts2).kind == 8))) /\ Hid (Below w5.heap.size w5 wx))
 case first =>
  cases he : (er2 == 0) with
  | false =>
   have hG := Lib.hid (rf_goes w5 r v2 ts2 ns2 er2 at2 HM5.out);rw [he] at hG;have HE0 := Lib.hid he;clear he;go_wp2_with fail;refine hG.out.mono ?_; rintro e w6 ⟨rfl, hb6⟩;have HB6 := Lib.hid hb6;clear hb6;go_wp2_with fail;go_meet;exact ⟨false, rfl, Lib.hid (by rw [HE0.out]; rfl), HB6⟩
  | true =>
   have hG := Lib.hid (rf_goes w5 r v2 ts2 ns2 er2 at2 HM5.out);rw [he] at hG;have he0 : er2 = 0 := by simpa using he
   obtain ⟨hx1, _⟩ := HI4.out.good he0;rw [<- HXX.out] at hx1;have hfp2 := (HGO.out _ _ _ hx1).1.pos;have HNX := Lib.hid (fun W hb => rf_next W r v2 ts2 ns2 er2 at2 (HM5.out.below hb) hfp2);have HE0 := Lib.hid he;clear hx1 he0 he;unfold tokv at HNX;generalize (⟨(fstT ts2).text.toArray⟩ : ByteArray) = ux at *;generalize hk2 : (fstT ts2).kind = k2 at *;have HK2 := Lib.hid hk2;clear hk2;generalize (fstT ts2).n = n2 at *;generalize (fstT ts2).pos = p2 at *;go_wp2_with fail;refine hG.out.mono ?_; rintro e w6 ⟨rfl, hb6⟩;have HB6 := Lib.hid hb6;clear hb6;go_wp2_with fail;refine (HNX.out _ HB6.out).mono ?_; rintro e w7 ⟨rfl, hb7⟩;have HB7 := Lib.hid (HB6.out.trans (hb7.mono HB6.out.size));clear hb7;go_wp2_with fail;go_meet;exact ⟨(k2 == 8), rfl, Lib.hid (by rw [HE0.out]; rfl), HB7⟩
 case rest =>
  obtain ⟨b, rfl, HBb, HBc⟩ := hcut;go_upto_if 22 with fail;have hsc := HBc.out.size;have HMc := Lib.hid (HM5.out.below HBc.out);have HGc := Lib.hid (HG5.out.trans (RGo.of_below (r := r) (v := v2) HBc.out (by omega)));have HQc := Lib.hid (keptR HBc.out HQ5.out);have HNc := Lib.hid (keptR HBc.out HN5.out);have HTc := Lib.hid (HT5.out.below HBc.out);clear HM5 HG5 HQ5 HN5 HT5 HBc;go_cut [] (fun wx => ∃ ts3 er3 at3, Hid (FMem wx r v2 ts3 ns2 er3 at3) /\ Hid (RGo r (.slice none 0 0) w3 v2 wx) /\ Hid (wx.heap[w.heap.size]? = some (.cells #[.int .i64 0, .string ⟨#[]⟩, .int .i64 0, .slice none 0 0] 30 (0, 0))) /\ Hid (wx.heap[w4.heap.size]? = some (.cells #[.int .i64 t2.kind, .string t2.name, .int .i64 t2.n, .slice ad2 t2.args.length cap2] 30 (0, 0))) /\ Hid (TmB w3.heap.size wx v2 t2 ad2 cap2) /\ Hid (FIs at_ (endR must X) t2 ts3 ns2 er3 at3) /\ w5.heap.size <= wx.heap.size)
  case first =>
   cases b with
   | true =>
    have hb := HBb.out;have hb2 := Bool.and_eq_true_iff.1 hb.symm;have he0 : er2 = 0 := by simpa using hb2.1
    have hk8 : (fstT ts2).kind = 8 := by simpa using hb2.2
    obtain ⟨hx1, rfl⟩ := HI4.out.good he0;have hx2 := hx1;rw [<- HXX.out] at hx2;have h2l := (HGO.out _ _ _ hx2).1.two (by rw [hk8]; decide);have HFI : Hid (FIs at2 (endR must X) t2 ts2.tail ns2 0 at2) := Lib.hid (by unfold endR; rw [hx1, Rd.bind_ok, if_pos hk8]; exact ⟨rfl, rfl, rfl, rfl, rfl⟩);subst he0;clear hb hb2 hk8 hx1 hx2 HBb HI4;go_wp2_with fail;refine (rf_step _ r v2 ts2 ns2 at2 HMc.out h2l).mono ?_; rintro e w6 ⟨rfl, hm6, hg6⟩;have HM6 := Lib.hid hm6;have HG6 := Lib.hid (HGc.out.trans hg6);have HQ6 := Lib.hid (hg6.at HQc.out hqr HV4.out);have HN6 := Lib.hid (hg6.at HNc.out hX4.1 hX4.2);have HT6 := Lib.hid (HTc.out.go (by have := HBW.out.size; omega) hg6);have hs6 := hg6.below.size;clear hm6 hg6;go_wp2_with fail;go_meet;exact ⟨ts2.tail, 0, at2, HM6, HG6, HQ6, HN6, HT6, HFI, by omega⟩
   | false =>
    by_cases he0 : er2 = 0
    · obtain ⟨hx1, rfl⟩ := HI4.out.good he0;have hb := HBb.out;rw [he0] at hb;have hk8 : ¬ (fstT ts2).kind = 8 := by simpa using hb.symm
      have hx2 := hx1;rw [<- HXX.out] at hx2;have hfp2 := (HGO.out _ _ _ hx2).1.pos;subst he0;cases must with
      | true =>
       have HFI : Hid (FIs at2 (endR true X) t2 ts2 ns2 60 ((fstT ts2).pos : Nat)) := Lib.hid (by unfold endR; rw [hx1, Rd.bind_ok, if_neg hk8, if_pos rfl]; exact ⟨rfl, rfl⟩);clear hb hk8 hx1 hx2 HBb HI4;go_wp2_with fail;refine (rf_fail _ r v2 ts2 ns2 at2 HMc.out hfp2).mono ?_; rintro e w6 ⟨rfl, hm6, hg6⟩;have HM6 := Lib.hid hm6;have HG6 := Lib.hid (HGc.out.trans hg6);have HQ6 := Lib.hid (hg6.at HQc.out hqr HV4.out);have HN6 := Lib.hid (hg6.at HNc.out hX4.1 hX4.2);have HT6 := Lib.hid (HTc.out.go (by have := HBW.out.size; omega) hg6);have hs6 := hg6.below.size;clear hm6 hg6;go_wp2_with fail;go_meet;exact ⟨ts2, 60, _, HM6, HG6, HQ6, HN6, HT6, HFI, by omega⟩
      | false =>
       have HFI : Hid (FIs at2 (endR false X) t2 ts2 ns2 0 at2) := Lib.hid (by unfold endR; rw [hx1, Rd.bind_ok, if_neg hk8, if_neg (by decide)]; exact ⟨rfl, rfl, rfl, rfl, rfl⟩);clear hb hk8 hx1 hx2 HBb HI4;go_wp2_with fail;go_meet;exact ⟨ts2, 0, at2, HMc, HGc, HQc, HNc, HTc, HFI, hsc⟩
    · obtain ⟨o, hxb, h60, hato⟩ := HI4.out.broken he0;have HFI : Hid (FIs at_ (endR must X) t2 ts2 ns2 er2 at2) := Lib.hid (by unfold endR; rw [hxb]; exact ⟨h60, hato⟩);clear hxb h60 hato HBb HI4;cases must with
      | true =>
       go_wp2_with fail;refine (rf_failed _ r v2 ts2 ns2 er2 at2 HMc.out he0).mono ?_; rintro e w6 ⟨rfl, hb6⟩;have HB6 := Lib.hid hb6;have hs6 := hb6.size;clear hb6;go_wp2_with fail;go_meet;exact ⟨ts2, er2, at2, Lib.hid (HMc.out.below HB6.out), Lib.hid (HGc.out.trans (RGo.of_below (r := r) (v := v2) HB6.out (by omega))), Lib.hid (keptR HB6.out HQc.out), Lib.hid (keptR HB6.out HNc.out), Lib.hid (HTc.out.below HB6.out), HFI, by omega⟩
      | false =>
       go_wp2_with fail;go_meet;exact ⟨ts2, er2, at2, HMc, HGc, HQc, HNc, HTc, HFI, hsc⟩
  case rest =>
   obtain ⟨ts3, er3, at3, HM, HG, HQ, HNT, HT, HI, hsx⟩ := hcut;clear HMc HGc HQc HNc HTc HBb HI4;by_cases he : er3 = 0
   · obtain ⟨hx, rfl⟩ := HI.out.good he;have hye : ∃ ts0, X = .ok t2 ts0 ns2 := by
      have h9 := hx;unfold endR at h9;obtain ⟨t0, ts0, ns0, h1, h2⟩ := Rd.bind_is h9;split at h2
      · injection h2 with a b c; subst a c; exact ⟨ts0, h1⟩
      · split at h2
        · cases h2
        · injection h2 with a b c; subst a c; exact ⟨ts0, h1⟩
     obtain ⟨ts0, hx0⟩ := hye;rw [<- HXX.out] at hx0;have hsz := (HGO.out _ _ _ hx0).used;have hmay := HMAY.out _ _ _ hx0;have HEX : Hid (E = if 60 < t2.deep then .deep tp else .ok t2 ts3 ns2) := Lib.hid (by rw [HE.out, hx]);have hchk : t2.chk = if 60 < t2.deep then 3 else 0 := by unfold Tm.chk; rw [hmay]; rfl
     have HC := Lib.hid (fun W hb hin => ref_TermCheck t2 ad2 cap2 W (by omega) (HTT.out W hb) hin);rw [hchk] at HC;subst he;clear hx hx0 hmay hchk HGO HMAY HE HXX HTT;obtain ⟨c0, c1, c2, c3, _⟩ := cellsR4 HNT.out;have hG := Lib.hid (rf_goes _ r v2 ts3 ns2 0 at3 HM.out);go_wp2_with fail;refine hG.out.mono ?_; rintro e w6 ⟨rfl, hb6⟩;have hb6r := RGo.of_below (r := r) (v := v2) hb6 (by omega);have HM6 := Lib.hid (HM.out.below hb6);have HG6 := Lib.hid (HG.out.trans hb6r);have HQ6 := Lib.hid (keptR hb6 HQ.out);have HN6 := Lib.hid (keptR hb6 HNT.out);have HT6 := Lib.hid (HT.out.below hb6);have hs6 := hb6.size;obtain ⟨c0, c1, c2, c3, _⟩ := cellsR4 HN6.out;clear hb6 hb6r HM HG HQ HNT HT hG;go_wp2_with fail;refine (HC.out _ (HBW.out.trans HG6.out.below) HT6.out.toIn).mono ?_; rintro e w7 ⟨rfl, hb7⟩;have HM7 := Lib.hid (HM6.out.below hb7);have HG7 := Lib.hid (HG6.out.trans (RGo.of_below (r := r) (v := v2) hb7 (by omega)));have HQ7 := Lib.hid (keptR hb7 HQ6.out);have HN7 := Lib.hid (keptR hb7 HN6.out);have HT7 := Lib.hid (HT6.out.below hb7);have hs7 := hb7.size;clear hb7 HM6 HG6 HQ6 HN6 HT6 HC;by_cases h60 : 60 < t2.deep
     · rw [if_pos h60];have HEY : Hid (E = .deep tp) := Lib.hid (by rw [HEX.out, if_pos h60]);clear HEX h60;obtain ⟨g7, k7, cap7, _, hr7, _⟩ := HM7.out.ex;obtain ⟨_, _, r2, r3, _, _, z2, z3⟩ := cellsF4 hr7;have HER := Lib.hid (HM7.out.err 3 (tp : Nat));have hk7 := HER.out.2;have HN8 := Lib.hid (hk7.at HN7.out hX4.1 hX4.2);have HQ8 := Lib.hid (hk7.at HQ7.out hqr HV4.out);have HT8 := Lib.hid (HT7.out.go (by have := HBW.out.size; omega) hk7);clear hr7 hk7;go_upto_region 11 with fail;generalize (w7.setCell ⟨r, 2, none⟩ (.int .i64 3)).setCell ⟨r, 3, none⟩ (.int .i64 (tp : Nat)) = w8 at *;have HMX := Lib.hid HER.out.1;have HGX := Lib.hid (HG7.out.trans HER.out.2);have HTX := Lib.hid HT8.out;have HVX := Lib.hid HV4.out;have HIX : Hid (WIs at3 E t2 ts3 ns2 3 (tp : Nat)) := Lib.hid (by rw [HEY.out]; exact ⟨rfl, rfl⟩);obtain ⟨c0, c1, c2, c3, _⟩ := cellsR4 HN8.out;obtain ⟨d0, d1, d2, d3, e0, e1, e2, e3⟩ := cellsR4 HQ8.out;clear r2 r3 z2 z3;go_wp2_with fail;refine bodyPost_ret (v := tmv t2 ad2 cap2) (by simp [results, Tryz.results33, go_sem, d0, d1, d2, d3, tmv]) rfl ?_;exact FWOut.fin (x := E) (a0 := at3) (t := t2) (B := w3.heap.size) rfl HMX.out (wgo_of HBW.out HBK.out HGX.out) HTX.out HIX.out hlt (Nat.le_refl _) (by omega) HVX.out _ _ _ _
     · rw [if_neg h60];have HMX := Lib.hid HM7.out;have HGX := Lib.hid HG7.out;have HTX := Lib.hid HT7.out;have HVX := Lib.hid HV4.out;have HIX : Hid (WIs at3 E t2 ts3 ns2 0 at3) := Lib.hid (by rw [HEX.out, if_neg h60]; exact ⟨rfl, rfl, rfl, rfl, rfl⟩);obtain ⟨c0, c1, c2, c3, _⟩ := cellsR4 HN7.out;obtain ⟨d0, d1, d2, d3, e0, e1, e2, e3⟩ := cellsR4 HQ7.out;clear h60;go_wp2_with fail;refine bodyPost_ret (v := tmv t2 ad2 cap2) (by simp [results, Tryz.results33, go_sem, d0, d1, d2, d3, tmv]) rfl ?_;exact FWOut.fin (x := E) (a0 := at3) (t := t2) (B := w3.heap.size) rfl HMX.out (wgo_of HBW.out HBK.out HGX.out) HTX.out HIX.out hlt (Nat.le_refl _) (by omega) HVX.out _ _ _ _
   · obtain ⟨o, hxb, h60, hato⟩ := HI.out.broken he;have HIX : Hid (WIs at_ E t2 ts3 ns2 er3 at3) := Lib.hid (by rw [HE.out, hxb]; exact ⟨h60, hato⟩);have hG := rf_goes _ r v2 ts3 ns2 er3 at3 HM.out;rw [beq_eq_false_iff_ne.2 he] at hG;have HG0 := Lib.hid hG;clear hG hxb h60 hato HE HGO HMAY HXX HTT HI;go_wp2_with fail;refine HG0.out.mono ?_; rintro e w6 ⟨rfl, hb6⟩;have HMX := Lib.hid (HM.out.below hb6);have HGX := Lib.hid (HG.out.trans (RGo.of_below (r := r) (v := v2) hb6 (by omega)));have HTX := Lib.hid (HT.out.below hb6);have HVX := Lib.hid HV4.out;obtain ⟨c0, c1, c2, c3, _⟩ := cellsR4 (keptR hb6 HNT.out);obtain ⟨d0, d1, d2, d3, e0, e1, e2, e3⟩ := cellsR4 (keptR hb6 HQ.out);clear hb6 HG0 HM HG HT HNT HQ;go_wp2_with fail;refine bodyPost_ret (v := tmv t2 ad2 cap2) (by simp [results, Tryz.results33, go_sem, d0, d1, d2, d3, tmv]) rfl ?_;exact FWOut.fin (x := E) (a0 := at_) (t := t2) (B := w3.heap.size) rfl HMX.out (wgo_of HBW.out HBK.out HGX.out) HTX.out HIX.out hlt (Nat.le_refl _) (by omega) HVX.out _ _ _ _
theorem rf_cut (s : ByteArray) (w : World) (hT : TabsT w) :
 Calls Tryz.prog 18 #[.string s] w fun e w' => (∃ o er, (er = 2 \/ er = 50) /\ e = .returned (.tuple #[.slice none 0 0, .int .i64 (o : Nat), .int .i64 er]) /\ Below w.heap.size w w' /\ (∀ (α : Type) (f : List Tok -> Pr α), cutThen s.data.toList f = .bad o er)) \/
  (∃ T, CutRow w T e w' /\ Fine T /\ T.length <= 4097 /\ (∀ (α : Type) (f : List Tok -> Pr α), cutThen s.data.toList f = f T)) := by
 refine (ref_Cut s w hT).mono ?_;rintro e w' ⟨h, hb⟩;rcases h with ⟨h, he⟩ | ⟨h, ⟨o, hc, he⟩ | ⟨T, v, hc, he, ho⟩⟩
 · exact .inl ⟨0, 2, .inl rfl, he, hb, fun α f => by unfold cutThen; rw [if_pos h]⟩
 · exact .inl ⟨o, 50, .inr rfl, he, hb, fun α f => by unfold cutThen; rw [if_neg (by omega), hc]⟩
 · have hf := cut_fine h hc;refine .inr ⟨T, ?_, hf, by have := cut_many hc; omega, fun α f => by unfold cutThen; rw [if_neg (by omega), hc]⟩;obtain ⟨ad, cap, rfl, h1, h2, h3⟩ := ho.view;obtain ⟨g, rfl, hg, h0⟩ := h3 0 hf.pos;have hlt : g < w'.heap.size := World.block_lt_of_cell? w' ⟨g, _, none⟩ h0.kind;have hr := tokRow_of (w := w') (g := g) T 0 (fun j hj => by
    obtain ⟨g2, e, _, hat⟩ := h3 j hj;injection e with e;injection e with e _ _;subst e;rw [Nat.zero_add]; exact hat)
   rw [Nat.zero_mul] at hr;exact ⟨g, 0, cap, he, hg, hlt, h1, h2, hr, hb⟩
theorem FMem.start {w : World} {g k cap : Nat} {T : List Tok} (hg : g < w.heap.size) (hl : T.length <= cap) (hc : cap <= maxLen) (hrow : TokRow w g k T) :
 FMem (w.alloc (.cells #[.slice (some ⟨g, k, none⟩) T.length cap, .slice none 0 0, .int .i64 0, .int .i64 0] 58)) w.heap.size (.slice none 0 0) T [] 0 0 :=
 ⟨⟨g, k, cap, hg, newR w _, hl, hc, hrow.kept (fun hs => Below.heap_alloc _ _ _ hs)⟩, World.ownsRow_nil _ _ _ _⟩
set_option maxRecDepth 100000 in
set_option maxHeartbeats 8000000 in
theorem rf_Query (s : ByteArray) (w : World) (hT : TabsT w) :
 Calls Tryz.prog 15 #[.string s] w fun e w' => QueryOut w (queryL s.data.toList) e w' := by
 have HB0 := Lib.hid ((Below.refl w.heap.size w).alloc (Nat.le_refl _) (.cells #[.int .i64 0, .string ⟨#[]⟩, .int .i64 0, .slice none 0 0] 30));have HQ0 := Lib.hid (newR w (.cells #[.int .i64 0, .string ⟨#[]⟩, .int .i64 0, .slice none 0 0] 30));have HC := Lib.hid (fun W hb => rf_cut s W (hT.on hb));have HTT := Lib.hid hT;have f0 := tok_field0;obtain ⟨E, hE⟩ : ∃ E, queryL s.data.toList = E := ⟨_, rfl⟩;rw [hE];unfold queryL at hE;have HE := Lib.hid hE;clear hT hE;go_enter Tryz.func15, Tryz.ntmps15;go_wp2_with fail;refine (HC.out _ HB0.out).mono ?_;rintro e w1 (⟨o, er, her, rfl, hb1, hcut⟩ | ⟨T, ⟨g, k, cap, rfl, hg0, hg1, hl, hcm, hrow, hb1⟩, hfT, hlT, hcut⟩)
 · have HEX : Hid (E = .bad o er) := Lib.hid (by rw [<- HE.out, hcut]);have her0 : (er == 0) = false := by rcases her with rfl | rfl <;> rfl
   have HB1 := Lib.hid (HB0.out.trans (hb1.mono HB0.out.size));obtain ⟨d0, d1, d2, d3, e0, e1, e2, e3⟩ := cellsR4 (keptR hb1 HQ0.out);clear hb1 hcut her;go_wp2_with fail;refine bodyPost_ret (v := .tuple #[zeroT, .slice none 0 0, .int .i64 (o : Nat), .int .i64 er]) (by simp [results, Tryz.results15, go_sem, d0, d1, d2, d3, zeroT]) rfl ?_;show QueryOut w E _ _
   rw [HEX.out];exact ⟨rfl, (((HB1.out.setCell (p := ⟨_, _, none⟩) (Nat.le_refl _) _).setCell (p := ⟨_, _, none⟩) (Nat.le_refl _) _).setCell (p := ⟨_, _, none⟩) (Nat.le_refl _) _).setCell (p := ⟨_, _, none⟩) (Nat.le_refl _) _⟩
 · have HEX : Hid (E = queryT T) := Lib.hid (by rw [<- HE.out, hcut]);have HB1 := Lib.hid (HB0.out.trans (hb1.mono HB0.out.size));have HQ1 := Lib.hid (keptR hb1 HQ0.out);have hs1 := hb1.size;rw [World.size_alloc] at hs1;have hm2 := FMem.start (w := w1) hg1 hl hcm hrow;clear hb1 hcut HE HC HB0 HQ0;go_upto_region 5 with fail;have hb2 : Below w1.heap.size w1 (w1.alloc (.cells #[.slice (some ⟨g, k, none⟩) T.length cap, .slice none 0 0, .int .i64 0, .int .i64 0] 58)) := (Below.refl _ _).alloc (Nat.le_refl _) _;have hs2 : (w1.alloc (.cells #[.slice (some ⟨g, k, none⟩) T.length cap, .slice none 0 0, .int .i64 0, .int .i64 0] 58)).heap.size = w1.heap.size + 1 := by simp
   generalize w1.alloc (.cells #[.slice (some ⟨g, k, none⟩) T.length cap, .slice none 0 0, .int .i64 0, .int .i64 0] 58) = w2 at *;have HB2 := Lib.hid (HB1.out.trans (hb2.mono HB1.out.size));have HQ2 := Lib.hid (keptR hb2 HQ1.out);have HM2 := Lib.hid hm2;have HFT := Lib.hid hfT;have HWH := Lib.hid (rf_whole false T [] w2 w1.heap.size (.slice none 0 0) 0 (by omega) hfT hm2 (fun W' hb => (HTT.out.on (HB2.out.trans (hb.mono (by omega)))).1));obtain ⟨X, hX⟩ : ∃ X, wholeR false T = X := ⟨_, rfl⟩;rw [hX] at HWH;have HXX := Lib.hid hX;clear hm2 hb2 hfT hX hrow;generalize w1.heap.size = r at *;go_wp2_with fail;refine HWH.out.mono ?_; rintro e w3 ⟨t, ts, ns, er, at_, v, ad, cap2, rfl, hm3, hg3, ht3, hi3⟩;have HB3 := Lib.hid (HB2.out.trans (hg3.below.mono (by omega)));have HQ3 := Lib.hid ((hg3.keep w.heap.size (by omega) (by omega)).trans HQ2.out);have HOWN := Lib.hid hg3.own;have HM3 := Lib.hid hm3;have HI3 := Lib.hid hi3;have HT3 := Lib.hid ht3;have hs3 := hg3.below.size;have hlt3 := hm3.lt;unfold tmv;go_upto_region 6 with fail;have hb4 : Below w3.heap.size w3 (w3.alloc (.cells #[.int .i64 t.kind, .string t.name, .int .i64 t.n, .slice ad t.args.length cap2] 30)) := (Below.refl _ _).alloc (Nat.le_refl _) _;have HN4 := Lib.hid (newR w3 (.cells #[.int .i64 t.kind, .string t.name, .int .i64 t.n, .slice ad t.args.length cap2] 30));have hXn := hm3.new_ne (b := w3.heap.size) (Nat.le_refl _);generalize w3.alloc (.cells #[.int .i64 t.kind, .string t.name, .int .i64 t.n, .slice ad t.args.length cap2] 30) = w4 at *;have HB4 := Lib.hid (HB3.out.trans (hb4.mono HB3.out.size));have HQ4 := Lib.hid (keptR hb4 HQ3.out);have HM4 := Lib.hid (HM3.out.below hb4);have HT4 := Lib.hid (HT3.out.below hb4);have hs4 := hb4.size;clear hm3 hg3 ht3 hi3 hb4 HWH HM2 HB2 HQ2 HB3 HQ3 HM3 HT3 HB1 HQ1;by_cases he : er = 0
   · have hwx : X = .ok t ts ns /\ at_ = 0 := by
      have h9 := HI3.out;cases X with
      | syn o => have := h9.1; omega
      | deep o => have := h9.1; omega
      | ok t0 ts0 ns0 => obtain ⟨rfl, rfl, rfl, _, h5⟩ := h9; exact ⟨rfl, h5⟩
     obtain ⟨hx, rfl⟩ := hwx;obtain ⟨w1a, _, w3a, _⟩ := wholeR_left HFT.out (HXX.out.trans hx);have hfp := w1a.pos;have HEY : Hid (E = if (fstT ts).kind = 9 then .ok (t, ns) else .bad (fstT ts).pos 60) := Lib.hid (by rw [HEX.out]; unfold queryT; rw [HXX.out, hx]);subst he;have HNX := Lib.hid (fun W hb => rf_next W r v ts ns 0 0 (HM4.out.below hb) hfp);have HFA := Lib.hid (fun W hm => rf_fail W r v ts ns 0 hm hfp);have hG := Lib.hid (rf_goes w4 r v ts ns 0 0 HM4.out);clear hx w1a HI3 HXX HEX HFT;unfold tokv at HNX;generalize (⟨(fstT ts).text.toArray⟩ : ByteArray) = ux at *;generalize (fstT ts).kind = k2 at *;generalize (fstT ts).n = n2 at *;generalize (fstT ts).pos = p2 at *;by_cases hk9 : k2 = 9
     · have HEZ : Hid (E = .ok (t, ns)) := Lib.hid (by rw [HEY.out, if_pos hk9]);have k9 : (k2 != 9) = false := by simp [hk9]
       clear HEY hk9 HFA;go_wp2_with fail;refine hG.out.mono ?_; rintro e w5 ⟨rfl, hb5⟩;have HB5 := Lib.hid hb5;clear hb5;go_wp2_with fail;refine (HNX.out _ HB5.out).mono ?_; rintro e w6 ⟨rfl, hb6⟩;have HB6 := Lib.hid (HB5.out.trans (hb6.mono HB5.out.size));clear hb6;go_wp2_with fail;refine (rf_goes w6 r v ts ns 0 0 (HM4.out.below HB6.out)).mono ?_; rintro e w7 ⟨rfl, hb7⟩;have HB7 := Lib.hid (HB6.out.trans (hb7.mono HB6.out.size));clear hb7 hG HNX;have HM7 := Lib.hid (HM4.out.below HB7.out);have HT7 := Lib.hid (HT4.out.below HB7.out);have HW7 := Lib.hid (HB4.out.trans (HB7.out.mono HB4.out.size));have HQ7 := Lib.hid (keptR HB7.out HQ4.out);obtain ⟨c0, c1, c2, c3, _⟩ := cellsR4 (keptR HB7.out HN4.out);obtain ⟨d0, d1, d2, d3, e0, e1, e2, e3⟩ := cellsR4 HQ7.out;obtain ⟨g7, k7, cap7, _, hr7, _⟩ := HM7.out.ex;obtain ⟨_, r1, _⟩ := cellsF4 hr7;obtain ⟨adv, capv, rfl, hv1, hv2, _⟩ := HM7.out.names.view;have hne1 : w3.heap.size ≠ w.heap.size := by omega
       have hne2 : r ≠ w.heap.size := by omega
       clear hr7 HM4 HT4 HQ4 HN4;go_upto_region 10 with fail;go_region
       all_goals
        go_wp2_with fail;refine bodyPost_ret (v := .tuple #[tmv t ad cap2, .slice adv (nmB ns).length capv, .int .i64 0, .int .i64 0]) (by simp [results, Tryz.results15, go_sem, d0, d1, d2, d3, tmv]) rfl ?_;show QueryOut w E _ _
        rw [HEZ.out];refine ⟨_, ad, cap2, rfl, (HM7.out.names.kept (fun b hb _ => heap_set4 (w := w7) (q := w.heap.size) (fun e => by have := (HM7.out.names.lt b hb).1; omega) _ _ _ _)).up (fun g hg => by have := (HM7.out.names.lt g hg).1; omega), TmP.kept HT7.out (fun b hp _ => heap_set4 (w := w7) (q := w.heap.size) (fun e => by have := hp.1; omega) _ _ _ _) (fun b hp _ => ⟨by have := hp.1; omega, hp.2⟩), ?_⟩;exact ((((HW7.out.setCell (p := ⟨_, _, none⟩) (Nat.le_refl _) _).setCell (p := ⟨_, _, none⟩) (Nat.le_refl _) _).setCell (p := ⟨_, _, none⟩) (Nat.le_refl _) _).setCell (p := ⟨_, _, none⟩) (Nat.le_refl _) _).drew
     · have HEB : Hid (E = .bad p2 60) := Lib.hid (by rw [HEY.out, if_neg hk9]);have k9 : (k2 != 9) = true := by simp [hk9]
       clear HEY hk9;go_wp2_with fail;refine hG.out.mono ?_; rintro e w5 ⟨rfl, hb5⟩;have HB5 := Lib.hid hb5;clear hb5;go_wp2_with fail;refine (HNX.out _ HB5.out).mono ?_; rintro e w6 ⟨rfl, hb6⟩;have HB6 := Lib.hid (HB5.out.trans (hb6.mono HB5.out.size));clear hb6;go_wp2_with fail;refine (HFA.out _ (HM4.out.below HB6.out)).mono ?_; rintro e w7 ⟨rfl, hm7, hg7⟩;have HM7 := Lib.hid hm7;have HW7 := Lib.hid ((HB4.out.trans (HB6.out.mono HB4.out.size)).trans (hg7.below.mono (by omega)));have HQ7 := Lib.hid (hg7.at (keptR HB6.out HQ4.out) (by omega) (fun e => by have := (HM4.out.names.lt w.heap.size e.symm).1; omega));clear hm7 hg7 hG HNX HFA;go_wp2_with fail;refine (rf_goes w7 r v ts ns 60 _ HM7.out).mono ?_; rintro e w8 ⟨rfl, hb8⟩;have HMB := Lib.hid (HM7.out.below hb8);have HWB := Lib.hid (HW7.out.trans (hb8.mono HW7.out.size));have HQB := Lib.hid (keptR hb8 HQ7.out);clear hb8 HM4 HT4 HQ4 HN4 HM7 HW7 HQ7;obtain ⟨gb, kb, capb, _, hrb, _⟩ := HMB.out.ex;obtain ⟨_, _, r2, r3, _⟩ := cellsF4 hrb;obtain ⟨d0, d1, d2, d3, e0, e1, e2, e3⟩ := cellsR4 HQB.out;have hne2 : r ≠ w.heap.size := by omega
       clear hrb;go_upto_region 9 with fail;go_region
       all_goals
        go_wp2_with fail;refine bodyPost_ret (v := .tuple #[zeroT, .slice none 0 0, .int .i64 (p2 : Nat), .int .i64 60]) (by simp [results, Tryz.results15, go_sem, d0, d1, d2, d3, zeroT]) rfl ?_;show QueryOut w E _ _
        rw [HEB.out];exact ⟨rfl, ((((HWB.out.setCell (p := ⟨_, _, none⟩) (Nat.le_refl _) _).setCell (p := ⟨_, _, none⟩) (Nat.le_refl _) _).setCell (p := ⟨_, _, none⟩) (Nat.le_refl _) _).setCell (p := ⟨_, _, none⟩) (Nat.le_refl _) _).drew⟩
   · have HXB : Hid (∃ o : Nat, E = .bad o er /\ at_ = (o : Nat)) := Lib.hid (by
      have h9 := HI3.out;rw [HEX.out];unfold queryT;rw [HXX.out];cases X with
      | syn o => obtain ⟨rfl, rfl⟩ := h9; exact ⟨o, rfl, rfl⟩
      | deep o => obtain ⟨rfl, rfl⟩ := h9; exact ⟨o, rfl, rfl⟩
      | ok t0 ts0 ns0 => exact absurd h9.2.2.2.1 he)
     obtain ⟨o, heo, rfl⟩ := HXB.out;have HEB := Lib.hid heo;have hG := rf_goes w4 r v ts ns er (o : Nat) HM4.out;rw [beq_eq_false_iff_ne.2 he] at hG;have HG0 := Lib.hid hG;have HH := Lib.hid he;clear hG HXB heo HI3 HEX HXX HFT he;go_wp2_with fail;refine HG0.out.mono ?_; rintro e w5 ⟨rfl, hb5⟩;have HM5 := Lib.hid (HM4.out.below hb5);have HW5 := Lib.hid (HB4.out.trans (hb5.mono HB4.out.size));have HQ5 := Lib.hid (keptR hb5 HQ4.out);have hG := rf_goes w5 r v ts ns er (o : Nat) HM5.out;rw [beq_eq_false_iff_ne.2 HH.out] at hG;have HG5 := Lib.hid hG;clear hb5 hG HG0 HM4 HT4 HQ4 HN4;go_wp2_with fail;refine HG5.out.mono ?_; rintro e w8 ⟨rfl, hb8⟩;have HMB := Lib.hid (HM5.out.below hb8);have HWB := Lib.hid (HW5.out.trans (hb8.mono HW5.out.size));have HQB := Lib.hid (keptR hb8 HQ5.out);clear hb8 HM5 HW5 HQ5 HG5;obtain ⟨gb, kb, capb, _, hrb, _⟩ := HMB.out.ex;obtain ⟨_, _, r2, r3, _⟩ := cellsF4 hrb;obtain ⟨d0, d1, d2, d3, e0, e1, e2, e3⟩ := cellsR4 HQB.out;have hne2 : r ≠ w.heap.size := by omega
     clear hrb;go_upto_region 9 with fail;go_region
     all_goals
      go_wp2_with fail;refine bodyPost_ret (v := .tuple #[zeroT, .slice none 0 0, .int .i64 (o : Nat), .int .i64 er]) (by simp [results, Tryz.results15, go_sem, d0, d1, d2, d3, zeroT]) rfl ?_;show QueryOut w E _ _
      rw [HEB.out];exact ⟨rfl, ((((HWB.out.setCell (p := ⟨_, _, none⟩) (Nat.le_refl _) _).setCell (p := ⟨_, _, none⟩) (Nat.le_refl _) _).setCell (p := ⟨_, _, none⟩) (Nat.le_refl _) _).setCell (p := ⟨_, _, none⟩) (Nat.le_refl _) _).drew⟩
def PState (E : Pr (List Tm)) (l : List Tm) (tk : List Tok) (er atk : Int) (n : Nat) : Prop :=
 (er = 0 /\ atk = 0 /\ Fine tk /\ tk.length + l.length <= n /\ ∃ f, tk.length <= f /\ progGo f l tk = E) \/ (∃ o : Nat, E = .bad o er /\ er ≠ 0 /\ atk = (o : Nat))
theorem pstate_next {E : Pr (List Tm)} {l : List Tm} {tk tk2 : List Tok} {ns2 : Nms} {er at2 : Int} {n f : Nat} {t : Tm} (hf : Fine tk) (hn : tk.length + l.length <= n) (hff : tk.length <= f) (hE : progGo f l tk = E) (h9 : ¬ (fstT tk).kind = 9) (hi : WIs 0 (wholeR true tk) t tk2 ns2 er at2) : PState E (l ++ [t]) tk2 er at2 n /\ (if er = 0 then tk2.length + 1 else 0) < tk.length + 1 := by
 obtain ⟨f', rfl⟩ : ∃ f', f = f' + 1 := ⟨f - 1, by have := hf.pos; omega⟩;rw [show progGo (f' + 1) l tk = if (fstT tk).kind = 9 then .ok l else
  match wholeR true tk with
  | .syn o => .bad o 60
  | .deep o => .bad o 3
  | .ok t ts' _ => progGo f' (l ++ [t]) ts' from rfl, if_neg h9] at hE
 cases hx : wholeR true tk with
 | syn o => rw [hx] at hE hi; obtain ⟨rfl, rfl⟩ := hi; exact ⟨.inr ⟨o, hE.symm, by decide, rfl⟩, by rw [if_neg (by decide)]; omega⟩
 | deep o => rw [hx] at hE hi; obtain ⟨rfl, rfl⟩ := hi; exact ⟨.inr ⟨o, hE.symm, by decide, rfl⟩, by rw [if_neg (by decide)]; omega⟩
 | ok t0 ts0 ns0 =>
  rw [hx] at hE hi;obtain ⟨rfl, rfl, rfl, rfl, rfl⟩ := hi;obtain ⟨a1, a2, _, _⟩ := wholeR_left hf hx;have := t.size_pos;exact ⟨.inl ⟨rfl, rfl, a1, by rw [List.length_append, List.length_singleton]; omega, f', by omega, hE⟩, by rw [if_pos rfl]; omega⟩
set_option maxRecDepth 100000 in
set_option maxHeartbeats 8000000 in
theorem rf_Program (s : ByteArray) (w : World) (hT : TabsT w) :
 Calls Tryz.prog 12 #[.string s] w fun e w' => ProgramOut w (progL s.data.toList) e w' := by
 have HC := Lib.hid (rf_cut s w hT);have HTT := Lib.hid hT;have f0 := tok_field0;obtain ⟨i0, hi, hz0, hz1, hz2⟩ := info_partsR infoTermR;obtain ⟨E, hE⟩ : ∃ E, progL s.data.toList = E := ⟨_, rfl⟩;rw [hE];unfold progL at hE;have HE := Lib.hid hE;clear hT hE;go_enter Tryz.func12, Tryz.ntmps12;go_wp2_with fail;refine HC.out.mono ?_;rintro e w1 (⟨o, er, her, rfl, hb1, hcut⟩ | ⟨T, ⟨g, k, cap, rfl, hg0, hg1, hl, hcm, hrow, hb1⟩, hfT, hlT, hcut⟩)
 · have HEX : Hid (E = .bad o er) := Lib.hid (by rw [<- HE.out, hcut]);have her0 : (er == 0) = false := by rcases her with rfl | rfl <;> rfl
   have HB1 := Lib.hid hb1;clear hb1 hcut her;go_wp2_with fail;refine bodyPost_ret (v := .tuple #[.slice none 0 0, .int .i64 (o : Nat), .int .i64 er]) (by simp [results, Tryz.results12, go_sem]) rfl ?_;show ProgramOut w E _ _
   rw [HEX.out];exact ⟨rfl, HB1.out⟩
 · have HEX : Hid (progGo T.length [] T = E) := Lib.hid (by rw [<- HE.out, hcut]; rfl);have HB1 := Lib.hid hb1;have hs1 := hb1.size;have hm2 := FMem.start (w := w1) hg1 hl hcm hrow;clear hb1 hcut HE HC;go_wp2_with fail;have hb2 : Below w1.heap.size w1 (w1.alloc (.cells #[.slice (some ⟨g, k, none⟩) T.length cap, .slice none 0 0, .int .i64 0, .int .i64 0] 58)) := (Below.refl _ _).alloc (Nat.le_refl _) _;have hs2 : (w1.alloc (.cells #[.slice (some ⟨g, k, none⟩) T.length cap, .slice none 0 0, .int .i64 0, .int .i64 0] 58)).heap.size = w1.heap.size + 1 := by simp
   generalize w1.alloc (.cells #[.slice (some ⟨g, k, none⟩) T.length cap, .slice none 0 0, .int .i64 0, .int .i64 0] 58) = w2 at *;have HB2 := Lib.hid (HB1.out.trans (hb2.mono HB1.out.size));have HM2 := Lib.hid hm2;have HFT := Lib.hid hfT;have hs2a : w2.heap.size <= w1.heap.size + 1 := Nat.le_of_eq hs2;have hs2b : w1.heap.size + 1 <= w2.heap.size := Nat.le_of_eq hs2.symm;clear hm2 hb2 hfT hrow HB1 hs2;generalize w1.heap.size = r at *;have hHID : Hid (Below r w2 w2) := Lib.hid (Below.refl _ _);go_loopw [9] (fun lv wr => ∃ (l : List Tm) (tk : List Tok) (nk : Nms) (er atk : Int) (vk : Value), Hid (PState E l tk er atk T.length) /\ Hid (FMem wr r vk tk nk er atk) /\ Hid (Below r w2 wr) /\ Hid (SevMem w2.heap.size wr lv (.slice none 0 0) l) /\ w2.heap.size <= wr.heap.size /\ l.length <= T.length) (fun _ wr => fLen wr r)
   case atStart => exact ⟨[], T, [], 0, 0, .slice none 0 0, Lib.hid (.inl ⟨rfl, rfl, HFT.out, by simp, T.length, Nat.le_refl _, HEX.out⟩), HM2, hHID, Lib.hid (SevMem.empty _ _ _), Nat.le_refl _, Nat.zero_le _⟩
   case round =>
    obtain ⟨l, tk, nk, er, atk, vk, HS, HM, HBB, HSV, hws, hll⟩ := hrel;have HLEN := Lib.hid HM.out.fLen;have hG := rf_goes wr r vk tk nk er atk HM.out;have hltr := HM.out.lt;by_cases he : er = 0
    · obtain ⟨_, rfl, hfk, hlk, f, hff, hpg⟩ := HS.out.resolve_right (fun ⟨o, _, h2, _⟩ => h2 he);subst he;have HFK := Lib.hid hfk;have HPG := Lib.hid hpg;have hfp := hfk.pos;have HG0 := Lib.hid hG;have HNX := Lib.hid (fun W hb => rf_next W r vk tk nk 0 0 (HM.out.below hb) hfp);have HWH := Lib.hid (fun W (hb : Below wr.heap.size wr W) => rf_whole true tk nk W r vk 0 (by omega) hfk (HM.out.below hb) (fun W' hb' => (HTT.out.on (HB2.out.trans (((HBB.out.trans (hb.mono (by omega))).trans hb').mono (by omega)))).1));obtain ⟨ad0, cap0, rfl, _, hcm0, _⟩ := HSV.out.slice;by_cases hk9 : (fstT tk).kind = 9
      · have HEY : Hid (E = .ok l) := Lib.hid (by
         obtain ⟨f', rfl⟩ : ∃ f', f = f' + 1 := ⟨f - 1, by omega⟩;rw [<- HPG.out];show (if _ then _ else _) = _
         rw [if_pos hk9])
        have k9 : ((fstT tk).kind != 9) = false := by simp [hk9]
        clear hG HS hfk hpg hk9 HWH;unfold tokv at HNX;generalize (⟨(fstT tk).text.toArray⟩ : ByteArray) = ux at *;generalize (fstT tk).kind = k2 at *;generalize (fstT tk).n = n2 at *;generalize (fstT tk).pos = p2 at *;go_wp2_with fail;refine HG0.out.mono ?_; rintro e w5 ⟨rfl, hb5⟩;have HB5 := Lib.hid hb5;clear hb5;go_wp2_with fail;refine (HNX.out _ HB5.out).mono ?_; rintro e w6 ⟨rfl, hb6⟩;have HB6 := Lib.hid (HB5.out.trans (hb6.mono HB5.out.size));clear hb6;go_wp2_with fail;refine (rf_goes w6 r vk tk nk 0 0 (HM.out.below HB6.out)).mono ?_; rintro e w7 ⟨rfl, hb7⟩;have HB7 := Lib.hid (HB6.out.trans (hb7.mono HB6.out.size));clear hb7 HNX HG0;go_wp2_with fail;obtain ⟨ad, cap1, hee, h1, h2, h3⟩ := (HSV.out.go (r := r) (by omega) (RGo.of_below HB7.out (by omega))).slice;injection hee with e1 _ e2;subst e1 e2;refine bodyPost_ret (v := .tuple #[.slice ad0 l.length cap0, .int .i64 0, .int .i64 0]) (by simp [results, Tryz.results12, go_sem]) rfl ?_;show ProgramOut w E _ _
        rw [HEY.out];exact ⟨ad0, cap0, rfl, h1, h2, h3.kept (fun _ _ _ => rfl) (fun b hp _ => by have := hp.1; omega), HB2.out.trans ((HBB.out.trans (HB7.out.mono (by omega))).mono (by omega))⟩
      · have k9 : ((fstT tk).kind != 9) = true := by simp [hk9]
        have HPN := Lib.hid (fun t tk2 ns2 er2 at2 hi => pstate_next (t := t) (tk2 := tk2) (ns2 := ns2) (er := er2) (at2 := at2) hfk hlk hff hpg hk9 hi);clear hG HS hfk hpg hk9;unfold tokv at HNX;generalize (⟨(fstT tk).text.toArray⟩ : ByteArray) = ux at *;generalize (fstT tk).kind = k2 at *;generalize (fstT tk).n = n2 at *;generalize (fstT tk).pos = p2 at *;go_wp2_with fail;refine HG0.out.mono ?_; rintro e w5 ⟨rfl, hb5⟩;have HB5 := Lib.hid hb5;clear hb5;go_wp2_with fail;refine (HNX.out _ HB5.out).mono ?_; rintro e w6 ⟨rfl, hb6⟩;have HB6 := Lib.hid (HB5.out.trans (hb6.mono HB5.out.size));clear hb6;go_wp2_with fail;refine (HWH.out _ HB6.out).mono ?_; rintro e w4 ⟨t, ts1, ns1, er1, at1, v4, ad4, cap4, rfl, hm4, hg4, ht4, hi4⟩;have hg4r : RGo r (.slice none 0 0) wr (.slice none 0 0) w4 := (RGo.of_below HB6.out (by omega)).trans hg4.rgo;have hs4 := HSV.out.go (r := r) (by omega) hg4r;obtain ⟨xs, hox, hrow⟩ := hs4.ex;have HNE := Lib.hid hs4.ne;have HLT := Lib.hid hox.lt;have HLV := Lib.hid (fun k hk => ((HSV.out.ex.choose_spec.1).lt k hk).2);have HM4 := Lib.hid hm4;have HBB4 := Lib.hid (HBB.out.trans hg4r.below);have HOW4 := Lib.hid hg4.own;have hs46 := hg4.below.size;have hs66 := HB6.out.size;have HT4 := Lib.hid ht4.bare;have HROW := Lib.hid hrow;obtain ⟨hp4, hl4⟩ := HPN.out t ts1 ns1 er1 at1 hi4;have HP4 := Lib.hid hp4;have HL4 := Lib.hid hl4;clear hm4 hg4 hg4r ht4 hs4 hrow hi4 hp4 hl4 HWH HNX HG0 HPN;unfold tmv;go_wp2_with (first
         | (at_builtin; refine wpList_append_lies _ rfl _ _ 23 rfl w2.heap.size 30 i0 (.agg #[.int .i64 0, .string ⟨#[]⟩, .int .i64 0, .slice none 0 0]) 4 56 Tryz.underlying23 hi hz0 hz1 hz2 rfl (by decide) _ _ _ rfl (hox.alloc _) ⟨w4.heap.size, 0, none⟩ 1 1 (tcells t ad4 cap4) rfl rfl ?c1 ?c2 (by decide) ?c3 ?c4 ?c5 _ rfl ?_))
        case c1 =>
         intro j u hj;match j, hj with
         | 0, hj => simp [tcells] at hj; subst hj; simp [Addr.add]
         | 1, hj => simp [tcells] at hj; subst hj; simp [Addr.add]
         | 2, hj => simp [tcells] at hj; subst hj; simp [Addr.add]
         | 3, hj => simp [tcells] at hj; subst hj; simp [Addr.add]
        case c2 => intro u hu; simp [tcells] at hu; rcases hu with rfl | rfl | rfl | rfl <;> rfl
        case c3 => unfold maxLen; omega
        case c4 => omega
        case c5 => simp; omega
        intro g5 cap5 w5 hown5 hgrow hat hlt5;have hm5 := (HM4.out.below ((Below.refl _ w4).alloc (Nat.le_refl _) (.cells #[.int .i64 t.kind, .string t.name, .int .i64 t.n, .slice ad4 t.args.length cap4] 30))).grown hgrow (fun k hk => by have := (HLT.out k hk).1; omega) (fun k hk e => by
         have h1 := HOW4.out k e.symm;have h2 := HLV.out k hk;omega)
        have hbb5 := ((HBB4.out.alloc (by omega) (.cells #[.int .i64 t.kind, .string t.name, .int .i64 t.n, .slice ad4 t.args.length cap4] 30))).grown hgrow (by rw [World.size_alloc]; omega) (fun k hk => by have := (HLT.out k hk).1; omega);have hs5 : SevMem w2.heap.size w5 (.slice (some ⟨g5, 0, none⟩) (l.length + 1) cap5) (.slice none 0 0) (l ++ [t]) := by
         refine SevMem.snoc (B2 := w6.heap.size) (by omega) (fun k hk => HNE.out k hk) (fun k hk => by cases hk) (fun k hk => by have := HLV.out k hk; omega) (HROW.out.kept (fun b _ hb => Below.heap_alloc _ _ _ hb) (fun b hp _ => hp)) (HT4.out.below ((Below.refl _ w4).alloc (Nat.le_refl _) _)) hown5 hgrow ?_;rcases hat with e | e
         · exact .inl e.symm
         · exact .inr ⟨g5, rfl, by rw [World.size_alloc]; omega⟩
        have hs45 : w4.heap.size <= w5.heap.size := by have := hgrow.size; rw [World.size_alloc] at this; omega
        have HM5 := Lib.hid hm5;have HBB5 := Lib.hid hbb5;have HS5 := Lib.hid hs5;clear hm5 hbb5 hs5 hown5 hgrow hat hox;go_wp2_with fail;go_roundw
        case rel =>
         refine ⟨l ++ [t], ts1, ns1, er1, at1, v4, HP4, HM5, HBB5, HS5, by omega, ?_⟩;rw [List.length_append, List.length_singleton]; omega
        case measure => exact Nat.lt_of_le_of_lt (Nat.le_of_eq HM5.out.fLen) (by rw [HLEN.out]; exact HL4.out)
    · obtain ⟨o, hEo, _, rfl⟩ := HS.out.resolve_left (fun h9 => he h9.1);have HEB := Lib.hid hEo;rw [beq_eq_false_iff_ne.2 he] at hG;have HG0 := Lib.hid hG;have HH := Lib.hid he;clear hG HS hEo he;go_wp2_with fail;refine HG0.out.mono ?_; rintro e w5 ⟨rfl, hb5⟩;have HM5 := Lib.hid (HM.out.below hb5);have HB5 := Lib.hid hb5;have hG := rf_goes w5 r vk tk nk er (o : Nat) HM5.out;rw [beq_eq_false_iff_ne.2 HH.out] at hG;have HG5 := Lib.hid hG;clear hb5 hG HG0;go_wp2_with fail;refine HG5.out.mono ?_; rintro e w8 ⟨rfl, hb8⟩;have HM8 := Lib.hid (HM5.out.below hb8);have HB8 := Lib.hid (HB5.out.trans (hb8.mono HB5.out.size));obtain ⟨gb, kb, capb, _, hrb, _⟩ := HM8.out.ex;obtain ⟨_, _, r2, r3, _⟩ := cellsF4 hrb;clear hrb hb8 HG5;go_upto_region 9 with fail;go_region
      all_goals
       go_wp2_with fail;refine bodyPost_ret (v := .tuple #[.slice none 0 0, .int .i64 (o : Nat), .int .i64 er]) (by simp [results, Tryz.results12, go_sem]) rfl ?_;show ProgramOut w E _ _
       rw [HEB.out];exact ⟨rfl, (HB2.out.trans ((HBB.out.trans (HB8.out.mono (by omega))).mono (by omega))).drew⟩
def qryAns : Pr (Tm × Nms) -> Tm × Nms × Int × Int
 | .bad o er => (.mk 0 ⟨#[]⟩ 0 [], [], (o : Nat), er)
 | .ok (t, ns) => (t, ns, 0, 0)
theorem query_any {w : World} {x : Pr (Tm × Nms)} {e : Ending} {w' : World} (h : QueryOut w x e w') : ∃ v ad cap, e = .returned (.tuple #[tmv (qryAns x).1 ad cap, v, .int .i64 (qryAns x).2.2.1, .int .i64 (qryAns x).2.2.2]) /\ OwnStrs w.heap.size w' v (nmB (qryAns x).2.1) /\ TmIn w' (qryAns x).1 ad cap /\ Below w.heap.size w w' := by
 cases x with
 | bad o er => exact ⟨.slice none 0 0, none, 0, h.1, World.ownsRow_nil _ _ _ _, ⟨in64R (x := 0) (by decide) (by decide), in64R (x := 0) (by decide) (by decide), Nat.zero_le _, Nat.le_refl _, Nat.zero_le _, .nil _⟩, h.2⟩
 | ok y => obtain ⟨t, ns⟩ := y; obtain ⟨v, ad, cap, he, h1, h2, h3⟩ := h; exact ⟨v, ad, cap, he, h1, h2.toIn, h3⟩
theorem qryAns_small (src : List UInt8) : (qryAns (queryL src)).1.size <= 5000 /\ (qryAns (queryL src)).2.1.length <= 200 := by
 cases hq : queryL src with
 | bad o er => exact ⟨by show Tm.size (.mk 0 ⟨#[]⟩ 0 []) <= 5000; decide, Nat.zero_le _⟩
 | ok y =>
  obtain ⟨t, ns⟩ := y;unfold queryL cutThen at hq;split at hq
  · cases hq
  · rename_i hl
    cases hc : cutL src 0 false with
    | bad o => rw [hc] at hq; cases hq
    | good T =>
     rw [hc] at hq;dsimp only at hq;have hf := cut_fine (by omega) hc;have hm := cut_many hc;unfold queryT at hq;cases hw : wholeR false T with
     | syn o => rw [hw] at hq; cases hq
     | deep o => rw [hw] at hq; cases hq
     | ok t1 ts1 ns1 =>
      rw [hw] at hq;dsimp only at hq;obtain ⟨_, h2, h3, _⟩ := wholeR_left hf hw;split at hq
      · injection hq with hq;injection hq with e1 e2;subst e1 e2;exact ⟨by show t1.size <= 5000; omega, h3⟩
      · cases hq
set_option maxRecDepth 100000 in
set_option maxHeartbeats 4000000 in
theorem walk_ReadQueries (s : ByteArray) (w : World) (hT : TabsT w) :
 Calls Tryz.prog 4 #[.string s] w fun e w' => e = .returned (.bool true) /\ Below w.heap.size w w' := by
 have HL := Lib.hid (read_live w hT);have HQ := Lib.hid (fun W (hb : Below w.heap.size w W) => rd_Query s W (hT.on hb));have HR := Lib.hid (fun W (hb : Below w.heap.size w W) => rf_Query s W (hT.on hb));obtain ⟨hsz, hns⟩ := qryAns_small s.data.toList;have HA := Lib.hid (fun (w w' : World) (e : Ending) (h : QueryOut w (queryL s.data.toList) e w') => query_any h);generalize queryL s.data.toList = x at *;generalize (qryAns x).2.2.1 = o at *;generalize (qryAns x).2.2.2 = er at *;generalize (qryAns x).1 = t at *;generalize (qryAns x).2.1 = ns at *;clear hT;go_enter Tryz.func4, Tryz.ntmps4;go_wp2_with fail;refine HL.out.mono ?_; rintro e w1 ⟨rfl, hb1⟩;have HB1 := Lib.hid hb1;clear hb1;go_wp2_with fail;refine (HQ.out _ HB1.out).mono ?_; rintro e w2 hq2;obtain ⟨v1, ad1, cap1, rfl, ho, ht, hb2⟩ := HA.out _ _ _ hq2;have HB2 := Lib.hid (HB1.out.trans (hb2.mono HB1.out.size));have HO2 := Lib.hid ho;have HT2 := Lib.hid ht;clear hb2 ho ht hq2;unfold tmv;go_upto_region 3 with fail;have hb3 : Below w2.heap.size w2 (w2.alloc (.cells #[.int .i64 t.kind, .string t.name, .int .i64 t.n, .slice ad1 t.args.length cap1] 30)) := (Below.refl _ _).alloc (Nat.le_refl _) _;have HC3 := Lib.hid (newR w2 (.cells #[.int .i64 t.kind, .string t.name, .int .i64 t.n, .slice ad1 t.args.length cap1] 30));generalize w2.alloc (.cells #[.int .i64 t.kind, .string t.name, .int .i64 t.n, .slice ad1 t.args.length cap1] 30) = w3 at *;have HB3 := Lib.hid (HB2.out.trans (hb3.mono HB2.out.size));have HO3 := Lib.hid (OwnStrs.below HO2.out hb3);have HT3 := Lib.hid (HT2.out.on hb3);clear hb3 HO2 HT2;go_wp2_with fail;refine (HR.out _ HB3.out).mono ?_; rintro e w4 hq4;obtain ⟨v2, ad2, cap2, rfl, ho, ht, hb4⟩ := HA.out _ _ _ hq4;have HB4 := Lib.hid (HB3.out.trans (hb4.mono HB3.out.size));have HO4 := Lib.hid (OwnStrs.below HO3.out hb4);have HT4 := Lib.hid (HT3.out.on hb4);have HP4 := Lib.hid ho;have HU4 := Lib.hid ht;have HC4 := Lib.hid (keptR hb4 HC3.out);clear hb4 ho ht hq4 HO3 HT3 HC3 HA HQ HR;unfold tmv;go_upto_region 4 with fail;have hb5 : Below w4.heap.size w4 (w4.alloc (.cells #[.int .i64 t.kind, .string t.name, .int .i64 t.n, .slice ad2 t.args.length cap2] 30)) := (Below.refl _ _).alloc (Nat.le_refl _) _;have HD5 := Lib.hid (newR w4 (.cells #[.int .i64 t.kind, .string t.name, .int .i64 t.n, .slice ad2 t.args.length cap2] 30));generalize w4.alloc (.cells #[.int .i64 t.kind, .string t.name, .int .i64 t.n, .slice ad2 t.args.length cap2] 30) = w5 at *;have HB5 := Lib.hid (HB4.out.trans (hb5.mono HB4.out.size));have HS5 := Lib.hid (ref_Same 100000 t t ad1 ad2 cap1 cap2 w5 (by omega) (by omega) (HT4.out.on hb5) (HU4.out.on hb5));rw [Tm.same_true rfl] at HS5;unfold tmv at HS5;have HN5 := Lib.hid (fun W (hb : Below w5.heap.size w5 W) => ref_SameNames (nmB ns) (nmB ns) v1 v2 _ _ W ((OwnStrs.below HO4.out hb5).below hb) ((OwnStrs.below HP4.out hb5).below hb) (by rw [nmB_len]; omega) rfl);obtain ⟨d0, d1, d2, d3, _⟩ := cellsR4 (keptR hb5 HC4.out);obtain ⟨x0, x1, x2, x3, _⟩ := cellsR4 HD5.out;clear hb5 HO4 HT4 HC4 HP4 HU4;go_wp2_with fail;refine HS5.out.mono ?_; rintro e w6 ⟨rfl, hb6⟩;have HB6 := Lib.hid hb6;clear hb6;go_wp2_with fail;refine (HN5.out _ HB6.out).mono ?_; rintro e w7 ⟨rfl, hb7⟩;have HB7 := Lib.hid (HB5.out.trans ((HB6.out.trans (hb7.mono HB6.out.size)).mono HB5.out.size));clear hb7;go_wp2_with fail;go_ret;exact ⟨rfl, HB7.out⟩
def prgAns : Pr (List Tm) -> List Tm × Int × Int
 | .bad o er => ([], (o : Nat), er)
 | .ok l => (l, 0, 0)
theorem program_any {w : World} {x : Pr (List Tm)} {e : Ending} {w' : World} (h : ProgramOut w x e w') : ∃ ad cap, e = .returned (.tuple #[.slice ad (prgAns x).1.length cap, .int .i64 (prgAns x).2.1, .int .i64 (prgAns x).2.2]) /\ (prgAns x).1.length <= cap /\ cap <= maxLen /\ TArgs w' ad (prgAns x).1 /\ Below w.heap.size w w' := by
 cases x with
 | bad o er => exact ⟨none, 0, h.1, Nat.le_refl _, Nat.zero_le _, .nil _, h.2⟩
 | ok l => obtain ⟨ad, cap, he, h1, h2, h3, h4⟩ := h; exact ⟨ad, cap, he, h1, h2, h3.all, h4⟩
theorem progGo_small : ∀ (f : Nat) (l : List Tm) (ts : List Tok) (L : List Tm), Fine ts -> progGo f l ts = .ok L -> Tm.sizes L <= Tm.sizes l + ts.length
 | 0, l, ts, L, _, h => by injection h with h; subst h; omega
 | f + 1, l, ts, L, hf, h => by
  unfold progGo at h;split at h
  · injection h with h; subst h; omega
  · cases hw : wholeR true ts with
    | syn o => rw [hw] at h; cases h
    | deep o => rw [hw] at h; cases h
    | ok t ts' ns =>
     rw [hw] at h;dsimp only at h;obtain ⟨a1, a2, _, _⟩ := wholeR_left hf hw;have := progGo_small f _ _ _ a1 h;rw [Tm.sizes_append, Tm.sizes_cons, sizes_nil] at this;omega
theorem prgAns_small (src : List UInt8) : Tm.sizes (prgAns (progL src)).1 <= 5000 := by
 cases hq : progL src with
 | bad o er => exact Nat.zero_le _
 | ok L =>
  unfold progL cutThen at hq;split at hq
  · cases hq
  · cases hc : cutL src 0 false with
    | bad o => rw [hc] at hq; cases hq
    | good T =>
     rw [hc] at hq;dsimp only at hq;have hm := cut_many hc;have := progGo_small _ _ _ _ (cut_fine (by omega) hc) hq;rw [sizes_nil] at this;show Tm.sizes L <= 5000
     omega
set_option maxRecDepth 100000 in
set_option maxHeartbeats 4000000 in
theorem walk_ReadPrograms (s : ByteArray) (w : World) (hT : TabsT w) :
 Calls Tryz.prog 3 #[.string s] w fun e w' => e = .returned (.bool true) /\ Below w.heap.size w w' := by
 have HL := Lib.hid (read_live w hT);have HQ := Lib.hid (fun W (hb : Below w.heap.size w W) => rd_Program s W (hT.on hb));have HR := Lib.hid (fun W (hb : Below w.heap.size w W) => rf_Program s W (hT.on hb));have hsz := prgAns_small s.data.toList;have HA := Lib.hid (fun (w w' : World) (e : Ending) (h : ProgramOut w (progL s.data.toList) e w') => program_any h);generalize progL s.data.toList = x at *;generalize (prgAns x).2.1 = o at *;generalize (prgAns x).2.2 = er at *;generalize (prgAns x).1 = l at *;clear hT;go_enter Tryz.func3, Tryz.ntmps3;go_wp2_with fail;refine HL.out.mono ?_; rintro e w1 ⟨rfl, hb1⟩;have HB1 := Lib.hid hb1;clear hb1;go_wp2_with fail;refine (HQ.out _ HB1.out).mono ?_; rintro e w2 hq2;obtain ⟨ad1, cap1, rfl, h1, h2, h3, hb2⟩ := HA.out _ _ _ hq2;have HB2 := Lib.hid (HB1.out.trans (hb2.mono HB1.out.size));have HT2 := Lib.hid h3;clear hb2 h3 hq2;go_wp2_with fail;refine (HR.out _ HB2.out).mono ?_; rintro e w3 hq3;obtain ⟨ad2, cap2, rfl, k1, k2, k3, hb3⟩ := HA.out _ _ _ hq3;have HB3 := Lib.hid (HB2.out.trans (hb3.mono HB2.out.size));have HS := Lib.hid (ref_SameAll l l ad1 ad2 cap1 cap2 w3 (by omega) h1 h2 k1 k2 (HT2.out.on hb3) k3);rw [Tm.same_true rfl] at HS;clear hb3 k3 hq3;go_wp2_with fail;refine HS.out.mono ?_; rintro e w4 ⟨rfl, hb4⟩;have HB4 := Lib.hid (HB3.out.trans (hb4.mono HB3.out.size));clear hb4;go_wp2_with fail;go_ret;exact ⟨rfl, HB4.out⟩
end Go.Proofs.YtlbdocdjijhkbaaGreatDoor
