import Derived.Test.YtdjejbgokamjeaaGreatDoorRdF
import Derived.Test.YtdjejbgokamjeaaGreatDoorRdU
import Derived.StillTailTactics
import Derived.Deep.DeepCutAuto
namespace Go.Proofs.YtdjejbgokamjeaaGreatDoor
open Go.RowKit
attribute [-go_sem] sliced
theorem WMem.put {B T r : Nat} {w0 w : World} {v0 v : Value} {t : Tm} {ad : Option Addr} {cap : Nat} {a b c d : Value} (hg : RGo r v0 w0 v w) (hr : r < T) (hT0 : w0.heap.size <= T) (hTv : some T ≠ v.ownBlock)
 (hT : w.heap[T]? = some (.cells #[a, b, c, d] 24 (0, 0))) (hc : TmP w (fun b => B <= b /\ some b ≠ v.ownBlock /\ b ≠ T) t ad cap) (W' : World) (hW : W' = (((w.setCell ⟨T, 0, none⟩ (.int .i64 t.kind)).setCell ⟨T, 1, none⟩ (.string t.name)).setCell ⟨T, 2, none⟩ (.int .i64 t.n)).setCell ⟨T, 3, none⟩ (.slice ad t.args.length cap)) :
 RGo r v0 w0 v W' /\ WMem B T W' v t ad cap /\ (∀ q, q ≠ T -> W'.heap[q]? = w.heap[q]?) /\ W'.heap.size = w.heap.size := by
 have hk : ∀ q, q ≠ T -> W'.heap[q]? = w.heap[q]? := fun q hq => by
  rw [hW, Below.heap_setCell _ _ _ _ (show q ≠ T from hq), Below.heap_setCell _ _ _ _ (show q ≠ T from hq), Below.heap_setCell _ _ _ _ (show q ≠ T from hq), Below.heap_setCell _ _ _ _ (show q ≠ T from hq)]
 refine ⟨by rw [hW]; exact (((hg.set hT0 (by omega) _).set hT0 (by omega) _).set hT0 (by omega) _).set hT0 (by omega) _, ⟨?_, TmP.kept hc (fun b hp _ => hk b hp.2.2) (fun _ hp _ => hp), hTv⟩, hk, by rw [hW]; simp [World.setCell]⟩;have h1 := Lib.heap_setCell_same (i := 0) hT (.int .i64 t.kind);have h2 := Lib.heap_setCell_same (i := 1) h1 (.string t.name);have h3 := Lib.heap_setCell_same (i := 2) h2 (.int .i64 t.n);have h4 := Lib.heap_setCell_same (i := 3) h3 (.slice ad t.args.length cap);rw [hW, h4];rfl
theorem FMem.keptOn {w w' : World} {r : Nat} {v : Value} {ts : List Tok} {ns : Nms} {er at_ : Int} (h : FMem w r v ts ns er at_) (hk : ∀ b, b <= r \/ v.ownBlock = some b -> b < w.heap.size -> w'.heap[b]? = w.heap[b]?) : FMem w' r v ts ns er at_ := by
 have hlt := h.lt;obtain ⟨g, k, cap, hg, hr, hl, hc, ht⟩ := h.ex;exact ⟨⟨g, k, cap, hg, (hk r (.inl (Nat.le_refl _)) hlt).trans hr, hl, hc, ht.kept (fun hs => hk g (.inl (by omega)) hs)⟩, h.names.kept (fun b hb hs => hk b (.inr hb) hs)⟩
theorem FMem.put {w W' : World} {r T : Nat} {v : Value} {ts : List Tok} {ns : Nms} {er at_ : Int} (h : FMem w r v ts ns er at_) (hr : r < T) (hTv : some T ≠ v.ownBlock) (hk : ∀ q, q ≠ T -> W'.heap[q]? = w.heap[q]?) : FMem W' r v ts ns er at_ :=
 h.keptOn (fun b hb _ => hk b (fun e => by rcases hb with hb | hb; (· omega); (· exact hTv (by rw [hb, e]))))
theorem FIs.good {α : Type} {a0 : Int} {x : Rd α} {t : α} {ts : List Tok} {ns : Nms} {er at_ : Int} (h : FIs a0 x t ts ns er at_) (he : er = 0) : x = .ok t ts ns /\ at_ = a0 := by
 cases x with
 | bad o => have := h.1; omega
 | ok t0 ts0 ns0 => obtain ⟨rfl, rfl, rfl, _, rfl⟩ := h; exact ⟨rfl, rfl⟩
theorem FIs.broken {α : Type} {a0 : Int} {x : Rd α} {t : α} {ts : List Tok} {ns : Nms} {er at_ : Int} (h : FIs a0 x t ts ns er at_) (he : er ≠ 0) : ∃ o : Nat, x = .bad o /\ er = 60 /\ at_ = (o : Nat) := by
 cases x with
 | bad o => exact ⟨o, rfl, h.1, h.2⟩
 | ok t0 ts0 ns0 => obtain ⟨_, _, _, h4, _⟩ := h; exact absurd h4 he
theorem rf_close {w : World} {r : Nat} {v : Value} {ts : List Tok} {ns : Nms} {er at_ a0 : Int} {y : Rd Tm} {t : Tm} (l : List UInt8) (x : ByteArray) (hx : x = ⟨l.toArray⟩) (h : FMem w r v ts ns er at_) (hi : FIs a0 y t ts ns er at_) (hf : ∀ t' ts' ns', y = .ok t' ts' ns' -> Fine ts') :
 Calls Tryz.prog 95 #[.pointer (some ⟨r, 0, none⟩), .string x] w fun e w' => e = .returned (.tuple #[]) /\ ∃ ts' er' at', FMem w' r v ts' ns er' at' /\ RGo r v w v w' /\ FIs a0 (closeR l y) t ts' ns er' at' := by
 have hlt := h.lt;by_cases he : er = 0
 · obtain ⟨rfl, rfl⟩ := hi.good he;have hf := hf _ _ _ rfl;subst he;have hc : closeR l (.ok t ts ns) = if (fstT ts).isP l = true then .ok t ts.tail ns else .bad (fstT ts).pos := rfl;cases hp : (fstT ts).isP l with
   | true =>
    rw [hp] at hc;refine (rf_need w r v ts ns at_ l x hx h hf hp).mono ?_; rintro e w' ⟨rfl, h1, h2⟩;exact ⟨rfl, ts.tail, 0, at_, h1, h2, by rw [hc]; exact ⟨rfl, rfl, rfl, rfl, rfl⟩⟩
   | false =>
    rw [hp] at hc;refine (rf_needs w r v ts ns at_ l x hx h hf hp).mono ?_; rintro e w' ⟨rfl, h1, h2⟩;exact ⟨rfl, ts, 60, _, h1, h2, by rw [hc]; exact ⟨rfl, rfl⟩⟩
 · obtain ⟨o, rfl, rfl, rfl⟩ := hi.broken he;refine (rf_needed w r v ts ns 60 _ x h he).mono ?_; rintro e w' ⟨rfl, h1⟩;exact ⟨rfl, ts, 60, _, h.below h1, RGo.of_below h1 (Nat.le_of_lt hlt), ⟨rfl, rfl⟩⟩
theorem fis_list {W : Rdr} {c : List UInt8} {a0 : Int} {x : Rd (List Tm)} {l : List Tm} {t2 : Tm} {ts : List Tok} {ns : Nms} {er at_ : Int} (h : FIs a0 (closeR c (x.bind fun _ ts ns => tailR W ts ns)) t2 ts ns er at_) (hl : ∀ l0 ts0 ns0, x = .ok l0 ts0 ns0 -> l = l0) :
 FIs a0 (closeR c (x.bind fun l ts ns => (tailR W ts ns).bind fun e ts ns => .ok (consT l e) ts ns)) (consT l t2) ts ns er at_ := by
 cases x with
 | bad o => exact h
 | ok l0 ts0 ns0 =>
  obtain rfl := hl _ _ _ rfl;rw [Rd.bind_ok] at h ⊢;cases hy : tailR W ts0 ns0 with
  | bad o => rw [hy] at h; exact h
  | ok e ts1 ns1 =>
   rw [hy] at h;rw [Rd.bind_ok];unfold closeR at h ⊢;rw [Rd.bind_ok] at h ⊢;split at h
   · rename_i hp
     rw [if_pos hp];obtain ⟨rfl, h2, h3, h4, h5⟩ := h;exact ⟨rfl, h2, h3, h4, h5⟩
   · rename_i hp
     rw [if_neg hp];exact h
theorem many_most {W : Rdr} {m : Nat} (hW : GoodW W m) : ∀ (f : Nat) (l : List Tm) (ts : List Tok) (ns : Nms), ts.length <= m -> Fine ts -> ns.length <= 200 -> l.length + ts.length <= 4097 -> manyGo W 1000000 f l ts ns = manyGo W 4096 f l ts ns
 | 0, _, _, _, _, _, _, _ => rfl
 | f + 1, l, ts, ns, hm, hf, hn, hl => by
  rw [manyGo_at, manyGo_at];split
  · rename_i hp
    obtain ⟨h1, h2⟩ := hf.tail (by rw [(isP_kind hp).1]; decide);have h3 := h1.pos;unfold manyAt;rw [if_neg (by omega), if_neg (by omega)];cases hx : W 999 ts.tail ns with
    | bad o => rfl
    | ok t ts1 ns1 =>
     obtain ⟨a1, a2, a3⟩ := hW _ _ _ _ _ _ (by omega) h1 hn hx;have := t.size_pos;rw [Rd.bind_ok, Rd.bind_ok];exact many_most hW f _ _ _ (by omega) a1 a3 (by rw [List.length_append, List.length_singleton]; omega)
  · rfl
theorem manyR_most {W : Rdr} {m : Nat} (hW : GoodW W m) (ts : List Tok) (ns : Nms) (hm : ts.length <= m) (hf : Fine ts) (hn : ns.length <= 200) (hl : ts.length <= 4097) : manyR W 1000000 ts ns = manyR W 4096 ts ns := by
 unfold manyR;cases hx : W 999 ts ns with
 | bad o => rfl
 | ok t ts1 ns1 =>
  obtain ⟨a1, a2, a3⟩ := hW _ _ _ _ _ _ hm hf hn hx;have := t.size_pos;rw [Rd.bind_ok, Rd.bind_ok];exact many_most hW _ _ _ _ (by omega) a1 a3 (by rw [List.length_singleton]; omega)
theorem consT_at (l : List Tm) (e : Tm) (k : Nat) (h : k < l.length) : consT (l.drop k) e = compT [46] [l[k], consT (l.drop (k + 1)) e] := by
 rw [List.drop_eq_getElem_cons h];rfl
set_option maxRecDepth 100000 in
set_option maxHeartbeats 8000000 in
theorem rf_list {m : Nat} {W : Rdr} (hW : GoodW W m) (hC : FTermC m W) (hM : m <= 4097) (ts : List Tok) (ns : Nms) (w : World) (r : Nat) (v : Value) (at_ : Int) (hm : ts.length <= m) (hf : Fine ts) (hn : ns.length <= 200) (h : FMem w r v ts ns 0 at_) :
 Calls Tryz.prog 96 #[.pointer (some ⟨r, 0, none⟩)] w fun e w' => FOut r v w at_ (closeR [93] (listR W ts ns)) e w' := by
 have hlt := h.lt;have hnew := h.new_ne (Nat.le_refl _);have HB := Lib.hid (fun o : Obj => (Below.refl w.heap.size w).alloc (Nat.le_refl _) o);have HC : Hid (∀ W', Below w.heap.size w W' -> Calls Tryz.prog 98 #[.pointer (some ⟨r, 0, none⟩), .int .i64 1000000] W' fun e w' => FList r v W' at_ (manyR W 1000000 ts ns) e w') := Lib.hid (fun W' (hb : Below w.heap.size w W') => rf_many hW hC (by omega) 1000000 (by decide) ts ns W' r v at_ hm hf hn (h.below hb));have HQ := Lib.hid (newR w (.cells #[.int .i64 0, .string ⟨#[]⟩, .int .i64 0, .slice none 0 0] 24));have hmm := manyR_most hW ts ns hm hf hn (by omega);have hml : ∀ l0 ts0 ns0, manyR W 1000000 ts ns = .ok l0 ts0 ns0 -> Fine ts0 /\ ts0.length <= ts.length /\ ns0.length <= 200 := fun l0 ts0 ns0 hx => by
  obtain ⟨⟨f1, _, f3⟩, f4, _, _⟩ := manyR_left hW (by decide) hm hf hn hx;exact ⟨f1, by omega, f3⟩
 obtain ⟨X, hX⟩ : ∃ X, manyR W 1000000 ts ns = X := ⟨_, rfl⟩;obtain ⟨E, hE⟩ : ∃ E, closeR [93] (listR W ts ns) = E := ⟨_, rfl⟩;rw [hE];have HE : Hid (E = closeR [93] (X.bind fun l ts ns => (tailR W ts ns).bind fun e ts ns => .ok (consT l e) ts ns)) := Lib.hid (by rw [<- hE, <- hX, hmm]; rfl);rw [hX] at HC hml;have HML := Lib.hid hml;have HCC := Lib.hid hC;have HWW := Lib.hid hW;clear h hf hC hW hE hX hmm hml;go_enter Tryz.func96, Tryz.ntmps96;go_wp2_with fail;refine (HC.out _ (HB.out _)).mono ?_; rintro e w2 ⟨l, ts1, ns1, er1, at1, v2, ad, cap, rfl, g1, g2, hm2, hg2, ha2, hi2⟩;have HG2 := Lib.hid ((RGo.of_below (r := r) (v := v) (HB.out (.cells #[.int .i64 0, .string ⟨#[]⟩, .int .i64 0, .slice none 0 0] 24)) (Nat.le_of_lt hlt)).trans hg2);have HR2 := Lib.hid (hg2.at HQ.out hnew.1 hnew.2);have hv2 := hg2.ne (b := w.heap.size) (by simp) hnew.2;have hs2 := hg2.below.size;rw [World.size_alloc] at hs2;have HM2 := Lib.hid hm2;have HI2 := Lib.hid hi2;have HA2 := Lib.hid (ha2.kept (w' := w2) (Q := fun b => w.heap.size + 1 <= b /\ some b ≠ v2.ownBlock /\ b < w2.heap.size) (fun _ _ _ => rfl) (fun b hp hb => ⟨by have h := hp.1; simpa using h, hp.2, hb⟩));clear hm2 hg2 ha2 hi2 HC;go_wp2_with fail;refine (ref_Atom1 _ _).mono ?_; rintro e w3 ⟨rfl, hb3⟩;go_upto_region 3 with fail;have hs3 := hb3.size;have hb4 : Below w2.heap.size w2 (w3.alloc (.cells #[.int .i64 2, .string ⟨#[91, 93]⟩, .int .i64 0, .slice none 0 0] 24)) := hb3.alloc hs3 _;have hne4 := (HM2.out.below hb3).new_ne (b := w3.heap.size) (Nat.le_refl _);have HW4 : Hid (WMem (w.heap.size + 1) w3.heap.size (w3.alloc (.cells #[.int .i64 2, .string ⟨#[91, 93]⟩, .int .i64 0, .slice none 0 0] 24)) v2 (atomT [91, 93]) none 0) := Lib.hid ⟨newR _ _, ⟨in64R (x := 2) (by decide) (by decide), in64R (x := 0) (by decide) (by decide), by unfold maxLen; decide, Nat.le_refl _, Nat.zero_le _, .nil _⟩, hne4.2⟩;have hs4 : (w3.alloc (.cells #[.int .i64 2, .string ⟨#[91, 93]⟩, .int .i64 0, .slice none 0 0] 24)).heap.size = w3.heap.size + 1 := by simp
 generalize w3.alloc (.cells #[.int .i64 2, .string ⟨#[91, 93]⟩, .int .i64 0, .slice none 0 0] 24) = w4 at *;have HM4 := Lib.hid (HM2.out.below hb4);have HG4 := Lib.hid (HG2.out.trans (RGo.of_below (r := r) (v := v2) hb4 (by omega)));have HR4 := Lib.hid (keptR hb4 HR2.out);have HA4 := Lib.hid (HA2.out.kept (w' := w4) (Q := fun b => w.heap.size + 1 <= b /\ some b ≠ v2.ownBlock /\ b < w3.heap.size) (fun b hp hb => hb4.block b hb) (fun b hp _ => ⟨hp.1, hp.2.1, by omega⟩));have hT1 : w.heap.size + 1 <= w3.heap.size := by omega
 have hT2 : w3.heap.size < w4.heap.size := by omega
 have hTr : w3.heap.size ≠ r := hne4.1;have hrT : r < w3.heap.size := by omega
 clear hb3 hb4 HM2 HG2 HR2 HA2 hs4 hs3 hs2 hne4 HQ HB;generalize w3.heap.size = T at *;go_cut [15] (fun s15 wx => ∃ b, s15 = .bool b /\ Hid (b = ((er1 == 0) && (fstT ts1).isP [124])) /\ Hid (Below w4.heap.size w4 wx))
 case first =>
  cases he : (er1 == 0) with
  | false =>
   have hG := Lib.hid (rf_goes w4 r v2 ts1 ns1 er1 at1 HM4.out);rw [he] at hG;have HE0 := Lib.hid he;clear he;go_wp2_with fail;refine hG.out.mono ?_; rintro e w5 ⟨rfl, hb5⟩;have HB5 := Lib.hid hb5;clear hb5;go_wp2_with fail;go_meet;exact ⟨false, rfl, Lib.hid (by rw [HE0.out]; rfl), HB5⟩
  | true =>
   have hG := Lib.hid (rf_goes w4 r v2 ts1 ns1 er1 at1 HM4.out);rw [he] at hG;have he0 : er1 = 0 := by simpa using he
   obtain ⟨hx1, _⟩ := HI2.out.good he0;have hfp := (HML.out _ _ _ hx1).1.pos;have HP := Lib.hid (fun W => rf_isPunct (fstT ts1) [124] W);have HN := Lib.hid (fun W hb => rf_next W r v2 ts1 ns1 er1 at1 (HM4.out.below hb) hfp);have HE0 := Lib.hid he;clear hx1 he0 he;generalize tokv (fstT ts1) = tv at *;generalize (fstT ts1).isP [124] = b at *;go_wp2_with fail;refine hG.out.mono ?_; rintro e w5 ⟨rfl, hb5⟩;have HB5 := Lib.hid hb5;clear hb5;go_wp2_with fail;refine (HN.out _ HB5.out).mono ?_; rintro e w6 ⟨rfl, hb6⟩;have HB6 := Lib.hid (HB5.out.trans (hb6.mono HB5.out.size));clear hb6;go_wp2_with fail;refine (HP.out _).mono ?_; rintro e w7 ⟨rfl, hb7⟩;have HB7 := Lib.hid (HB6.out.trans (hb7.mono HB6.out.size));clear hb7;go_wp2_with fail;go_meet;exact ⟨b, rfl, Lib.hid (by rw [HE0.out]; rfl), HB7⟩
 case rest =>
  obtain ⟨b, rfl, HBb, HBc⟩ := hcut;go_upto_if 15 with fail;have hsc := HBc.out.size;go_cut [] (fun wx => ∃ t2 ts2 ns2 er2 at2 v3 ad2 cap2, Hid (FMem wx r v3 ts2 ns2 er2 at2) /\ Hid (RGo r v w v3 wx) /\ Hid (WMem (w.heap.size + 1) T wx v3 t2 ad2 cap2) /\ Hid (TArgsP wx (fun b => w.heap.size + 1 <= b /\ some b ≠ v3.ownBlock /\ b < T) ad l) /\ Hid (wx.heap[w.heap.size]? = some (.cells #[.int .i64 0, .string ⟨#[]⟩, .int .i64 0, .slice none 0 0] 24 (0, 0))) /\ Hid (some w.heap.size ≠ v3.ownBlock) /\ Hid (FIs at_ (X.bind fun _ ts ns => tailR W ts ns) t2 ts2 ns2 er2 at2) /\ w4.heap.size <= wx.heap.size)
  case first =>
   have HMc := Lib.hid (HM4.out.below HBc.out);have HGc := Lib.hid (HG4.out.trans (RGo.of_below (r := r) (v := v2) HBc.out (by omega)));have HRc := Lib.hid (keptR HBc.out HR4.out);have HWc := Lib.hid (HW4.out.below HBc.out);have HAc := Lib.hid (HA4.out.kept (w' := wc) (Q := fun b => w.heap.size + 1 <= b /\ some b ≠ v2.ownBlock /\ b < T) (fun b _ hb => HBc.out.block b hb) (fun _ hp _ => hp));clear HM4 HG4 HR4 HW4 HA4 HBc;cases b with
   | false =>
    go_wp2_with fail;go_meet;refine ⟨_, _, _, _, _, _, _, _, HMc, HGc, HWc, HAc, HRc, Lib.hid hv2, Lib.hid ?_, hsc⟩;by_cases he : er1 = 0
    · obtain ⟨rfl, rfl⟩ := HI2.out.good he;have hb := HBb.out;rw [he] at hb;have hp : (fstT ts1).isP [124] = false := by simpa using hb.symm
      rw [Rd.bind_ok];unfold tailR;rw [hp];exact ⟨rfl, rfl, rfl, he, rfl⟩
    · obtain ⟨o, rfl, h1, h2⟩ := HI2.out.broken he;exact ⟨h1, h2⟩
   | true =>
    have hb := HBb.out;have hb2 := Bool.and_eq_true_iff.1 hb.symm;have he0 : er1 = 0 := by simpa using hb2.1
    obtain ⟨hx1, rfl⟩ := HI2.out.good he0;subst he0;obtain ⟨f1, f2, f3⟩ := HML.out _ _ _ hx1;obtain ⟨f7, f8⟩ := f1.tail (by rw [(isP_kind hb2.2).1]; decide);have h2l : 2 <= ts1.length := by have := f7.pos; omega
    have HT := Lib.hid (fun W' v' hm' => HCC.out 999 ts1.tail ns1 W' r v' at1 (by omega) f7 f3 hm');have HX : Hid ((X.bind fun _ ts ns => tailR W ts ns) = W 999 ts1.tail ns1) := Lib.hid (by rw [hx1, Rd.bind_ok]; unfold tailR; rw [hb2.2]; rfl);clear hb hb2 hx1 f1 f7 HBb HI2;go_wp2_with fail;refine (rf_step wc r v2 ts1 ns1 at1 HMc.out h2l).mono ?_; rintro e w5 ⟨rfl, hm5, hg5⟩;have HM5 := Lib.hid hm5;have HG5 := Lib.hid (HGc.out.trans hg5);have HW5 := Lib.hid (HWc.out.go (by omega) hTr hg5);have HR5 := Lib.hid (hg5.at HRc.out (by omega) hv2);have HA5 := Lib.hid (HAc.out.kept (w' := w5) (Q := fun b => w.heap.size + 1 <= b /\ some b ≠ v2.ownBlock /\ b < T) (fun b hp hb => hg5.keep b hb (by omega) hp.2.1) (fun _ hp _ => hp));have hs5 := hg5.below.size;clear hm5 hg5;go_wp2_with fail;refine (HT.out _ _ HM5.out).mono ?_; rintro e w6 ⟨t2, ts2, ns2, er2, at2, v3, ad2, cap2, rfl, hm6, hg6, ht6, hi6⟩;have hv3 := hg6.ne (b := w.heap.size) (Array.getElem?_eq_some_iff.1 HR5.out).1 hv2;have hTv3 := hg6.ne (b := T) (Array.getElem?_eq_some_iff.1 HW5.out.cells).1 HW5.out.own;have HM6 := Lib.hid hm6;have HG6 := Lib.hid (HG5.out.trans hg6);have HC6 := Lib.hid (hg6.at HW5.out.cells hTr HW5.out.own);have HR6 := Lib.hid (hg6.at HR5.out (by omega) hv2);have HA6 := Lib.hid (HA5.out.kept (w' := w6) (Q := fun b => w.heap.size + 1 <= b /\ some b ≠ v3.ownBlock /\ b < T) (fun b hp hb => hg6.keep b hb (by omega) hp.2.1) (fun b hp hb => ⟨hp.1, hg6.ne hb hp.2.1, hp.2.2⟩));have HT6 := Lib.hid (TmP.kept ht6 (Q := fun b => w.heap.size + 1 <= b /\ some b ≠ v3.ownBlock /\ b ≠ T) (fun _ _ _ => rfl) (fun b hp _ => ⟨by have := hp.1; omega, hp.2, by have := hp.1; omega⟩));have HI6 := Lib.hid hi6;have hs6 := hg6.below.size;obtain ⟨c0, c1, c2, c3, z0, z1, z2, z3⟩ := cellsR4 HC6.out;clear hm6 hg6 ht6 hi6 HT;unfold tmv;go_wp2_with fail;go_meet;obtain ⟨p1, p2, p3, p4⟩ := WMem.put HG6.out hrT (by omega) hTv3 HC6.out HT6.out _ rfl;refine ⟨t2, ts2, ns2, er2, at2, v3, ad2, cap2, Lib.hid (HM6.out.put hrT hTv3 p3), Lib.hid p1, Lib.hid p2, Lib.hid (HA6.out.kept (fun b hp _ => p3 b (by omega)) (fun _ hp _ => hp)), Lib.hid ((p3 _ (by omega)).trans HR6.out), Lib.hid hv3, Lib.hid (by rw [HX.out]; exact HI6.out), by omega⟩
  case rest =>
   obtain ⟨t2, ts2, ns2, er2, at2, v3, ad2, cap2, HMd, HGd, HWd, HAd, HRd, HVd, HId, hsd⟩ := hcut;clear HM4 HG4 HR4 HW4 HA4 HBc HBb;have HFY : Hid (∀ t' ts' ns', (X.bind fun _ ts ns => tailR W ts ns) = .ok t' ts' ns' -> Fine ts') := Lib.hid (fun t' ts' ns' hy => by
    obtain ⟨l0, ts0, ns0, hx, hy⟩ := Rd.bind_is hy;obtain ⟨f1, f2, f3⟩ := HML.out _ _ _ hx;unfold tailR at hy;split at hy
    · rename_i hp
      obtain ⟨f7, f8⟩ := f1.tail (by rw [(isP_kind hp).1]; decide);exact (HWW.out _ _ _ _ _ _ (by omega) f7 f3 hy).fine
    · injection hy with _ h2 _;subst h2;exact f1)
   have HLX : Hid (∀ l0 ts0 ns0, X = .ok l0 ts0 ns0 -> l = l0) := Lib.hid (fun l0 ts0 ns0 hx => by
    have h9 := HI2.out;rw [hx] at h9;exact h9.1)
   go_wp2_with fail;refine (rf_close [93] ⟨#[93]⟩ rfl HMd.out HId.out HFY.out).mono ?_; rintro e w7 ⟨rfl, ts3, er3, at3, hm7, hg7, hi7⟩;have HI7 : Hid (FIs at_ E (consT l t2) ts3 ns2 er3 at3) := Lib.hid (by rw [HE.out]; exact fis_list hi7 HLX.out);have HM7 := Lib.hid hm7;have HG7 := Lib.hid (HGd.out.trans hg7);have HW7 := Lib.hid (HWd.out.go (by omega) hTr hg7);have HR7 := Lib.hid (hg7.at HRd.out (by omega) HVd.out);have HA7 := Lib.hid (HAd.out.kept (w' := w7) (Q := fun b => w.heap.size + 1 <= b /\ some b ≠ v3.ownBlock /\ b < T) (fun b hp hb => hg7.keep b hb (by omega) hp.2.1) (fun _ hp _ => hp));have hs7 := hg7.below.size;have hlc : (l.length : Int) <= 9223372036854775807 := by unfold maxLen at g2; omega
   clear hm7 hg7 hi7 HMd HGd HWd HRd HAd HId HFY HLX HML HCC HWW HE HI2;go_wp2_with fail;go_loopw [5] (fun iv wr => ∃ (k : Nat) (ad3 : Option Addr) (cap3 : Nat), k <= l.length /\ iv = .int .i64 ((k : Int) - 1) /\ Hid (FMem wr r v3 ts3 ns2 er3 at3) /\ Hid (RGo r v w v3 wr) /\ Hid (WMem (w.heap.size + 1) T wr v3 (consT (l.drop k) t2) ad3 cap3) /\ Hid (TArgsP wr (fun b => w.heap.size + 1 <= b /\ some b ≠ v3.ownBlock /\ b < T) ad l) /\ Hid (wr.heap[w.heap.size]? = some (.cells #[.int .i64 0, .string ⟨#[]⟩, .int .i64 0, .slice none 0 0] 24 (0, 0))) /\ w4.heap.size <= wr.heap.size) (fun iv _ => (intOf iv + 1).toNat)
   case atStart => exact ⟨l.length, ad2, cap2, Nat.le_refl _, rfl, HM7, HG7, by rw [List.drop_length]; exact HW7, HA7, HR7, by omega⟩
   case round =>
    obtain ⟨k, ad3, cap3, hk, rfl, HM8, HG8, HW8, HA8, HR8, hs8⟩ := hrel;clear HM7 HG7 HW7 HA7 HR7;obtain ⟨c0, c1, c2, c3, z0, z1, z2, z3⟩ := cellsR4 HW8.out.cells;obtain ⟨d0, d1, d2, d3, e0, e1, e2, e3⟩ := cellsR4 HR8.out;cases k with
    | zero =>
     have hEK : Hid (l.drop 0 = l) := Lib.hid rfl;rw [hEK.out] at c0 c1 c2 c3 HW8;generalize consT l t2 = ek at *;go_wp2_with fail;refine bodyPost_ret (v := tmv ek ad3 cap3) (by simp [results, Tryz.results96, go_sem, d0, d1, d2, d3, tmv]) rfl ?_;exact FOut.fin (x := E) (a0 := at_) (t := ek) (B := w.heap.size + 1) rfl HM8.out HG8.out (TmP.kept HW8.out.tm (fun _ _ _ => rfl) (fun b hp _ => ⟨hp.1, hp.2.1⟩)) HI7.out hlt (Nat.le_refl _) (Nat.lt_succ_self _) HVd.out _ _ _ _
    | succ k =>
     obtain ⟨gb, ob, rfl⟩ := HA8.out.addr2 (by omega);obtain ⟨tad, tcap, xp, x0, x1, x2, x3, hx⟩ := HA8.out.getP k (by omega);have HST := Lib.hid (consT_at l t2 k (by omega));have hkk : (((k + 1 : Nat) : Int) - 1) = (k : Int) := by omega
     have hk1 : (k : Int) < (l.length : Int) := by omega
     have hk2 : (0 : Int) <= (k : Int) := by omega
     have HX := Lib.hid hx;have hgT : gb ≠ T := by have := xp.2.2; omega
     generalize l[k]'(by omega) = x at *;generalize consT (l.drop (k + 1)) t2 = ek at *;clear hx d0 d1 d2 d3 e0 e1 e2 e3;rw [hkk];clear hkk;go_wp2_with fail;go_still_tail 5, (by kernel_rfl)
     change wpList _ _ _ _ _ wr.drew;have hbd : Below wr.heap.size wr wr.drew := (Below.refl _ wr).drew;have hsd2 : wr.drew.heap.size = wr.heap.size := rfl;have HSD := Lib.hid hsd2;have HBD := Lib.hid hbd;clear hsd2 hbd c0 c1 c2 c3 z0 z1 z2 z3 x0 x1 x2 x3;generalize wr.drew = wd at *;have HM9 := Lib.hid (HM8.out.below HBD.out);have HG9 := Lib.hid (HG8.out.trans (RGo.of_below (r := r) (v := v3) HBD.out (by omega)));have HW9 := Lib.hid (HW8.out.below HBD.out);have HR9 := Lib.hid (keptR HBD.out HR8.out);have HA9 := Lib.hid (HA8.out.kept (w' := wd) (Q := fun b => w.heap.size + 1 <= b /\ some b ≠ v3.ownBlock /\ b < T) (fun b _ hb => HBD.out.block b hb) (fun _ hp _ => hp));have HX9 := Lib.hid (TmP.kept HX.out (w' := wd) (Q := fun b => w.heap.size + 1 <= b /\ some b ≠ v3.ownBlock /\ b ≠ T) (fun b _ hb => HBD.out.block b hb) (fun b hp _ => ⟨hp.1, hp.2.1, by omega⟩));have hs9 : w4.heap.size <= wd.heap.size := by rw [HSD.out]; exact hs8
     have hlt3 := fun k hk => (HM9.out.names.lt k hk).2;have HTA := Lib.hid (args2T (P := fun b => w.heap.size + 1 <= b /\ some b ≠ v3.ownBlock /\ b ≠ T) ⟨by omega, fun e => by have := hlt3 _ e.symm; omega, by omega⟩ HX9.out HW9.out.tm);clear HM8 HG8 HW8 HR8 HA8 HX hlt3 HBD HSD;go_wp2_with fail;refine (ref_Comp1 _ _ _ _ _).mono ?_; rintro e w10 ⟨rfl, hb10⟩;have hba := (Below.refl wd.heap.size wd).alloc (Nat.le_refl _) (.cells (tcells x tad tcap ++ tcells ek ad3 cap3).toArray 24);have hb11 : Below wd.heap.size wd w10 := hba.trans (hb10.mono (by simp));have HB11 := Lib.hid hb11;have HC11 := Lib.hid (HW9.out.below hb11).cells;obtain ⟨c0, c1, c2, c3, z0, z1, z2, z3⟩ := cellsR4 HC11.out;have HTB := Lib.hid (TArgsP.kept HTA.out (w' := w10) (Q := fun b => w.heap.size + 1 <= b /\ some b ≠ v3.ownBlock /\ b ≠ T) (fun b _ hb => hb10.block b hb) (fun _ hp _ => hp));clear hba hb10 hb11 HTA;go_wp2_with fail;obtain ⟨p1, p2, p3, p4⟩ := WMem.put (t := compT [46] [x, ek]) (HG9.out.trans (RGo.of_below (r := r) (v := v3) HB11.out (by omega))) hrT (by omega) HW9.out.own HC11.out (compP (by decide) (Nat.le_refl 2) (by unfold maxLen; decide) HTB.out) _ rfl;have hs11 := HB11.out.size;go_roundw
     case rel => exact ⟨k, _, _, by omega, rfl, Lib.hid ((HM9.out.below HB11.out).put hrT HW9.out.own p3), Lib.hid p1, Lib.hid (by rw [HST.out]; exact p2), Lib.hid (HA9.out.kept (fun b hp hb => (p3 b (by omega)).trans (HB11.out.block b hb)) (fun _ hp _ => hp)), Lib.hid ((p3 _ (by omega)).trans (keptR HB11.out HR9.out)), Nat.le_trans (m := w10.heap.size) (by omega) (Nat.le_of_eq p4.symm)⟩
     case measure => simp [intOf]
end Go.Proofs.YtdjejbgokamjeaaGreatDoor
