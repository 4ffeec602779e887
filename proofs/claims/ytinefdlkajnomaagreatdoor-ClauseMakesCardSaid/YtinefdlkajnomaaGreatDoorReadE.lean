import Derived.Test.YtinefdlkajnomaaGreatDoorReadD
namespace Go.Proofs.YtinefdlkajnomaaGreatDoor
open Go.RowKit
attribute [-go_sem] sliced
def WithinC (m : Nat) (W : Rdr) : Prop := ∀ (p : Int) (ts : List Tok) (ns : Nms) (w : World) (r : Nat) (v : Value), ts.length <= m -> Fine ts -> ns.length <= 200 -> RMem w r v ts ns ->
 Calls Tryz.prog 92 #[.pointer (some ⟨r, 0, none⟩), .int .i64 p] w fun e w' => ROut r v w (W p ts ns) e w'
def RList (r : Nat) (v : Value) (w : World) (x : Rd (List Tm)) (e : Ending) (w' : World) : Prop :=
 match x with
 | .bad o => e = misp o /\ Below r w w'
 | .ok l ts ns => ∃ v' ad cap, e = .returned (.slice ad l.length cap) /\ l.length <= cap /\ cap <= maxLen /\ RMem w' r v' ts ns /\ RGo r v w v' w' /\ TArgsP w' (fun b => w.heap.size <= b /\ some b ≠ v'.ownBlock) ad l
def tokLen (w : World) (r : Nat) : Nat :=
 match w.cell? ⟨r, 0, none⟩ with
 | some (.slice _ n _) => n
 | _ => 0
theorem RMem.tokLen {w : World} {r : Nat} {v : Value} {ts : List Tok} {ns : Nms} (h : RMem w r v ts ns) : tokLen w r = ts.length := by
 obtain ⟨g, k, cap, _, hr, _⟩ := h.ex;unfold Go.Proofs.YtinefdlkajnomaaGreatDoor.tokLen;rw [(cellsR2 hr).1]
structure SevMem (B : Nat) (w : World) (lv v : Value) (l : List Tm) : Prop where
 ex : ∃ xs, w.ownsRow B 26 4 lv l.length xs /\ TRow w (fun b => B <= b /\ some b ≠ lv.ownBlock /\ some b ≠ v.ownBlock) xs l
 ne : ∀ k, lv.ownBlock = some k -> some k ≠ v.ownBlock
theorem ownsRow_kept {B : Nat} {e : TypeId} {s n : Nat} {w w' : World} {v : Value} {xs : List Value} (h : w.ownsRow B e s v n xs) (hb : ∀ b, v.ownBlock = some b -> b < w.heap.size -> w'.heap[b]? = w.heap[b]?) : w'.ownsRow B e s v n xs := by
 obtain ⟨hl, h0 | ⟨g, cap, cur, hv, hbg, hh, r⟩⟩ := h
 · exact ⟨hl, .inl h0⟩
 · exact ⟨hl, .inr ⟨g, cap, cur, hv, hbg, (hb g (by rw [hv]; rfl) (Array.getElem?_eq_some_iff.1 hh).1).trans hh, r⟩⟩
theorem SevMem.go {B r : Nat} {w w' : World} {lv v v' : Value} {l : List Tm} (h : SevMem B w lv v l) (hr : r < B) (hg : RGo r v w v' w') : SevMem B w' lv v' l := by
 obtain ⟨xs, h1, h2⟩ := h.ex;have hlt := h1.lt;exact ⟨⟨xs, ownsRow_kept h1 (fun b hb hs => hg.keep b hs (by have := (hlt b hb).1; omega) (h.ne b hb)), h2.kept (fun b hp hs => hg.keep b hs (by omega) hp.2.2) (fun b hp hs => ⟨hp.1, hp.2.1, hg.ne hs hp.2.2⟩)⟩, fun k hk => hg.ne (hlt k hk).2 (h.ne k hk)⟩
theorem RMem.grown {w w3 : World} {r : Nat} {v : Value} {row : Option Nat} {ts : List Tok} {ns : Nms} (h : RMem w r v ts ns) (hg : w.grownBy w3 row) (h1 : ∀ k, row = some k -> r < k) (h2 : ∀ k, row = some k -> some k ≠ v.ownBlock) : RMem w3 r v ts ns := by
 have hlt := h.lt;have hne : ∀ b, b <= r -> some b ≠ row := fun b hb e => by have := h1 b e.symm; omega
 obtain ⟨g, k, cap, hgr, hr, hl, hc, ht⟩ := h.ex;exact ⟨⟨g, k, cap, hgr, (hg.block r hlt (hne r (Nat.le_refl _))).trans hr, hl, hc, ht.kept (fun hs => hg.block g hs (hne g (by omega)))⟩, h.names.kept (fun b hb hs => hg.block b hs (fun e => h2 b e.symm (by rw [hb])))⟩
theorem RGo.grown {w w1 w3 : World} {r : Nat} {v v' : Value} {row : Option Nat} (h : RGo r v w v' w1) (hg : w1.grownBy w3 row) (hr : r < w.heap.size) (h1 : ∀ k, row = some k -> w.heap.size <= k) : RGo r v w v' w3 := by
 have hs := h.below.size;exact ⟨h.below.grown hg (by omega) (fun k hk => by have := h1 k hk; omega), fun b hb h2 h3 => (hg.block b (by omega) (fun e => by have := h1 b e.symm; omega)).trans (h.keep b hb h2 h3), h.own⟩
theorem SevMem.snoc {B B2 : Nat} {w w3 : World} {lv lv3 v : Value} {l : List Tm} {t : Tm} {ad : Option Addr} {cap : Nat} {xs : List Value} (hB : B <= B2) (hne : ∀ k, lv.ownBlock = some k -> some k ≠ v.ownBlock) (hltv : ∀ k, v.ownBlock = some k -> k < w.heap.size) (hlt : ∀ k, lv.ownBlock = some k -> k < B2)
 (hrow : TRow w (fun b => B <= b /\ some b ≠ lv.ownBlock /\ some b ≠ v.ownBlock) xs l) (ht : TmB B2 w v t ad cap)
 (hown : w3.ownsRow B 26 4 lv3 (l.length + 1) (xs ++ tcells t ad cap)) (hg : w.grownBy w3 lv.ownBlock) (hnew : lv3.ownBlock = lv.ownBlock \/ ∃ g, lv3.ownBlock = some g /\ w.heap.size <= g) : SevMem B w3 lv3 v (l ++ [t]) := by
 have hP : ∀ b, (B <= b /\ some b ≠ lv.ownBlock /\ some b ≠ v.ownBlock) -> b < w.heap.size -> (B <= b /\ some b ≠ lv3.ownBlock /\ some b ≠ v.ownBlock) := fun b hp hb => by
  refine ⟨hp.1, ?_, hp.2.2⟩;rcases hnew with h | ⟨g, h, hgs⟩
  · rw [h]; exact hp.2.1
  · rw [h]; intro e; have := Option.some.inj e; omega
 have hT : TmP w (fun b => B <= b /\ some b ≠ lv.ownBlock /\ some b ≠ v.ownBlock) t ad cap := TmP.kept ht (fun _ _ _ => rfl) (fun b hp _ => ⟨by omega, fun e => by have := hlt b e.symm; omega, hp.2⟩);refine ⟨⟨xs ++ tcells t ad cap, by rw [List.length_append]; exact hown, (hrow.kept (fun b hp hb => hg.block b hb hp.2.1) hP).snoc (hT.kept (fun b hp hb => hg.block b hb hp.2.1) hP)⟩, fun k hk => ?_⟩;rcases hnew with h | ⟨g, h, hgs⟩
 · exact hne k (h.symm.trans hk)
 · rw [h] at hk;have e := Option.some.inj hk;intro e2;have := hltv k e2.symm;omega
theorem SevMem.slice {B : Nat} {w : World} {lv v : Value} {l : List Tm} (h : SevMem B w lv v l) : ∃ ad cap, lv = .slice ad l.length cap /\ l.length <= cap /\ cap <= maxLen /\ TArgsP w (fun b => B <= b /\ some b ≠ v.ownBlock) ad l := by
 obtain ⟨xs, ⟨hl, h1⟩, h2⟩ := h.ex;have hne := h.ne;rcases h1 with ⟨rfl, h0⟩ | ⟨g, cap, cur, rfl, hbg, hh, hnc, hcm, hsz, htk⟩
 · cases l with
   | nil => exact ⟨none, 0, rfl, Nat.le_refl _, Nat.zero_le _, .nil _⟩
   | cons t ts => cases h0
 · refine ⟨some ⟨g, 0, none⟩, cap, rfl, hnc, hcm, h2.args g ⟨hbg, hne g rfl⟩ (fun b hp => ⟨hp.1, hp.2.2⟩) 0 (fun j hj => ?_)⟩;rw [Nat.zero_add];exact World.ownsRow.cellAt (w := w) (base := B) (e := 26) (size := 4) (n := l.length) (xs := xs) ⟨hl, .inr ⟨g, cap, cur, rfl, hbg, hh, hnc, hcm, hsz, htk⟩⟩ j (by rw [<- hl]; exact hj)
theorem SevMem.one {B B2 : Nat} {w : World} {v : Value} {t : Tm} {ad : Option Addr} {cap : Nat} (hB : B <= B2) (hBw : B2 <= w.heap.size) (hltv : ∀ k, v.ownBlock = some k -> k < w.heap.size) (ht : TmB B2 w v t ad cap) :
 SevMem B (w.alloc (.cells (tcells t ad cap).toArray 26)) (.slice (some ⟨w.heap.size, 0, none⟩) 1 1) v [t] := by
 have hrow := World.ownsRow_lit (base := B) (e := 26) (size := 4) w (tcells t ad cap).toArray 1 (by omega) (by unfold maxLen; decide) rfl;have hT : TRow (w.alloc (.cells (tcells t ad cap).toArray 26)) (fun b => B <= b /\ some b ≠ (Value.slice (some ⟨w.heap.size, 0, none⟩) 1 1).ownBlock /\ some b ≠ v.ownBlock) (tcells t ad cap ++ []) [t] :=
  .cons t ad cap [] [] (TmP.kept ht (fun b _ hb => Below.heap_alloc _ _ _ hb) (fun b hp hb => ⟨by omega, fun e => by have : b = w.heap.size := Option.some.inj e; omega, hp.2⟩)) .nil
 rw [List.append_nil] at hT;exact ⟨⟨tcells t ad cap, hrow, hT⟩, fun k hk e => by have h1 : w.heap.size = k := Option.some.inj hk; have := hltv k e.symm; omega⟩
theorem infoTermR : (Tryz.prog.info? 26).map (fun i => (i.zero, i.size, i.bytes)) = some (some (.agg #[.int .i64 0, .string ⟨#[]⟩, .int .i64 0, .slice none 0 0]), 4, 56) := by kernel_rfl
set_option maxRecDepth 100000 in
set_option maxHeartbeats 4000000 in
theorem rd_several {m : Nat} {W : Rdr} (hW : GoodW W m) (hC : WithinC m W) (hM : m <= 10000) (most : Nat) (ts : List Tok) (ns : Nms) (w : World) (r : Nat) (v : Value) (hm : ts.length <= m) (hf : Fine ts) (hn : ns.length <= 200) (h : RMem w r v ts ns) :
 Calls Tryz.prog 171 #[.pointer (some ⟨r, 0, none⟩), .int .i64 most] w fun e w' => RList r v w (manyR W most ts ns) e w' := by
 have hlt := h.lt;have HC := Lib.hid (hC 999 ts ns w r v hm hf hn h);have HG := Lib.hid (hW 999 ts ns);obtain ⟨E, hE⟩ : ∃ E, manyR W most ts ns = E := ⟨_, rfl⟩;rw [hE];unfold manyR at hE;obtain ⟨i0, hi, hz0, hz1, hz2⟩ := info_partsR infoTermR;cases hx : W 999 ts ns with
 | bad o =>
  rw [hx] at HC hE;rw [Rd.bind_bad] at hE;subst hE;clear h HG;go_enter Tryz.func171, Tryz.ntmps171;go_wp2_with fail;refine HC.out.mono ?_; rintro e w1 ⟨rfl, hb⟩;exact ⟨rfl, rfl, hb⟩
 | ok t1 ts1 ns1 =>
  rw [hx] at HC hE;rw [Rd.bind_ok] at hE;obtain ⟨a1, a2, a3⟩ := HG.out t1 ts1 ns1 hm hf hn hx;have HE := Lib.hid hE;have HA1 := Lib.hid a1;have HCC := Lib.hid hC;have HWW := Lib.hid hW;clear h HG hx hE hC hW a1 hf;go_enter Tryz.func171, Tryz.ntmps171;go_wp2_with fail;refine HC.out.mono ?_; rintro e w1 ⟨v1, ad1, cap1, rfl, hm1, hg1, ht1⟩;have hs1 : SevMem w.heap.size (w1.alloc (.cells (tcells t1 ad1 cap1).toArray 26)) (.slice (some ⟨w1.heap.size, 0, none⟩) 1 1) v1 [t1] := SevMem.one (Nat.le_refl _) hg1.below.size (fun k hk => (hm1.names.lt k hk).2) ht1;have hm2 := hm1.below ((Below.refl _ w1).alloc (Nat.le_refl _) (.cells (tcells t1 ad1 cap1).toArray 26));have hg2 := hg1.alloc hlt (.cells (tcells t1 ad1 cap1).toArray 26);have HS := Lib.hid hs1;have HM := Lib.hid hm2;have HG := Lib.hid hg2;clear hs1 hm2 hg2 hm1 hg1 ht1 HC;unfold tmv;go_wp2_with fail;go_loopw [5] (fun lv wr => ∃ (f : Nat) (l : List Tm) (tk : List Tok) (nk : Nms) (vk : Value), tk.length <= f /\ Fine tk /\ nk.length <= 200 /\ tk.length + l.length <= ts.length /\ Hid (manyGo W most f l tk nk = E) /\ RMem wr r vk tk nk /\ RGo r v w vk wr /\ SevMem w.heap.size wr lv vk l) (fun _ wr => tokLen wr r)
  case atStart => exact ⟨ts1.length, [t1], ts1, ns1, v1, Nat.le_refl _, HA1.out, a3, by have := t1.size_pos; rw [List.length_singleton]; omega, HE, HM.out, HG.out, HS.out⟩
  case round =>
   obtain ⟨f, l, tk, nk, vk, hfl, hfk, hnk, hlen, HK, hmk, hgk, hsk⟩ := hrel;have HP := Lib.hid (rd_passed wr r vk tk nk [44] ⟨#[44]⟩ rfl hmk hfk);have HR := Lib.hid (fun W' (hb : RMem W' r vk tk.tail nk) (h1 : 1 <= tk.tail.length) => rd_refuse W' r vk tk.tail nk hb h1);have htl := hmk.tokLen;have HTL := Lib.hid htl;have hk := HK.out;have HFT := Lib.hid (fun hp : (fstT tk).isP [44] = true => hfk.tail (by rw [(isP_kind hp).1]; decide));have hfp := hfk.pos;obtain ⟨f', rfl⟩ : ∃ f', f = f' + 1 := ⟨f - 1, by omega⟩;unfold manyGo at hk;have hws := hgk.below.size;cases hp : (fstT tk).isP [44] with
   | false =>
    rw [hp] at HP hk;rw [if_neg (by decide)] at HP hk;have HK2 := Lib.hid hk;have HS := Lib.hid hsk;have HG := Lib.hid hgk;clear htl hk hmk hgk hsk hfk HK HR HFT hp;go_wp2_with fail;refine HP.out.mono ?_; rintro e w3 ⟨rfl, hm3, hg3⟩;have hs3 := HS.out.go hlt hg3;obtain ⟨ad, cap, rfl, h1, h2, h3⟩ := hs3.slice;have HM3 := Lib.hid hm3;have HG3 := Lib.hid (HG.out.trans hg3);have H3 := Lib.hid h3;clear hm3 hg3 hs3 h3 HS;go_wp2_with fail;go_ret;rw [<- HK2.out];exact ⟨vk, ad, cap, rfl, h1, h2, HM3.out, HG3.out, H3.out⟩
   | true =>
    rw [hp] at HP hk;rw [if_pos rfl] at HP hk;obtain ⟨hft, htl2⟩ := HFT.out hp;have hft1 := hft.pos;by_cases hmost : l.length = most
    · rw [if_pos hmost] at hk;have HK2 := Lib.hid hk;have hbq : (((l.length : Nat) : Int) == (most : Int)) = true := by rw [hmost]; simp
      have HS := Lib.hid hsk;have HG := Lib.hid hgk;obtain ⟨ad0, cap0, rfl, _, _, _⟩ := hsk.slice;clear htl hk hmk hgk hsk hfk HK HFT hp hmost;go_wp2_with fail;refine HP.out.mono ?_; rintro e w3 ⟨rfl, hm3, hg3⟩;have HM3 := Lib.hid hm3;have HG3 := Lib.hid (HG.out.trans hg3);clear hm3 hg3;go_wp2_with fail;refine (HR.out _ HM3.out hft1).mono ?_; rintro e w4 ⟨rfl, hb4⟩;refine ⟨rfl, ?_⟩;rw [<- HK2.out];exact ⟨rfl, HG3.out.below.trans (hb4.mono (by have := HM3.out.lt; omega))⟩
    · rw [if_neg hmost] at hk;have hbq : (((l.length : Nat) : Int) == (most : Int)) = false := by simp; omega
      obtain ⟨ad0, cap0, rfl, _, _, _⟩ := hsk.slice;have HS := Lib.hid hsk;have HG := Lib.hid hgk;have HCW := Lib.hid (fun W' (h : RMem W' r vk tk.tail nk) => HCC.out 999 tk.tail nk W' r vk (by omega) hft hnk h);have HGW := Lib.hid (HWW.out 999 tk.tail nk);clear htl hmk hgk hsk hfk HK HR HFT hp hmost;cases hx2 : W 999 tk.tail nk with
      | bad o =>
       rw [hx2] at HCW hk;rw [Rd.bind_bad] at hk;have HK2 := Lib.hid hk;clear hk hx2 HGW;go_wp2_with fail;refine HP.out.mono ?_; rintro e w3 ⟨rfl, hm3, hg3⟩;have HM3 := Lib.hid hm3;have HG3 := Lib.hid (HG.out.trans hg3);clear hm3 hg3;go_wp2_with fail;refine (HCW.out _ HM3.out).mono ?_; rintro e w4 ⟨rfl, hb4⟩;refine ⟨rfl, ?_⟩;rw [<- HK2.out];exact ⟨rfl, HG3.out.below.trans hb4⟩
      | ok t2 ts2 ns2 =>
       rw [hx2] at HCW hk;rw [Rd.bind_ok] at hk;obtain ⟨b1, b2, b3⟩ := HGW.out t2 ts2 ns2 (by omega) hft hnk hx2;have HK2 := Lib.hid hk;have HB1 := Lib.hid b1;have htp := t2.size_pos;clear hk hx2 HGW b1 hft;go_wp2_with fail;refine HP.out.mono ?_; rintro e w3 ⟨rfl, hm3, hg3⟩;have HM3 := Lib.hid hm3;have HS3 := Lib.hid (HS.out.go hlt hg3);have HG3 := Lib.hid (HG.out.trans hg3);clear hm3 hg3;go_wp2_with fail;refine (HCW.out _ HM3.out).mono ?_; rintro e w4 ⟨v4, ad4, cap4, rfl, hm4, hg4, ht4⟩;have hs4 := HS3.out.go hlt hg4;obtain ⟨xs, hox, hrow⟩ := hs4.ex;have hne4 := hs4.ne;have hlt4 := hox.lt;have hs3s := HG3.out.below.size;have hlv3 := fun k hk => ((HS3.out.ex.choose_spec.1).lt k hk).2;have HM4 := Lib.hid hm4;have HG4 := Lib.hid (HG3.out.trans hg4);have hs4s := hg4.below.size;have HT4 := Lib.hid ht4;have HROW := Lib.hid hrow;have HNE := Lib.hid hne4;have HLT := Lib.hid hlt4;have HL3 := Lib.hid hlv3;clear hm4 hg4 ht4 hs4 hrow hne4 hlt4 hlv3;unfold tmv;go_wp2_with (first
        | (at_builtin; refine wpList_append_lies _ rfl _ _ 24 rfl w.heap.size 26 i0 (.agg #[.int .i64 0, .string ⟨#[]⟩, .int .i64 0, .slice none 0 0]) 4 56 Tryz.underlying24 hi hz0 hz1 hz2 rfl (by decide) _ _ _ rfl (hox.alloc _) ⟨w4.heap.size, 0, none⟩ 1 1 (tcells t2 ad4 cap4) rfl rfl ?c1 ?c2 (by decide) ?c3 ?c4 ?c5 _ rfl ?_))
       case c1 =>
        intro j u hj;match j, hj with
        | 0, hj => simp [tcells] at hj; subst hj; simp [Addr.add]
        | 1, hj => simp [tcells] at hj; subst hj; simp [Addr.add]
        | 2, hj => simp [tcells] at hj; subst hj; simp [Addr.add]
        | 3, hj => simp [tcells] at hj; subst hj; simp [Addr.add]
       case c2 => intro u hu; simp [tcells] at hu; rcases hu with rfl | rfl | rfl | rfl <;> rfl
       case c3 => unfold maxLen; omega
       case c4 => omega
       case c5 => simp; omega
       intro g5 cap5 w5 hown5 hgrow hat hlt5;have hm5 := (HM4.out.below ((Below.refl _ w4).alloc (Nat.le_refl _) (.cells #[.int .i64 t2.kind, .string t2.name, .int .i64 t2.n, .slice ad4 t2.args.length cap4] 26))).grown hgrow (fun k hk => by have := (HLT.out k hk).1; omega) (fun k hk => HNE.out k hk);have hg5 := (HG4.out.alloc hlt (.cells #[.int .i64 t2.kind, .string t2.name, .int .i64 t2.n, .slice ad4 t2.args.length cap4] 26)).grown hgrow hlt (fun k hk => (HLT.out k hk).1);have hs5 : SevMem w.heap.size w5 (.slice (some ⟨g5, 0, none⟩) (l.length + 1) cap5) v4 (l ++ [t2]) := by
        refine SevMem.snoc (B2 := w3.heap.size) hs3s (fun k hk => HNE.out k hk) (fun k hk => ?_) (fun k hk => HL3.out k hk) (HROW.out.kept (fun b _ hb => Below.heap_alloc _ _ _ hb) (fun b hp _ => hp)) (HT4.out.below ((Below.refl _ w4).alloc (Nat.le_refl _) _)) hown5 hgrow ?_
        · have := (HM4.out.names.lt k hk).2; rw [World.size_alloc]; omega
        · rcases hat with e | e
          · exact .inl e.symm
          · exact .inr ⟨g5, rfl, by rw [World.size_alloc]; omega⟩
       have HM5 := Lib.hid hm5;have HG5 := Lib.hid hg5;have HS5 := Lib.hid hs5;clear hm5 hg5 hs5 hown5 hgrow hat hox;go_wp2;go_roundw
       case rel => exact ⟨f', l ++ [t2], ts2, ns2, v4, by omega, HB1.out, b3, by rw [List.length_append, List.length_singleton]; omega, HK2, HM5.out, HG5.out, HS5.out⟩
       case measure =>
        rw [HM5.out.tokLen, HTL.out];omega
end Go.Proofs.YtinefdlkajnomaaGreatDoor
