import Derived.Test.YtinefdlkajnomaaGreatDoorMRdF
import Derived.Deep.DeepCutAuto
import Derived.Test.YtinefdlkajnomaaGreatDoorMReadPl
import Derived.Test.YtinefdlkajnomaaGreatDoorMTermDevAB
import Derived.RegionTactic
import Derived.Test.YtinefdlkajnomaaGreatDoorChecked
import Derived.Tactics
import Derived.Tactics2
import Derived.Defers
import Derived.Recover
import Derived.Laws.Pointers
import Derived.WideLaws
import Derived.RowKit
import Derived.Test.YtinefdlkajnomaaGreatDoorMTokAH
import Derived.Test.YtinefdlkajnomaaGreatDoorMTermMk
import Derived.Deep.RegionHeld3
namespace Go.Proofs.YtinefdlkajnomaaGreatDoor
open Go.RowKit
set_option maxHeartbeats 20000000
set_option linter.unusedSimpArgs false
attribute [-go_sem] sliced
set_option maxRecDepth 100000 in
theorem rd_within {m:Nat} {W:Rdr} (hW:R2 W m) (hC:I5 m W) (hM:m<=10000) (p:Int) (ts:List Tok) (ns:Nms) (w:World) (r:Nat) (v:Value) (hm:ts.length<=m+1) (hf:T0 ts) (hn:ns.length<=200) (h:A1 w r v ts ns):
 Calls Tryz.prog 92 #[.pointer (some ⟨r,0,none⟩),.int .i64 p] w fun e w'=>Rq r v w ((P2 W p ts ns).bind fun x ts' ns'=>z6 W p ts'.length x.1 x.2 ts' ns') e w':=by
 have i_:=h.lt;have HH:=D_ (fun W' (hb:Below w.heap.size w W')=>h.below hb);have g_:=h.new_ne (b:=w.heap.size) (R_ _);have HB:=D_ (fun o:Obj=>(F_ w.heap.size w).alloc (R_ _) o);have HBG:=D_ (fun W' hm'=>rZ hW hC hM p ts ns W' r v hm hf hn hm');have HZ:=D_ (U0 w (.cells #[.int .i64 0,.string ⟨#[]⟩,.int .i64 0,.slice none 0 0] 26));obtain⟨E,hE⟩: ∃E,((P2 W p ts ns).bind fun x ts' ns'=>z6 W p ts'.length x.1 x.2 ts' ns')=E:=⟨_,rfl⟩;rw [hE];cases hx:P2 W p ts ns with
 |bad o=>
  rw [hx]at HBG hE;rw [Rd.bind_bad]at hE;subst hE;clear hx hf hW hC;go_enter Tryz.func92,Tryz.ntmps92;go_wp2_with fail;refine(HBG.out _ (HH.out _ (HB.out _))).mono ?_;rintro e w1 ⟨rfl,hb1⟩;exact⟨rfl,rfl,((HB.out _).mono (N_ i_)).trans hb1⟩
 | ok x ts1 ns1=>
  obtain⟨b1,b2,b3⟩:=D8 hW hm hf hn hx;rw [hx]at HBG hE;rw [Rd.bind_ok]at hE;obtain⟨t1,pri1⟩:=x;dsimp only at hE b2;have hsz:=t1.size_pos;have HE:=D_ hE;have HA1:=D_ b1;have HCC:=D_ hC;have HWW:=D_ hW;clear hx hf hW hC hE b1 h;go_enter Tryz.func92,Tryz.ntmps92;go_wp2_with fail;refine(HBG.out _ (HH.out _ (HB.out _))).mono ?_;rintro e w1 ⟨v1,ad1,cap1,rfl,hm1,hg1,ht1⟩;have hqs:w.heap.size+1<=w1.heap.size:=by have:=hg1.below.size;simpa using this
  have n_:=hg1.at HZ.out g_.1 g_.2;have hqv1:=hg1.ne (b:=w.heap.size) (by simp) g_.2;have hltv:=hm1.ltv;have ht1n:some w1.heap.size≠v1.ownBlock:=fun e=>by have:=hltv _ e.symm;omega
  have HW1:Hid (T7 (w.heap.size+1) w1.heap.size (w1.alloc (.cells #[.int .i64 t1.kind,.string t1.name,.int .i64 t1.n,.slice ad1 t1.args.length cap1] 26)) v1 t1 ad1 cap1):=D_ ⟨U0 w1 _,TmP.kept ht1 (fun b _ hb=>A_ _ _ _ hb) (fun b z hb=>⟨by have:=z.1;simpa using this,z.2,by omega⟩),ht1n⟩;have HQ1:=D_ (N0 n_ (.cells #[.int .i64 t1.kind,.string t1.name,.int .i64 t1.n,.slice ad1 t1.args.length cap1] 26));have HM1:=D_ (hm1.below ((F_ _ w1).alloc (R_ _) (.cells #[.int .i64 t1.kind,.string t1.name,.int .i64 t1.n,.slice ad1 t1.args.length cap1] 26)));have HG1:=D_ (((RGo.of_below (r:=r) (v:=v) (HB.out (.cells #[.int .i64 0,.string ⟨#[]⟩,.int .i64 0,.slice none 0 0] 26)) (N_ i_)).trans hg1).alloc i_ (.cells #[.int .i64 t1.kind,.string t1.name,.int .i64 t1.n,.slice ad1 t1.args.length cap1] 26));clear hm1 hg1 ht1 n_ hltv;have hTr:w1.heap.size≠r:=by omega
  unfold tmv;go_wp2_with fail;go_loopw [6] (fun s6 wr=> ∃(f:Nat) (pri:Int) (t:Tm) (ad:Option Addr) (cap:Nat) (tk:List Tok) (nk:Nms) (vk:Value),s6=.int .i64 pri/\tk.length<=f/\tk.length<=m/\T0 tk/\nk.length<=200/\Hid (z6 W p f t pri tk nk=E)/\A1 wr r vk tk nk/\RGo r v w vk wr/\T7 (w.heap.size+1) w1.heap.size wr vk t ad cap/\wr.heap[w.heap.size]?=some (.cells #[.int .i64 0,.string ⟨#[]⟩,.int .i64 0,.slice none 0 0] 26 (0,0))/\some w.heap.size≠vk.ownBlock) (fun _ wr=>tokLen wr r)
  case atStart=>exact⟨ts1.length,pri1,t1,ad1,cap1,ts1,ns1,v1,rfl,R_ _,by omega,HA1.out,b3,HE,HM1.out,HG1.out,HW1.out,HQ1.out,hqv1⟩
  case round=>
   obtain⟨f,pri,t,ad,cap,tk,nk,vk,rfl,hfl,hml,k_,hnk,HK,hmk,hgk,hwk,hqk,f_⟩:=hrel;have HF:=D_ (E4 wr r vk tk nk hmk k_.pos);have HI:=D_ (fun W'=>rd_infix (j0 tk) W');have HTL:=D_ hmk.tokLen;have HN9:=D_ (fun o (ho:(j0 tk).infix=some o)=>k_.tail (L9 ho));have hk:=HK.out;obtain⟨f',rfl⟩: ∃f',f=f'+1:=⟨f-1,by have:=k_.pos;omega⟩;unfold z6 at hk;have hws:=hgk.below.size;have HMk:=D_ hmk;have HGk:=D_ hgk;have HWk:=D_ hwk;have HQk:=D_ hqk;have hfs:=k_.first.size;have hTk:=(Array.getElem?_eq_some_iff.1 hwk.cells).1;clear hmk hgk hwk hqk HK;cases hi:(j0 tk).infix with
   |none=>
    rw [hi]at HI hk;rw [jx]at HI;dsimp only at hk;have U:=D_ hk;clear hk hi k_ HN9 hfs;unfold Y1 at HF HI;generalize j0 tk=t0 at*;obtain⟨xk,xl,xn,xp⟩:=t0;dsimp only at*;generalize (⟨xl.toArray⟩:ByteArray)=xt at*;go_wp2_with fail;refine HF.out.mono ?_;rintro e w3 ⟨rfl,s⟩;go_upto_region 3 with fail;generalize A:w3.alloc (.cells #[.int .i64 xk,.string xt,.int .i64 xn,.int .i64 (xp:Nat)] 96)=w4;have O:Hid (Below wr.heap.size wr w4):=D_ (by rw [<-A];exact s.alloc s.size _);have M:Hid (w4.heap[w3.heap.size]?=some (.cells #[.int .i64 xk,.string xt,.int .i64 xn,.int .i64 (xp:Nat)] 96 (0,0))):=D_ (by rw [<-A];exact U0 w3 _);have hs3:=s.size;have hs4:w4.heap.size=w3.heap.size+1:=by rw [<-A];simp
    obtain⟨a0,a1,a2,a3,_⟩:=A0 M.out;clear A s;go_wp2_with fail;refine(HI.out _).mono ?_;rintro e w5 ⟨rfl,y⟩;go_upto_region 4 with fail;generalize j:w5.alloc (.cells #[.int .i64 0,.string ⟨#[]⟩] 126)=w6;have hs5:=y.size;have hs6:w6.heap.size=w5.heap.size+1:=by rw [<-j];simp
    have R:=D_ (O.out.trans (y.mono O.out.size));have l:Hid (Below wr.heap.size wr w6):=D_ (by rw [<-j];exact R.out.alloc R.out.size _);have I:Hid (w6.heap[w5.heap.size]?=some (.cells #[.int .i64 0,.string ⟨#[]⟩] 126 (0,0))):=D_ (by rw [<-j];exact U0 w5 _);have h_:Hid (w6.heap[w3.heap.size]?=some (.cells #[.int .i64 xk,.string xt,.int .i64 xn,.int .i64 (xp:Nat)] 96 (0,0))):=D_ (by rw [<-j];exact N0 (B0 y M.out) _);have C:=D_ (HWk.out.below l.out);have J:=D_ (B0 l.out HQk.out);have N:=D_ (HMk.out.below l.out);have T:=D_ (HGk.out.trans (RGo.of_below (r:=r) (v:=vk) l.out (by omega)));obtain⟨u0,u1,u2,u3,_⟩:=A0 C.out.cells;obtain⟨o0,o1,_⟩:=E0 I.out;obtain⟨d0,d1,d2,d3,e0,e1,e2,e3⟩:=A0 J.out;clear j y a0 a1 a2 a3 M;go_wp2_with (omega);refine B_ (v:=tmv t ad cap) (by simp [results,Tryz.results92,go_sem,d0,d1,d2,d3,tmv]) rfl ?_;rw [<-U.out];exact⟨vk,ad,cap,rfl,ROk.fin (B:=w.heap.size+1) N.out T.out (TmP.kept C.out.tm (fun _ _ _=>rfl) (fun b z _=>⟨z.1,z.2.1⟩)) i_ (R_ _) (Nat.lt_succ_self _) f_ _ _ _ _⟩
   | some o=>
    rw [hi]at HI hk;rw [x7]at HI;dsimp only at hk;have HL:=D_ (fun W'=>ops_Left o.k o.p W');by_cases hpo:p<o.p
    · rw [J_ (.inl hpo)]at hk;have U:=D_ hk;clear hk hi k_ HN9 hfs HL;unfold Y1 at HF HI;generalize j0 tk=t0 at*;obtain⟨xk,xl,xn,xp⟩:=t0;dsimp only at*;generalize (⟨xl.toArray⟩:ByteArray)=xt at*;go_wp2_with fail;refine HF.out.mono ?_;rintro e w3 ⟨rfl,s⟩;go_upto_region 3 with fail;generalize A:w3.alloc (.cells #[.int .i64 xk,.string xt,.int .i64 xn,.int .i64 (xp:Nat)] 96)=w4;have O:Hid (Below wr.heap.size wr w4):=D_ (by rw [<-A];exact s.alloc s.size _);have M:Hid (w4.heap[w3.heap.size]?=some (.cells #[.int .i64 xk,.string xt,.int .i64 xn,.int .i64 (xp:Nat)] 96 (0,0))):=D_ (by rw [<-A];exact U0 w3 _);have hs3:=s.size;have hs4:w4.heap.size=w3.heap.size+1:=by rw [<-A];simp
      obtain⟨a0,a1,a2,a3,_⟩:=A0 M.out;clear A s;go_wp2_with fail;refine(HI.out _).mono ?_;rintro e w5 ⟨rfl,y⟩;go_upto_region 4 with fail;generalize j:w5.alloc (.cells #[.int .i64 o.p,.string o.k] 126)=w6;have hs5:=y.size;have hs6:w6.heap.size=w5.heap.size+1:=by rw [<-j];simp
      have R:=D_ (O.out.trans (y.mono O.out.size));have l:Hid (Below wr.heap.size wr w6):=D_ (by rw [<-j];exact R.out.alloc R.out.size _);have I:Hid (w6.heap[w5.heap.size]?=some (.cells #[.int .i64 o.p,.string o.k] 126 (0,0))):=D_ (by rw [<-j];exact U0 w5 _);have h_:Hid (w6.heap[w3.heap.size]?=some (.cells #[.int .i64 xk,.string xt,.int .i64 xn,.int .i64 (xp:Nat)] 96 (0,0))):=D_ (by rw [<-j];exact N0 (B0 y M.out) _);have C:=D_ (HWk.out.below l.out);have J:=D_ (B0 l.out HQk.out);have N:=D_ (HMk.out.below l.out);have T:=D_ (HGk.out.trans (RGo.of_below (r:=r) (v:=vk) l.out (by omega)));obtain⟨u0,u1,u2,u3,_⟩:=A0 C.out.cells;obtain⟨o0,o1,_⟩:=E0 I.out;obtain⟨d0,d1,d2,d3,e0,e1,e2,e3⟩:=A0 J.out;clear j y a0 a1 a2 a3 M;go_wp2_with fail;refine B_ (v:=tmv t ad cap) (by simp [results,Tryz.results92,go_sem,d0,d1,d2,d3,tmv]) rfl ?_;rw [<-U.out];exact⟨vk,ad,cap,rfl,ROk.fin (B:=w.heap.size+1) N.out T.out (TmP.kept C.out.tm (fun _ _ _=>rfl) (fun b z _=>⟨z.1,z.2.1⟩)) i_ (R_ _) (Nat.lt_succ_self _) f_ _ _ _ _⟩
    by_cases hle:Y4 o.k o.p<pri
    · rw [J_ (.inr hle)]at hk;have U:=D_ hk;clear hk hi k_ HN9 hfs;unfold Y1 at HF HI;generalize j0 tk=t0 at*;obtain⟨xk,xl,xn,xp⟩:=t0;dsimp only at*;generalize (⟨xl.toArray⟩:ByteArray)=xt at*;go_wp2_with fail;refine HF.out.mono ?_;rintro e w3 ⟨rfl,s⟩;go_upto_region 3 with fail;generalize A:w3.alloc (.cells #[.int .i64 xk,.string xt,.int .i64 xn,.int .i64 (xp:Nat)] 96)=w4;have O:Hid (Below wr.heap.size wr w4):=D_ (by rw [<-A];exact s.alloc s.size _);have M:Hid (w4.heap[w3.heap.size]?=some (.cells #[.int .i64 xk,.string xt,.int .i64 xn,.int .i64 (xp:Nat)] 96 (0,0))):=D_ (by rw [<-A];exact U0 w3 _);have hs3:=s.size;have hs4:w4.heap.size=w3.heap.size+1:=by rw [<-A];simp
      obtain⟨a0,a1,a2,a3,_⟩:=A0 M.out;clear A s;go_wp2_with fail;refine(HI.out _).mono ?_;rintro e w5 ⟨rfl,y⟩;go_upto_region 4 with fail;generalize j:w5.alloc (.cells #[.int .i64 o.p,.string o.k] 126)=w6;have hs5:=y.size;have hs6:w6.heap.size=w5.heap.size+1:=by rw [<-j];simp
      have R:=D_ (O.out.trans (y.mono O.out.size));have l:Hid (Below wr.heap.size wr w6):=D_ (by rw [<-j];exact R.out.alloc R.out.size _);have I:Hid (w6.heap[w5.heap.size]?=some (.cells #[.int .i64 o.p,.string o.k] 126 (0,0))):=D_ (by rw [<-j];exact U0 w5 _);have h_:Hid (w6.heap[w3.heap.size]?=some (.cells #[.int .i64 xk,.string xt,.int .i64 xn,.int .i64 (xp:Nat)] 96 (0,0))):=D_ (by rw [<-j];exact N0 (B0 y M.out) _);have C:=D_ (HWk.out.below l.out);have J:=D_ (B0 l.out HQk.out);have N:=D_ (HMk.out.below l.out);have T:=D_ (HGk.out.trans (RGo.of_below (r:=r) (v:=vk) l.out (by omega)));obtain⟨u0,u1,u2,u3,_⟩:=A0 C.out.cells;obtain⟨o0,o1,_⟩:=E0 I.out;obtain⟨d0,d1,d2,d3,e0,e1,e2,e3⟩:=A0 J.out;clear j y a0 a1 a2 a3 M;go_wp2_with fail;refine(HL.out _).mono ?_;rintro e w7 ⟨rfl,D⟩;have hs7:=D.size;have h_:=D_ (B0 D h_.out);have I:=D_ (B0 D I.out);have J:=D_ (B0 D J.out);have C:=D_ (C.out.below D);have T:=D_ (T.out.trans (RGo.of_below (r:=r) (v:=vk) D (N_ N.out.lt)));have N:=D_ (N.out.below D);obtain⟨u0,u1,u2,u3,_⟩:=A0 C.out.cells;obtain⟨o0,o1,_⟩:=E0 I.out;obtain⟨d0,d1,d2,d3,e0,e1,e2,e3⟩:=A0 J.out;clear D;go_wp2_with fail;refine B_ (v:=tmv t ad cap) (by simp [results,Tryz.results92,go_sem,d0,d1,d2,d3,tmv]) rfl ?_;rw [<-U.out];exact⟨vk,ad,cap,rfl,ROk.fin (B:=w.heap.size+1) N.out T.out (TmP.kept C.out.tm (fun _ _ _=>rfl) (fun b z _=>⟨z.1,z.2.1⟩)) i_ (R_ _) (Nat.lt_succ_self _) f_ _ _ _ _⟩
    · rw [I_ (fun c=>by rcases c with c|c<;>contradiction)]at hk;obtain⟨hft,htl⟩:=HN9.out o hi;have hft1:=hft.pos;have HPS:=D_ (fun W' hm'=>R5 W' r vk tk nk hm' (by omega));have r_:=D_ (fun W' hm'=>HCC.out (X1 o.k o.p) tk.tail nk W' r vk (by omega) hft hnk hm');have HRT:=D_ (fun W'=>pX o.k o.p W');have HGW:=D_ (HWW.out (X1 o.k o.p) tk.tail nk);have HFT:=D_ hft;have HCB:Hid (∀(w:World) (P:Nat->Prop) (u:Tm) (ad':Option Addr),M0 w P ad' [t,u]->TmP w P (X0 (j0 tk).text [t,u]) ad' 2):=D_ (fun w P u ad' h=>bJ (by omega) (R_ _) (by show 2<=maxLen;unfold maxLen;decide) h);have HTV:Hid (∀u:Tm,(X0 (j0 tk).text [t,u]).name=⟨(j0 tk).text.toArray⟩):=D_ (fun u=>rfl);obtain⟨E2,hE2⟩: ∃E2,W (X1 o.k o.p) tk.tail nk=E2:=⟨_,rfl⟩;rw [hE2]at r_ hk;have HE2:=D_ hE2;have U:=D_ hk;have hX2:=fun b (hb:wr.heap.size<=b)=>HMk.out.new_ne (b:=b) hb;have HXN:=D_ hX2;clear hk hi k_ HN9 hfs hft hE2 hX2 HCC HWW;unfold Y1 at HF HI;generalize j0 tk=t0 at*;obtain⟨xk,xl,xn,xp⟩:=t0;dsimp only at*;generalize (⟨xl.toArray⟩:ByteArray)=xt at*;go_wp2_with fail;refine HF.out.mono ?_;rintro e w3 ⟨rfl,s⟩;go_upto_region 3 with fail;generalize A:w3.alloc (.cells #[.int .i64 xk,.string xt,.int .i64 xn,.int .i64 (xp:Nat)] 96)=w4;have O:Hid (Below wr.heap.size wr w4):=D_ (by rw [<-A];exact s.alloc s.size _);have M:Hid (w4.heap[w3.heap.size]?=some (.cells #[.int .i64 xk,.string xt,.int .i64 xn,.int .i64 (xp:Nat)] 96 (0,0))):=D_ (by rw [<-A];exact U0 w3 _);have hs3:=s.size;have hs4:w4.heap.size=w3.heap.size+1:=by rw [<-A];simp
      obtain⟨a0,a1,a2,a3,_⟩:=A0 M.out;clear A s;go_wp2_with fail;refine(HI.out _).mono ?_;rintro e w5 ⟨rfl,y⟩;go_upto_region 4 with fail;generalize j:w5.alloc (.cells #[.int .i64 o.p,.string o.k] 126)=w6;have hs5:=y.size;have hs6:w6.heap.size=w5.heap.size+1:=by rw [<-j];simp
      have R:=D_ (O.out.trans (y.mono O.out.size));have l:Hid (Below wr.heap.size wr w6):=D_ (by rw [<-j];exact R.out.alloc R.out.size _);have I:Hid (w6.heap[w5.heap.size]?=some (.cells #[.int .i64 o.p,.string o.k] 126 (0,0))):=D_ (by rw [<-j];exact U0 w5 _);have h_:Hid (w6.heap[w3.heap.size]?=some (.cells #[.int .i64 xk,.string xt,.int .i64 xn,.int .i64 (xp:Nat)] 96 (0,0))):=D_ (by rw [<-j];exact N0 (B0 y M.out) _);have C:=D_ (HWk.out.below l.out);have J:=D_ (B0 l.out HQk.out);have N:=D_ (HMk.out.below l.out);have T:=D_ (HGk.out.trans (RGo.of_below (r:=r) (v:=vk) l.out (by omega)));obtain⟨u0,u1,u2,u3,_⟩:=A0 C.out.cells;obtain⟨o0,o1,_⟩:=E0 I.out;obtain⟨d0,d1,d2,d3,e0,e1,e2,e3⟩:=A0 J.out;clear j y a0 a1 a2 a3 M;go_wp2_with fail;refine(HL.out _).mono ?_;rintro e w7 ⟨rfl,D⟩;have hs7:=D.size;have h_:=D_ (B0 D h_.out);have I:=D_ (B0 D I.out);have J:=D_ (B0 D J.out);have C:=D_ (C.out.below D);have T:=D_ (T.out.trans (RGo.of_below (r:=r) (v:=vk) D (N_ N.out.lt)));have N:=D_ (N.out.below D);obtain⟨u0,u1,u2,u3,_⟩:=A0 C.out.cells;obtain⟨o0,o1,_⟩:=E0 I.out;obtain⟨d0,d1,d2,d3,e0,e1,e2,e3⟩:=A0 J.out;clear D;go_wp2_with fail;refine(HPS.out _ N.out).mono ?_;rintro e w8 ⟨rfl,hm8,hg8⟩;have hX:=HXN.out w3.heap.size hs3;have hO:=HXN.out w5.heap.size (by omega);have HX8:=D_ (hg8.at h_.out hX.1 hX.2);have HO8:=D_ (hg8.at I.out hO.1 hO.2);have HQ8:=D_ (hg8.at J.out g_.1 f_);have HW8:=D_ (C.out.go (r:=r) (by omega) hTr hg8);have HW8d:=D_ (HW8.out.below (F_ w8.heap.size w8).drew);have HG8:=D_ (T.out.trans hg8);have HM8:=D_ hm8;have hs8:=hg8.below.size;have hTs:w1.heap.size<w8.heap.size:=(Array.getElem?_eq_some_iff.1 HW8.out.cells).1;clear hm8 hg8 u0 u1 u2 u3 o0 o1 d0 d1 d2 d3 e0 e1 e2 e3 HL h_ I J C T N O R l HPS HXN HMk HGk HWk HQk;go_wp2_with fail;refine wp_region_held_drew (S:=(fun W=>W.cell? ⟨w3.heap.size,1,none⟩=some (.string xt)/\W.cell? ⟨w5.heap.size,0,none⟩=some (.int .i64 o.p)/\W.cell? ⟨w5.heap.size,1,none⟩=some (.string o.k))) (by kernel_rfl) ⟨(A0 HX8.out).2.1,(E0 HO8.out).1,(E0 HO8.out).2.1⟩ (fun hHeld1=>?_);refine tK 0 (v:=?v2) rfl (.inl ⟨by rfl,?y2⟩) ?r2
      case y2=>(intro w a_;(try dsimp only at a_);go_simp;try with_reducible rfl)
      (try simp only [Act.put,T_,C_,E_])
      refine tK 1 (v:=?v3) rfl (.inl ⟨by rfl,?y3⟩) ?r3
      case y3=>(intro w a_;(try dsimp only at a_);go_simp;try with_reducible rfl)
      (try simp only [Act.put,T_,C_,E_])
      refine tK 3 (v:=?v4) rfl (.inl ⟨by rfl,?y4⟩) ?r4
      case y4=>(intro w a_;(try dsimp only at a_);go_simp;try with_reducible rfl)
      (try simp only [Act.put,T_,C_,E_])
      refine tK 4 (v:=?v5) rfl (.inl ⟨by rfl,?y5⟩) ?r5
      case y5=>(intro w a_;(try dsimp only at a_);go_simp;try with_reducible rfl)
      (try simp only [Act.put,T_,C_,E_])
      refine tK 9 (v:=?v6) rfl (.inl ⟨by rfl,?y6⟩) ?r6
      case y6=>(intro w a_;(try dsimp only at a_);go_simp;try with_reducible rfl)
      (try simp only [Act.put,T_,C_,E_])
      refine tK 10 (v:=?v7) rfl (.inl ⟨by rfl,?y7⟩) ?r7
      case y7=>(intro w a_;(try dsimp only at a_);go_simp;try with_reducible rfl)
      (try simp only [Act.put,T_,C_,E_])
      refine wpAnyH_ready (rs:= [2,5]) (by kernel_rfl) (by simp) ?_;refine AllReadyH.cons (o:=_) rfl (fun K a=>?_) (AllReadyH.cons (o:=_) rfl (fun K a=>?_) (AllReadyH.nil))
      · obtain⟨u0,u1,u2,u3,_⟩:=A0 HW8d.out.cells;go_simp
        try go_wp2_with fail
        refine a.out _ _ ⟨(A0 HX8.out).2.1,(E0 HO8.out).1,(E0 HO8.out).2.1⟩ (fun hHeld8=>?_);clear a K hHeld1;(try simp only [Act.put,T_,C_,E_])
        refine rY 5 rfl fun K a=>?_;go_simp
        (with_reducible refine(HRT.out _).mono ?_);rintro e w9 ⟨rfl,hb9⟩
        have H:=D_ ((F_ w8.heap.size w8).drew.trans hb9);have hs9:=H.out.size;have HX9:=D_ (B0 H.out HX8.out);have e_:=D_ (B0 H.out HO8.out);have HQ9:=D_ (B0 H.out HQ8.out);have HW9:=D_ (HW8.out.below H.out);have x_:=D_ (HM8.out.below H.out);have v_:=D_ (HG8.out.trans (RGo.of_below (r:=r) (v:=vk) H.out (N_ HM8.out.lt)));clear hb9;try go_wp2_with fail
        refine a.out _ _ ⟨(A0 HX9.out).2.1,(E0 e_.out).1,(E0 e_.out).2.1⟩ (fun hHeld9=>?_);clear a K hHeld8;(try simp only [Act.put,T_,C_,E_])
        refine rY 6 rfl fun K a=>?_;go_simp
        cases E2 with
        |bad o1=>
         (with_reducible refine(r_.out _ x_.out).mono ?_);rintro e w10 ⟨rfl,hc10⟩
         refine⟨rfl,?_⟩;have m_:=U.out;rw [Rd.bind_bad]at m_;rw [<-m_];exact⟨rfl,v_.out.below.trans hc10⟩
        |ok u tk2 nk2=>
         (with_reducible refine(r_.out _ x_.out).mono ?_);rintro e w10 ⟨v10,ad2,cap2,rfl,c_,g,d_⟩
         have hs10:=g.below.size;have G:=D_ (g.at HX9.out hX.1 hX.2);have i:=D_ (g.at e_.out hO.1 hO.2);have y_:=D_ (g.at HQ9.out g_.1 f_);have F:=D_ (HW9.out.go (r:=r) (by omega) hTr g);have j_:=g.ne (b:=w.heap.size) (Array.getElem?_eq_some_iff.1 HQ9.out).1 f_;have V:=D_ c_;have s_:=D_ (v_.out.trans g);have HU10:Hid (TmP w10 (fun b=>w.heap.size+1<=b/\some b≠v10.ownBlock/\b≠w1.heap.size) u ad2 cap2):=D_ (TmP.kept d_ (fun _ _ _=>rfl) (fun b z _=>⟨by have:=z.1;omega,z.2,by have:=z.1;omega⟩));clear c_ g d_;unfold tmv;try go_wp2_with fail
         refine a.out _ _ ⟨(A0 G.out).2.1,(E0 i.out).1,(E0 i.out).2.1⟩ (fun hHeld10=>?_);clear a K hHeld9;(try simp only [Act.put,T_,C_,E_])
         refine rY 7 rfl fun K a=>?_;go_simp
         try go_wp2_with fail
         refine a.out _ _ ⟨(A0 (N0 G.out _)).2.1,(E0 (N0 i.out _)).1,(E0 (N0 i.out _)).2.1⟩ (fun hHeld11=>?_);clear a K hHeld10;(try simp only [Act.put,T_,C_,E_])
         have b_:=V.out.ltv;have p_:Hid (M0 (w10.alloc (.cells #[.int .i64 t.kind,.string t.name,.int .i64 t.n,.slice ad t.args.length cap,.int .i64 u.kind,.string u.name,.int .i64 u.n,.slice ad2 u.args.length cap2] 26)) (fun b=>w.heap.size+1<=b/\some b≠v10.ownBlock/\b≠w1.heap.size) (some ⟨w10.heap.size,0,none⟩) [t,u]):=D_ (Yq ⟨by omega,fun e=>by have:=b_ _ e.symm;omega,by omega⟩ F.out.tm HU10.out);have X:=D_ (V.out.below ((F_ _ w10).alloc (R_ _) (.cells #[.int .i64 t.kind,.string t.name,.int .i64 t.n,.slice ad t.args.length cap,.int .i64 u.kind,.string u.name,.int .i64 u.n,.slice ad2 u.args.length cap2] 26)));have t_:=D_ (s_.out.alloc i_ (.cells #[.int .i64 t.kind,.string t.name,.int .i64 t.n,.slice ad t.args.length cap,.int .i64 u.kind,.string u.name,.int .i64 u.n,.slice ad2 u.args.length cap2] 26));have z_:=D_ (N0 y_.out (.cells #[.int .i64 t.kind,.string t.name,.int .i64 t.n,.slice ad t.args.length cap,.int .i64 u.kind,.string u.name,.int .i64 u.n,.slice ad2 u.args.length cap2] 26));have HT11:=D_ (N0 F.out.cells (.cells #[.int .i64 t.kind,.string t.name,.int .i64 t.n,.slice ad t.args.length cap,.int .i64 u.kind,.string u.name,.int .i64 u.n,.slice ad2 u.args.length cap2] 26));refine rY 8 rfl fun K a=>?_;go_simp
         (with_reducible refine(J8 _ _ _ _ _).mono ?_);rintro e w12 ⟨rfl,d⟩
         have Z:=D_ (B0 d (N0 G.out _));have q:=D_ (B0 d (N0 i.out _));have HQ12:=D_ (B0 d z_.out);have Y:=D_ (B0 d HT11.out);have w_:=D_ (X.out.below d);have u_:=D_ (t_.out.trans (RGo.of_below d (by have:=X.out.lt;omega)));have q_:=D_ (M0.kept p_.out (fun b _ hb=>d.block b hb) (fun _ z _=>z));obtain⟨d0,d1,d2,d3,e0,e1,e2,e3⟩:=A0 Y.out;clear d;have n_:w3.heap.size≠w1.heap.size:=by omega
         have o_:w5.heap.size≠w1.heap.size:=by omega
         have hq3:w.heap.size≠w1.heap.size:=by omega
         try go_wp2_with fail
         refine a.out _ _ ⟨(A0 Z.out).2.1,(E0 q.out).1,(E0 q.out).2.1⟩ (fun hHeld12=>?_);clear a K hHeld11;(try simp only [Act.put,T_,C_,E_])
         refine rY 11 rfl fun K a=>?_;go_simp
         try go_wp2_with fail
         refine a.out _ _ ⟨(D3 n_ _ _ _ _).trans (A0 Z.out).2.1,(D3 o_ _ _ _ _).trans (E0 q.out).1,(D3 o_ _ _ _ _).trans (E0 q.out).2.1⟩ (fun hHeld13=>?_);clear a K hHeld12;(try simp only [Act.put,T_,C_,E_])
         refine rY 12 rfl fun K a=>?_;go_simp
         try go_wp2_with fail
         refine a.out _ _ (by assumption) (fun hHeld14=>?_);clear a K hHeld13;(try simp only [Act.put,T_,C_,E_])
         refine wpAnyH_done (by kernel_rfl) ?_ _;go_wp2_with fail;have hn12:=T7.next w_.out u_.out (by omega) (by omega) F.out.own Y.out (HCB.out _ _ _ _ q_.out) (HTV.out u);obtain⟨n1,n2,n3,n4⟩:=hn12;obtain⟨l1,l2,l3⟩:=HGW.out u tk2 nk2 (by omega) HFT.out hnk HE2.out;have l_:=U.out;rw [Rd.bind_ok]at l_;have hup:=u.size_pos;go_roundw
         case rel=>exact⟨f',o.p,_,some ⟨w10.heap.size,0,none⟩,2,tk2,nk2,v10,rfl,by omega,by omega,l1,l3,D_ l_,n1,n2,n3,(n4 _ hq3).trans HQ12.out,j_⟩
         case measure=>rw [n1.tokLen,HTL.out];omega
      · go_simp
        (with_reducible refine(HRT.out _).mono ?_);rintro e w9 ⟨rfl,hb9⟩
        have H:=D_ ((F_ w8.heap.size w8).drew.trans hb9);have hs9:=H.out.size;have HX9:=D_ (B0 H.out HX8.out);have e_:=D_ (B0 H.out HO8.out);have HQ9:=D_ (B0 H.out HQ8.out);have HW9:=D_ (HW8.out.below H.out);have x_:=D_ (HM8.out.below H.out);have v_:=D_ (HG8.out.trans (RGo.of_below (r:=r) (v:=vk) H.out (N_ HM8.out.lt)));clear hb9;try go_wp2_with fail
        refine a.out _ _ ⟨(A0 HX9.out).2.1,(E0 e_.out).1,(E0 e_.out).2.1⟩ (fun hHeld15=>?_);clear a K hHeld1;(try simp only [Act.put,T_,C_,E_])
        refine wpAnyH_ready (rs:= [2,6]) (by kernel_rfl) (by simp) ?_;refine AllReadyH.cons (o:=_) rfl (fun K a=>?_) (AllReadyH.cons (o:=_) rfl (fun K a=>?_) (AllReadyH.nil))
        · obtain⟨u0,u1,u2,u3,_⟩:=A0 HW9.out.cells;go_simp
          try go_wp2_with fail
          refine a.out _ _ ⟨(A0 HX9.out).2.1,(E0 e_.out).1,(E0 e_.out).2.1⟩ (fun hHeld16=>?_);clear a K hHeld15;(try simp only [Act.put,T_,C_,E_])
          refine rY 6 rfl fun K a=>?_;go_simp
          cases E2 with
          |bad o1=>
           (with_reducible refine(r_.out _ x_.out).mono ?_);rintro e w10 ⟨rfl,hc10⟩
           refine⟨rfl,?_⟩;have m_:=U.out;rw [Rd.bind_bad]at m_;rw [<-m_];exact⟨rfl,v_.out.below.trans hc10⟩
          |ok u tk2 nk2=>
           (with_reducible refine(r_.out _ x_.out).mono ?_);rintro e w10 ⟨v10,ad2,cap2,rfl,c_,g,d_⟩
           have hs10:=g.below.size;have G:=D_ (g.at HX9.out hX.1 hX.2);have i:=D_ (g.at e_.out hO.1 hO.2);have y_:=D_ (g.at HQ9.out g_.1 f_);have F:=D_ (HW9.out.go (r:=r) (by omega) hTr g);have j_:=g.ne (b:=w.heap.size) (Array.getElem?_eq_some_iff.1 HQ9.out).1 f_;have V:=D_ c_;have s_:=D_ (v_.out.trans g);have HU10:Hid (TmP w10 (fun b=>w.heap.size+1<=b/\some b≠v10.ownBlock/\b≠w1.heap.size) u ad2 cap2):=D_ (TmP.kept d_ (fun _ _ _=>rfl) (fun b z _=>⟨by have:=z.1;omega,z.2,by have:=z.1;omega⟩));clear c_ g d_;unfold tmv;try go_wp2_with fail
           refine a.out _ _ ⟨(A0 G.out).2.1,(E0 i.out).1,(E0 i.out).2.1⟩ (fun hHeld17=>?_);clear a K hHeld16;(try simp only [Act.put,T_,C_,E_])
           refine rY 7 rfl fun K a=>?_;go_simp
           try go_wp2_with fail
           refine a.out _ _ ⟨(A0 (N0 G.out _)).2.1,(E0 (N0 i.out _)).1,(E0 (N0 i.out _)).2.1⟩ (fun hHeld18=>?_);clear a K hHeld17;(try simp only [Act.put,T_,C_,E_])
           have b_:=V.out.ltv;have p_:Hid (M0 (w10.alloc (.cells #[.int .i64 t.kind,.string t.name,.int .i64 t.n,.slice ad t.args.length cap,.int .i64 u.kind,.string u.name,.int .i64 u.n,.slice ad2 u.args.length cap2] 26)) (fun b=>w.heap.size+1<=b/\some b≠v10.ownBlock/\b≠w1.heap.size) (some ⟨w10.heap.size,0,none⟩) [t,u]):=D_ (Yq ⟨by omega,fun e=>by have:=b_ _ e.symm;omega,by omega⟩ F.out.tm HU10.out);have X:=D_ (V.out.below ((F_ _ w10).alloc (R_ _) (.cells #[.int .i64 t.kind,.string t.name,.int .i64 t.n,.slice ad t.args.length cap,.int .i64 u.kind,.string u.name,.int .i64 u.n,.slice ad2 u.args.length cap2] 26)));have t_:=D_ (s_.out.alloc i_ (.cells #[.int .i64 t.kind,.string t.name,.int .i64 t.n,.slice ad t.args.length cap,.int .i64 u.kind,.string u.name,.int .i64 u.n,.slice ad2 u.args.length cap2] 26));have z_:=D_ (N0 y_.out (.cells #[.int .i64 t.kind,.string t.name,.int .i64 t.n,.slice ad t.args.length cap,.int .i64 u.kind,.string u.name,.int .i64 u.n,.slice ad2 u.args.length cap2] 26));have HT11:=D_ (N0 F.out.cells (.cells #[.int .i64 t.kind,.string t.name,.int .i64 t.n,.slice ad t.args.length cap,.int .i64 u.kind,.string u.name,.int .i64 u.n,.slice ad2 u.args.length cap2] 26));refine rY 8 rfl fun K a=>?_;go_simp
           (with_reducible refine(J8 _ _ _ _ _).mono ?_);rintro e w12 ⟨rfl,d⟩
           have Z:=D_ (B0 d (N0 G.out _));have q:=D_ (B0 d (N0 i.out _));have HQ12:=D_ (B0 d z_.out);have Y:=D_ (B0 d HT11.out);have w_:=D_ (X.out.below d);have u_:=D_ (t_.out.trans (RGo.of_below d (by have:=X.out.lt;omega)));have q_:=D_ (M0.kept p_.out (fun b _ hb=>d.block b hb) (fun _ z _=>z));obtain⟨d0,d1,d2,d3,e0,e1,e2,e3⟩:=A0 Y.out;clear d;have n_:w3.heap.size≠w1.heap.size:=by omega
           have o_:w5.heap.size≠w1.heap.size:=by omega
           have hq3:w.heap.size≠w1.heap.size:=by omega
           try go_wp2_with fail
           refine a.out _ _ ⟨(A0 Z.out).2.1,(E0 q.out).1,(E0 q.out).2.1⟩ (fun hHeld19=>?_);clear a K hHeld18;(try simp only [Act.put,T_,C_,E_])
           refine rY 11 rfl fun K a=>?_;go_simp
           try go_wp2_with fail
           refine a.out _ _ ⟨(D3 n_ _ _ _ _).trans (A0 Z.out).2.1,(D3 o_ _ _ _ _).trans (E0 q.out).1,(D3 o_ _ _ _ _).trans (E0 q.out).2.1⟩ (fun hHeld20=>?_);clear a K hHeld19;(try simp only [Act.put,T_,C_,E_])
           refine rY 12 rfl fun K a=>?_;go_simp
           try go_wp2_with fail
           refine a.out _ _ (by assumption) (fun hHeld21=>?_);clear a K hHeld20;(try simp only [Act.put,T_,C_,E_])
           refine wpAnyH_done (by kernel_rfl) ?_ _;go_wp2_with fail;have hn12:=T7.next w_.out u_.out (by omega) (by omega) F.out.own Y.out (HCB.out _ _ _ _ q_.out) (HTV.out u);obtain⟨n1,n2,n3,n4⟩:=hn12;obtain⟨l1,l2,l3⟩:=HGW.out u tk2 nk2 (by omega) HFT.out hnk HE2.out;have l_:=U.out;rw [Rd.bind_ok]at l_;have hup:=u.size_pos;go_roundw
           case rel=>exact⟨f',o.p,_,some ⟨w10.heap.size,0,none⟩,2,tk2,nk2,v10,rfl,by omega,by omega,l1,l3,D_ l_,n1,n2,n3,(n4 _ hq3).trans HQ12.out,j_⟩
           case measure=>rw [n1.tokLen,HTL.out];omega
        · go_simp
          cases E2 with
          |bad o1=>
           (with_reducible refine(r_.out _ x_.out).mono ?_);rintro e w10 ⟨rfl,hc10⟩
           refine⟨rfl,?_⟩;have m_:=U.out;rw [Rd.bind_bad]at m_;rw [<-m_];exact⟨rfl,v_.out.below.trans hc10⟩
          |ok u tk2 nk2=>
           (with_reducible refine(r_.out _ x_.out).mono ?_);rintro e w10 ⟨v10,ad2,cap2,rfl,c_,g,d_⟩
           have hs10:=g.below.size;have G:=D_ (g.at HX9.out hX.1 hX.2);have i:=D_ (g.at e_.out hO.1 hO.2);have y_:=D_ (g.at HQ9.out g_.1 f_);have F:=D_ (HW9.out.go (r:=r) (by omega) hTr g);have j_:=g.ne (b:=w.heap.size) (Array.getElem?_eq_some_iff.1 HQ9.out).1 f_;have V:=D_ c_;have s_:=D_ (v_.out.trans g);have HU10:Hid (TmP w10 (fun b=>w.heap.size+1<=b/\some b≠v10.ownBlock/\b≠w1.heap.size) u ad2 cap2):=D_ (TmP.kept d_ (fun _ _ _=>rfl) (fun b z _=>⟨by have:=z.1;omega,z.2,by have:=z.1;omega⟩));clear c_ g d_;unfold tmv;try go_wp2_with fail
           refine a.out _ _ ⟨(A0 G.out).2.1,(E0 i.out).1,(E0 i.out).2.1⟩ (fun hHeld22=>?_);clear a K hHeld15;(try simp only [Act.put,T_,C_,E_])
           refine rY 2 rfl fun K a=>?_;obtain⟨u0,u1,u2,u3,_⟩:=A0 F.out.cells;go_simp
           try go_wp2_with fail
           refine a.out _ _ ⟨(A0 G.out).2.1,(E0 i.out).1,(E0 i.out).2.1⟩ (fun hHeld23=>?_);clear a K hHeld22;(try simp only [Act.put,T_,C_,E_])
           refine rY 7 rfl fun K a=>?_;go_simp
           try go_wp2_with fail
           refine a.out _ _ ⟨(A0 (N0 G.out _)).2.1,(E0 (N0 i.out _)).1,(E0 (N0 i.out _)).2.1⟩ (fun hHeld24=>?_);clear a K hHeld23;(try simp only [Act.put,T_,C_,E_])
           have b_:=V.out.ltv;have p_:Hid (M0 (w10.alloc (.cells #[.int .i64 t.kind,.string t.name,.int .i64 t.n,.slice ad t.args.length cap,.int .i64 u.kind,.string u.name,.int .i64 u.n,.slice ad2 u.args.length cap2] 26)) (fun b=>w.heap.size+1<=b/\some b≠v10.ownBlock/\b≠w1.heap.size) (some ⟨w10.heap.size,0,none⟩) [t,u]):=D_ (Yq ⟨by omega,fun e=>by have:=b_ _ e.symm;omega,by omega⟩ F.out.tm HU10.out);have X:=D_ (V.out.below ((F_ _ w10).alloc (R_ _) (.cells #[.int .i64 t.kind,.string t.name,.int .i64 t.n,.slice ad t.args.length cap,.int .i64 u.kind,.string u.name,.int .i64 u.n,.slice ad2 u.args.length cap2] 26)));have t_:=D_ (s_.out.alloc i_ (.cells #[.int .i64 t.kind,.string t.name,.int .i64 t.n,.slice ad t.args.length cap,.int .i64 u.kind,.string u.name,.int .i64 u.n,.slice ad2 u.args.length cap2] 26));have z_:=D_ (N0 y_.out (.cells #[.int .i64 t.kind,.string t.name,.int .i64 t.n,.slice ad t.args.length cap,.int .i64 u.kind,.string u.name,.int .i64 u.n,.slice ad2 u.args.length cap2] 26));have HT11:=D_ (N0 F.out.cells (.cells #[.int .i64 t.kind,.string t.name,.int .i64 t.n,.slice ad t.args.length cap,.int .i64 u.kind,.string u.name,.int .i64 u.n,.slice ad2 u.args.length cap2] 26));refine rY 8 rfl fun K a=>?_;go_simp
           (with_reducible refine(J8 _ _ _ _ _).mono ?_);rintro e w12 ⟨rfl,d⟩
           have Z:=D_ (B0 d (N0 G.out _));have q:=D_ (B0 d (N0 i.out _));have HQ12:=D_ (B0 d z_.out);have Y:=D_ (B0 d HT11.out);have w_:=D_ (X.out.below d);have u_:=D_ (t_.out.trans (RGo.of_below d (by have:=X.out.lt;omega)));have q_:=D_ (M0.kept p_.out (fun b _ hb=>d.block b hb) (fun _ z _=>z));obtain⟨d0,d1,d2,d3,e0,e1,e2,e3⟩:=A0 Y.out;clear d;have n_:w3.heap.size≠w1.heap.size:=by omega
           have o_:w5.heap.size≠w1.heap.size:=by omega
           have hq3:w.heap.size≠w1.heap.size:=by omega
           try go_wp2_with fail
           refine a.out _ _ ⟨(A0 Z.out).2.1,(E0 q.out).1,(E0 q.out).2.1⟩ (fun hHeld25=>?_);clear a K hHeld24;(try simp only [Act.put,T_,C_,E_])
           refine rY 11 rfl fun K a=>?_;go_simp
           try go_wp2_with fail
           refine a.out _ _ ⟨(D3 n_ _ _ _ _).trans (A0 Z.out).2.1,(D3 o_ _ _ _ _).trans (E0 q.out).1,(D3 o_ _ _ _ _).trans (E0 q.out).2.1⟩ (fun hHeld26=>?_);clear a K hHeld25;(try simp only [Act.put,T_,C_,E_])
           refine rY 12 rfl fun K a=>?_;go_simp
           try go_wp2_with fail
           refine a.out _ _ (by assumption) (fun hHeld27=>?_);clear a K hHeld26;(try simp only [Act.put,T_,C_,E_])
           refine wpAnyH_done (by kernel_rfl) ?_ _;go_wp2_with fail;have hn12:=T7.next w_.out u_.out (by omega) (by omega) F.out.own Y.out (HCB.out _ _ _ _ q_.out) (HTV.out u);obtain⟨n1,n2,n3,n4⟩:=hn12;obtain⟨l1,l2,l3⟩:=HGW.out u tk2 nk2 (by omega) HFT.out hnk HE2.out;have l_:=U.out;rw [Rd.bind_ok]at l_;have hup:=u.size_pos;go_roundw
           case rel=>exact⟨f',o.p,_,some ⟨w10.heap.size,0,none⟩,2,tk2,nk2,v10,rfl,by omega,by omega,l1,l3,D_ l_,n1,n2,n3,(n4 _ hq3).trans HQ12.out,j_⟩
           case measure=>rw [n1.tokLen,HTL.out];omega
theorem FQ: ∀(m:Nat),m<=10001->I5 m (O7 m)
 |0,_=>fun p ts ns w r v b a c h=>absurd a.pos (by omega)
 |m+1,hM=>fun p ts ns w r v b a c h=>rd_within (j5 m) (FQ m (by omega)) (by omega) p ts ns w r v b a c h
theorem A1.nil {w:World} {r:Nat} {v:Value} {ts:List Tok} {ns:Nms} (h:A1 w r v ts ns):A1 (w.setCell ⟨r,1,none⟩ (.slice none 0 0)) r (.slice none 0 0) ts []:=by
 obtain⟨g,k,cap,b,d,c,hc,j⟩:=h.ex;have a:=H_ (i:=1) d (.slice none 0 0);refine⟨⟨g,k,cap,b,?_,c,hc,j.kept (fun _=>S_ _ _ _ _ (show g≠r by omega))⟩,O_ _ _ _ _⟩;rw [a];rfl
theorem whole_good {ts:List Tok} {ns:Nms} {t:Tm} {ts':List Tok} {ns':Nms} (a:T0 ts) (b:ns.length<=200) (h:O7 ts.length 1200 ts ns=.ok t ts' ns'):T0 ts'/\ts'.length+t.size<=ts.length/\ns'.length<=200:=by
 obtain⟨a1,a2,a3⟩:=j5 ts.length _ _ _ _ _ _ (R_ _) a b h;exact⟨a1,a2,a3⟩
theorem Xz (ts:List Tok) (ns:Nms) (w:World) (r:Nat) (v:Value) (c:ts.length<=10000) (a:T0 ts) (b:ns.length<=200) (h:A1 w r v ts ns):
 Calls Tryz.prog 92 #[.pointer (some ⟨r,0,none⟩),.int .i64 1200] w fun e w'=>Rq r v w (O7 ts.length 1200 ts ns) e w':=
 FQ ts.length (by omega) 1200 ts ns w r v (R_ _) a b h
structure WGo (r:Nat) (w:World) (v':Value) (w':World):Prop where
 below:Below r w w'
 keep: ∀b,b<w.heap.size->b≠r->w'.heap[b]?=w.heap[b]?
 own: ∀g,v'.ownBlock=some g->w.heap.size<=g
def deepP (o:Nat):Ending:=.panicked [{v:=.iface 104 (.int .i64 (o:Nat)),recovered:=false}]
def WOut (r:Nat) (w:World) (x:Wh) (e:Ending) (w':World):Prop:=
 match x with
 | .syn o=>e=eZ o/\Below r w w'
 | .deep o=>e=deepP o/\Below r w w'
 | .ok t ts ns=> ∃v' ad cap,e=.returned (tmv t ad cap)/\A1 w' r v' ts ns/\WGo r w v' w'/\TmB w.heap.size w' v' t ad cap
theorem EQ {r:Nat} {w wb w':World} {v':Value} (c:Below r w wb) (i: ∀b,b<w.heap.size->b≠r->wb.heap[b]?=w.heap[b]?) (h:RGo r (.slice none 0 0) wb v' w'):WGo r w v' w':=by
 have l:=c.size;refine⟨c.trans h.below,fun b j d=>(h.keep b (by omega) d (by intro e;cases e)).trans (i b j d),fun g a=>?_⟩;rcases h.own with e|⟨g2,e,k⟩
 · rw [e]at a;cases a
 · rw [e]at a;have:=Option.some.inj a;omega
theorem WGo.set {r:Nat} {w w':World} {v':Value} (h:WGo r w v' w') {q i:Nat} (g:w.heap.size<=q) (d:r<=q) (u:Value):WGo r w v' (w'.setCell ⟨q,i,none⟩ u):=
 ⟨h.below.setCell (p:=⟨q,i,none⟩) d u,fun b c a=>(S_ _ _ _ _ (show b≠q by omega)).trans (h.keep b c a),h.own⟩
theorem wgo_fin {r q B:Nat} {v':Value} {w w3:World} {t:Tm} {ts:List Tok} {ns:Nms} {ad:Option Addr} {cap:Nat} (g:A1 w3 r v' ts ns) (d:WGo r w v' w3) (h:TmB B w3 v' t ad cap) (i:r<w.heap.size) (b:w.heap.size<=q) (a:q<B) (c:some q≠v'.ownBlock) (u0 u1 u2 u3:Value):
 A1 ((((w3.setCell ⟨q,0,none⟩ u0).setCell ⟨q,1,none⟩ u1).setCell ⟨q,2,none⟩ u2).setCell ⟨q,3,none⟩ u3) r v' ts ns/\WGo r w v' ((((w3.setCell ⟨q,0,none⟩ u0).setCell ⟨q,1,none⟩ u1).setCell ⟨q,2,none⟩ u2).setCell ⟨q,3,none⟩ u3)/\TmB w.heap.size ((((w3.setCell ⟨q,0,none⟩ u0).setCell ⟨q,1,none⟩ u1).setCell ⟨q,2,none⟩ u2).setCell ⟨q,3,none⟩ u3) v' t ad cap:=
 ⟨(((g.setOther (by omega) c u0).setOther (by omega) c u1).setOther (by omega) c u2).setOther (by omega) c u3,(((d.set b (by omega) u0).set b (by omega) u1).set b (by omega) u2).set b (by omega) u3,((((h.set a u0).set a u1).set a u2).set a u3).mono (by omega)⟩
set_option maxRecDepth 100000 in
theorem rd_whole (must:Bool) (ts:List Tok) (ns:Nms) (w:World) (r:Nat) (v:Value) (hm:ts.length<=10000) (hf:T0 ts) (h:A1 w r v ts ns) (hT: ∀W',Below r w W'->Tabs W'):
 Calls Tryz.prog 81 #[.pointer (some ⟨r,0,none⟩),.bool must] w fun e w'=>WOut r w (g6 must ts) e w':=by
 have l_:=h.lt;have HNEW:=D_ (fun b (hb:w.heap.size<=b)=>h.new_ne hb);have A:=h.new_ne (b:=w.heap.size) (R_ _);have HB:=D_ (fun o:Obj=>(F_ w.heap.size w).alloc (R_ _) o);have f3:=ox;have f0:=X9;have r_:(w.setCell ⟨r,1,none⟩ (.slice none 0 0)).heap.size=w.heap.size:=by simp
 have H:=D_ (h.nil.below ((F_ _ _).alloc (R_ _) (.cells #[.int .i64 0,.string ⟨#[]⟩,.int .i64 0,.slice none 0 0] 26)));have HR1:Hid (w.cell? ⟨r,1,none⟩=some v/\w.frozen? ⟨r,1,none⟩=false):=D_ (by
  obtain⟨g,k,cap,hg,hr,hl,hc,ht⟩:=h.ex;exact⟨(E0 hr).2.1,(E0 hr).2.2.2⟩)
 have l:Hid (Below r w ((w.setCell ⟨r,1,none⟩ (.slice none 0 0)).alloc (.cells #[.int .i64 0,.string ⟨#[]⟩,.int .i64 0,.slice none 0 0] 26))):=D_ ((((F_ w.heap.size w).mono (N_ l_)).setCell (p:=⟨r,1,none⟩) (R_ _) _).alloc (by omega) _);have n_:Hid (∀b,b<w.heap.size->b≠r->((w.setCell ⟨r,1,none⟩ (.slice none 0 0)).alloc (.cells #[.int .i64 0,.string ⟨#[]⟩,.int .i64 0,.slice none 0 0] 26)).heap[b]?=w.heap[b]?):=D_ (fun b hb hr=>(A_ _ _ _ (by omega)).trans (S_ _ _ _ _ (show b≠r from hr)));have w_:Hid (((w.setCell ⟨r,1,none⟩ (.slice none 0 0)).alloc (.cells #[.int .i64 0,.string ⟨#[]⟩,.int .i64 0,.slice none 0 0] 26)).heap[w.heap.size]?=some (.cells #[.int .i64 0,.string ⟨#[]⟩,.int .i64 0,.slice none 0 0] 26 (0,0))):=D_ (by have:=U0 (w.setCell ⟨r,1,none⟩ (.slice none 0 0)) (.cells #[.int .i64 0,.string ⟨#[]⟩,.int .i64 0,.slice none 0 0] 26);rwa [r_]at this);have Y:Hid (((w.setCell ⟨r,1,none⟩ (.slice none 0 0)).alloc (.cells #[.int .i64 0,.string ⟨#[]⟩,.int .i64 0,.slice none 0 0] 26)).heap.size=w.heap.size+1):=D_ (by rw [Z_,r_]);have HF:=D_ (fun W' m=>E4 W' r (.slice none 0 0) ts [] m hf.pos);have HW:=D_ (fun W' m=>Xz ts [] W' r (.slice none 0 0) hm hf (by simp) m);have x_:=D_ (fun t ts' ns' h=>whole_good (t:=t) (ts':=ts') (ns':=ns') hf (ns:= []) (by simp) h);have U:=D_ hT;obtain⟨r1,z1⟩:=HR1.out;clear h hT;obtain⟨E,J⟩: ∃E,g6 must ts=E:=⟨_,rfl⟩;rw [J];unfold g6 at J;unfold Y1 at HF;generalize j0 ts=t0 at*;cases hx:O7 ts.length 1200 ts []with
 |bad o=>
  rw [hx]at HW J;subst J;clear hx;go_enter Tryz.func81,Tryz.ntmps81;go_upto_region 2 with fail;generalize (w.setCell ⟨r,1,none⟩ (.slice none 0 0)).alloc (.cells #[.int .i64 0,.string ⟨#[]⟩,.int .i64 0,.slice none 0 0] 26)=wb at*;go_wp2_with fail;refine(HF.out _ H.out).mono ?_;rintro e w2 ⟨rfl,y⟩;have a_:=D_ (H.out.below y);have v_:=D_ (l.out.trans (y.mono (by have:=Y.out;omega)));clear y;go_wp2_with fail;refine(HW.out _ a_.out).mono ?_;rintro e w3 ⟨rfl,hb3⟩;exact⟨rfl,rfl,v_.out.trans hb3⟩
 | ok t ts1 ns1=>
  rw [hx]at HW J;obtain⟨g1,g2,g3⟩:=x_.out _ _ _ hx;have O:=D_ (fun W' v' m=>E4 W' r v' ts1 ns1 m g1.pos);unfold Y1 at O;dsimp only at J;have q:=D_ J;have o_:=D_ g1;have G:=D_ (Oq ts.length 1200 ts [] t ts1 ns1 (R_ _) hf (by simp) hx);clear hx J hf g1;go_enter Tryz.func81,Tryz.ntmps81;go_upto_region 2 with fail;generalize (w.setCell ⟨r,1,none⟩ (.slice none 0 0)).alloc (.cells #[.int .i64 0,.string ⟨#[]⟩,.int .i64 0,.slice none 0 0] 26)=wb at*;go_wp2_with fail;refine(HF.out _ H.out).mono ?_;rintro e w2 ⟨rfl,y⟩;have a_:=D_ (H.out.below y);have p_:=D_ (RGo.of_below (r:=r) (v:=.slice none 0 0) y (by have:=Y.out;omega));have q_:=D_ (B0 y w_.out);clear y;go_wp2_with fail;refine(HW.out _ a_.out).mono ?_;rintro e w3 ⟨v3,ad,cap,rfl,X,M,s_⟩;have u_:some w3.heap.size≠v3.ownBlock:=fun e=>by have:=X.ltv _ e.symm;omega
  have V:=D_ u_;have C:=D_ (M.ne (b:=w.heap.size) (Array.getElem?_eq_some_iff.1 q_.out).1 (by intro e;cases e));have hz2:=p_.out.below.size;have hz3:=M.below.size;have hbs:=Y.out;have W:w3.heap.size≠r:=by omega
  have I:=D_ (fun W' (hT:Tabs W') (hin:G6 W' t ad cap)=>uQ t ad cap W' (by omega) hT hin);unfold tmv;go_upto_region 4 with fail;generalize m_:w3.alloc (.cells #[.int .i64 t.kind,.string t.name,.int .i64 t.n,.slice ad t.args.length cap] 26)=w4;have F:Below w3.heap.size w3 w4:=by rw [<-m_];exact(F_ _ _).alloc (R_ _) _
  have i_:Hid (w4.heap[w3.heap.size]?=some (.cells #[.int .i64 t.kind,.string t.name,.int .i64 t.n,.slice ad t.args.length cap] 26 (0,0))):=D_ (by rw [<-m_];exact U0 w3 _);have g_:=D_ (B0 F (M.at q_.out A.1 (by intro e;cases e)));have d_:=D_ (TmB.below s_ F);have a:=D_ (X.below F);have Z:=D_ (p_.out.trans (M.trans (RGo.of_below (r:=r) (v:=v3) F (N_ X.lt))));have hz4:=F.size;clear m_ F X M s_;by_cases c8:(j0 ts1).kind=8
  · have y_:=D_ (fun W' m=>R5 W' r v3 ts1 ns1 m (o_.out.two (by rw [c8];decide)));have i:((j0 ts1).kind==8)=true:=by rw [c8];rfl
    rw [I_ (fun c=>c.1 c8)]at q;rw [J_ c8]at q;clear c8;generalize j0 ts1=t1 at*;go_wp2_with fail;refine(O.out _ _ a.out).mono ?_;rintro e w5 ⟨rfl,d⟩;have u:=D_ (Z.out.trans (RGo.of_below (r:=r) (v:=v3) d (N_ a.out.lt)));have D:=D_ ((RGo.of_below (r:=r) (v:=v3) d (N_ a.out.lt)).at i_.out W (V.out));have T:=D_ ((RGo.of_below (r:=r) (v:=v3) d (N_ a.out.lt)).at g_.out A.1 C.out);have B:=D_ (d_.out.go (r:=r) (by omega) (RGo.of_below (r:=r) (v:=v3) d (N_ a.out.lt)));have x:=D_ (a.out.below d);have t_:=(RGo.of_below (r:=r) (v:=v3) d (N_ a.out.lt)).below.size;go_wp2_with fail;refine(y_.out _ x.out).mono ?_;rintro e w6 ⟨rfl,hm6,N⟩;have R:=D_ (u.out.trans N);have j_:=D_ (N.at D.out W (V.out));have z_:=D_ (N.at T.out A.1 C.out);have e_:=D_ (B.out.go (r:=r) (by omega) N);have b_:=D_ hm6;have hz6:=N.below.size;by_cases s:60<t.deep
    · have j:t.chk=3:=by unfold Tm.chk;rw [J_ G.out,J_ s]
      rw [j]at I;rw [J_ s]at q;clear s j;obtain⟨u0,u1,u2,u3,_⟩:=A0 j_.out;go_wp2_with fail;refine(I.out _ (U.out _ (l.out.trans R.out.below)) e_.out.toIn).mono ?_;rintro e w8 ⟨rfl,i⟩;have z:=D_ (R.out.trans (RGo.of_below (r:=r) (v:=v3) i (N_ b_.out.lt)));go_wp2_with fail;refine⟨rfl,?_⟩;rw [<-q.out];exact⟨rfl,l.out.trans z.out.below⟩
    · have j:t.chk=0:=by unfold Tm.chk;rw [J_ G.out,I_ s]
      rw [j]at I;rw [I_ s]at q;clear s j;obtain⟨u0,u1,u2,u3,_⟩:=A0 j_.out;go_wp2_with fail;refine(I.out _ (U.out _ (l.out.trans R.out.below)) e_.out.toIn).mono ?_;rintro e w8 ⟨rfl,i⟩;have z:=D_ (R.out.trans (RGo.of_below (r:=r) (v:=v3) i (N_ b_.out.lt)));have h_:=D_ (B0 i z_.out);have k_:=D_ (B0 i j_.out);have f_:=D_ (TmB.below e_.out i);have c_:=D_ (b_.out.below i);obtain⟨u0,u1,u2,u3,_⟩:=A0 k_.out;obtain⟨d0,d1,d2,d3,e0,e1,e2,e3⟩:=A0 h_.out;clear i;go_wp2_with fail;refine B_ (v:=tmv t ad cap) (by simp [results,Tryz.results81,go_sem,d0,d1,d2,d3,tmv]) rfl ?_;rw [<-q.out];exact⟨v3,ad,cap,rfl,wgo_fin c_.out (EQ l.out n_.out z.out) f_.out l_ (R_ _) (by omega) C.out _ _ _ _⟩
  · have HRF:=D_ (fun W' m=>C7 W' r v3 ts1 ns1 m o_.out.pos);have i:((j0 ts1).kind==8)=false:=by simpa using c8
    cases must with
    |true=>
     rw [J_ ⟨c8,rfl⟩]at q;clear c8;generalize j0 ts1=t1 at*;go_wp2_with fail;refine(O.out _ _ a.out).mono ?_;rintro e w5 ⟨rfl,d⟩;have u:=D_ (Z.out.trans (RGo.of_below (r:=r) (v:=v3) d (N_ a.out.lt)));have D:=D_ ((RGo.of_below (r:=r) (v:=v3) d (N_ a.out.lt)).at i_.out W (V.out));have T:=D_ ((RGo.of_below (r:=r) (v:=v3) d (N_ a.out.lt)).at g_.out A.1 C.out);have B:=D_ (d_.out.go (r:=r) (by omega) (RGo.of_below (r:=r) (v:=v3) d (N_ a.out.lt)));have x:=D_ (a.out.below d);have t_:=(RGo.of_below (r:=r) (v:=v3) d (N_ a.out.lt)).below.size;go_wp2_with fail;refine(HRF.out _ x.out).mono ?_;rintro e w6 ⟨rfl,hb6⟩;refine⟨rfl,?_⟩;rw [<-q.out];exact⟨rfl,(l.out.trans u.out.below).trans (hb6.mono (N_ x.out.lt))⟩
    |false=>
     rw [I_ (fun c=>by cases c.2),I_ c8]at q;clear c8;generalize j0 ts1=t1 at*;go_wp2_with fail;refine(O.out _ _ a.out).mono ?_;rintro e w5 ⟨rfl,d⟩;have u:=D_ (Z.out.trans (RGo.of_below (r:=r) (v:=v3) d (N_ a.out.lt)));have D:=D_ ((RGo.of_below (r:=r) (v:=v3) d (N_ a.out.lt)).at i_.out W (V.out));have T:=D_ ((RGo.of_below (r:=r) (v:=v3) d (N_ a.out.lt)).at g_.out A.1 C.out);have B:=D_ (d_.out.go (r:=r) (by omega) (RGo.of_below (r:=r) (v:=v3) d (N_ a.out.lt)));have x:=D_ (a.out.below d);have t_:=(RGo.of_below (r:=r) (v:=v3) d (N_ a.out.lt)).below.size;by_cases s:60<t.deep
     · have j:t.chk=3:=by unfold Tm.chk;rw [J_ G.out,J_ s]
       rw [j]at I;rw [J_ s]at q;clear s j;obtain⟨u0,u1,u2,u3,_⟩:=A0 D.out;go_wp2_with fail;refine(I.out _ (U.out _ (l.out.trans u.out.below)) B.out.toIn).mono ?_;rintro e w8 ⟨rfl,i⟩;have z:=D_ (u.out.trans (RGo.of_below (r:=r) (v:=v3) i (N_ x.out.lt)));go_wp2_with fail;refine⟨rfl,?_⟩;rw [<-q.out];exact⟨rfl,l.out.trans z.out.below⟩
     · have j:t.chk=0:=by unfold Tm.chk;rw [J_ G.out,I_ s]
       rw [j]at I;rw [I_ s]at q;clear s j;obtain⟨u0,u1,u2,u3,_⟩:=A0 D.out;go_wp2_with fail;refine(I.out _ (U.out _ (l.out.trans u.out.below)) B.out.toIn).mono ?_;rintro e w8 ⟨rfl,i⟩;have z:=D_ (u.out.trans (RGo.of_below (r:=r) (v:=v3) i (N_ x.out.lt)));have h_:=D_ (B0 i T.out);have k_:=D_ (B0 i D.out);have f_:=D_ (TmB.below B.out i);have c_:=D_ (x.out.below i);obtain⟨u0,u1,u2,u3,_⟩:=A0 k_.out;obtain⟨d0,d1,d2,d3,e0,e1,e2,e3⟩:=A0 h_.out;clear i;go_wp2_with fail;refine B_ (v:=tmv t ad cap) (by simp [results,Tryz.results81,go_sem,d0,d1,d2,d3,tmv]) rfl ?_;rw [<-q.out];exact⟨v3,ad,cap,rfl,wgo_fin c_.out (EQ l.out n_.out z.out) f_.out l_ (R_ _) (by omega) C.out _ _ _ _⟩
def endP (o:Nat) (er:Int):Ending:=if er=3 then deepP o else eZ o
def QryOut (r:Nat) (w:World) (x:Pr (Tm×Nms)) (e:Ending) (w':World):Prop:=
 match x with
 | .bad o er=>e=endP o er/\Below r w w'
 | .ok (t,ns)=> ∃v' ad cap,e=.returned (.tuple #[tmv t ad cap,v'])/\Z1 w.heap.size w' v' (nmB ns)/\WGo r w v' w'/\TmB w.heap.size w' v' t ad cap
theorem own_ne {v:Value} {B b:Nat} (h: ∀g,v.ownBlock=some g->B<=g) (a:b<B):some b≠v.ownBlock:=fun e=>by have:=h b e.symm;omega
theorem rep15:(Array.replicate 15 undef:Array Value)= #[undef,undef,undef,undef,undef,undef,undef,undef,undef,undef,undef,undef,undef,undef,undef]:=rfl
theorem DX:Tryz.prog.underlying 20=some (.interface (Tryz.prog.methodsAt 20)):=by kernel_rfl
theorem eql_nil (w:World):(binOp .eql 20 .nilIface .nilIface).run Tryz.prog w=.ok (.bool true) w:=run_eql_nil_nil w _ DX
theorem jJ (u:TypeId) (x:Value) (w:World):(binOp .eql 20 (.iface u x) .nilIface).run Tryz.prog w=.ok (.bool false) w:=run_eql_held_nil w _ u x DX
theorem VZ (o:Int) (w:World):(Instr.typeAssert (.iface 103 (.int .i64 o)) 20 103 true).run Tryz.prog w=.ok (.tuple #[.int .i64 o,.bool true]) w:=by kernel_rfl
theorem NX (o:Int) (w:World):(Instr.typeAssert (.iface 104 (.int .i64 o)) 20 103 true).run Tryz.prog w=.ok (.tuple #[.int .i64 0,.bool false]) w:=by kernel_rfl
theorem UZ (o:Int) (w:World):(Instr.typeAssert (.iface 104 (.int .i64 o)) 20 104 true).run Tryz.prog w=.ok (.tuple #[.int .i64 o,.bool true]) w:=by kernel_rfl
set_option maxRecDepth 100000 in
theorem catch_idle (p q:Addr) (w:World):
 CallsD Tryz.prog 79 #[.pointer (some p),.pointer (some q)] .returning w fun e u' w'=>e=.returned (.tuple #[])/\u'=.returning/\w'=w:=by
 refine callsD_of_wpS Tryz.func79 rfl fun c₀ cs a=>?_;apply wpS_seq
 apply wpS_region
 simp [wpOpsS,go_sem,recoverD,a,Tryz.ntmps79,Exit.thenS]
 have e1:=eql_nil;refine wpS_of_wp ?_;simp only [rep15,T_,C_,E_,List.append_toArray,List.cons_append,List.nil_append]
 go_wp2_with fail;cases c₀
 simp_all [bodyPostS,results,Tryz.results79]
set_option maxRecDepth 100000 in
theorem catch_misp (p q:Addr) (x y:Int) (o:Int) (w:World) (hc:w.cell? p=some (.int .i64 x)) (d:w.frozen? p=false) (a: ∀v,(w.setCell p v).cell? q=some (.int .i64 y)) (b: ∀v,(w.setCell p v).frozen? q=false):
 CallsD Tryz.prog 79 #[.pointer (some p),.pointer (some q)] (.panicking [{v:=.iface 103 (.int .i64 o),recovered:=false}]) w fun e u' w'=>
  e=.returned (.tuple #[])/\u'=.panicking [{v:=.iface 103 (.int .i64 o),recovered:=true}]/\w'=(w.setCell p (.int .i64 o)).setCell q (.int .i64 60):=by
 refine callsD_of_wpS Tryz.func79 rfl fun c₀ cs c=>?_;apply wpS_seq
 apply wpS_region
 simp [wpOpsS,go_sem,recoverD,c,Tryz.ntmps79,Exit.thenS]
 have e2:=jJ;have ta:=VZ;refine wpS_of_wp ?_;simp only [rep15,T_,C_,E_,List.append_toArray,List.cons_append,List.nil_append]
 go_wp2_with fail;clear e2 ta hc d a b;cases c₀
 simp_all [bodyPostS,results,Tryz.results79]
set_option maxRecDepth 100000 in
theorem catch_deep (p q:Addr) (x y:Int) (o:Int) (w:World) (hc:w.cell? p=some (.int .i64 x)) (d:w.frozen? p=false) (a: ∀v,(w.setCell p v).cell? q=some (.int .i64 y)) (b: ∀v,(w.setCell p v).frozen? q=false):
 CallsD Tryz.prog 79 #[.pointer (some p),.pointer (some q)] (.panicking [{v:=.iface 104 (.int .i64 o),recovered:=false}]) w fun e u' w'=>
  e=.returned (.tuple #[])/\u'=.panicking [{v:=.iface 104 (.int .i64 o),recovered:=true}]/\w'=(w.setCell p (.int .i64 o)).setCell q (.int .i64 3):=by
 refine callsD_of_wpS Tryz.func79 rfl fun c₀ cs c=>?_;apply wpS_seq
 apply wpS_region
 simp [wpOpsS,go_sem,recoverD,c,Tryz.ntmps79,Exit.thenS]
 have e2:=jJ;have ta2:=NX;have ta3:=UZ;refine wpS_of_wp ?_;simp only [rep15,T_,C_,E_,List.append_toArray,List.cons_append,List.nil_append]
 go_wp2_with fail;clear e2 ta2 ta3 hc d a b;cases c₀
 simp_all [bodyPostS,results,Tryz.results79]
theorem n9 (fn:Fn) (first cap:Array Value) (w:World):(Instr.makeFunc fn first cap).run Tryz.prog w=.ok (.func fn first cap) w:=rfl
theorem Q2 {w:World} {q:Nat} {a:Value} {t:TypeId} (h:w.heap[q]?=some (.cells #[a] t (0,0))):w.cell? ⟨q,0,none⟩=some a/\w.frozen? ⟨q,0,none⟩=false:=by
 simp [World.cell?,World.frozen?,h]
theorem N8 {w:World} {N:Nat} {x y:Value} {t t2:TypeId} (a:w.heap[N]?=some (.cells #[x] t (0,0))) (b:w.heap[N+1]?=some (.cells #[y] t2 (0,0))) (u v:Value):
 ((w.setCell ⟨N,0,none⟩ u).setCell ⟨N+1,0,none⟩ v).heap[N]?=some (.cells #[u] t (0,0))/\((w.setCell ⟨N,0,none⟩ u).setCell ⟨N+1,0,none⟩ v).heap[N+1]?=some (.cells #[v] t2 (0,0)):=by
 have a0:=H_ (i:=0) a u;have a1:=qQ (q:=N) (i:=0) b (by omega) u;exact⟨by simpa using qQ (q:=N+1) (i:=0) a0 (by omega) v,by simpa using H_ (i:=0) a1 v⟩
theorem n7 {N:Nat} {w w1:World} (h:Below N w w1) (u v:Value):Below N w ((w1.setCell ⟨N,0,none⟩ u).setCell ⟨N+1,0,none⟩ v):=
 (h.setCell (p:=⟨N,0,none⟩) (R_ _) u).setCell (p:=⟨N+1,0,none⟩) (Nat.le_succ _) v
set_option maxRecDepth 100000 in
theorem att_no (fn:Value) (s:ByteArray) (w:World) (p er:Int) (o:(er==0)=false)
 (k: ∀W,Below w.heap.size w W->Calls Tryz.prog 78 #[.string s] W fun e w'=>e=.returned (.tuple #[.slice none 0 0,.int .i64 p,.int .i64 er])/\Below W.heap.size W w'):
 Calls Tryz.prog 65 #[.string s,fn] w fun e w'=>e=.returned (.tuple #[.int .i64 p,.int .i64 er])/\Below w.heap.size w w':=by
 have n:Hid (((w.alloc (.cells #[.int .i64 0] 3)).alloc (.cells #[.int .i64 0] 31)).heap[w.heap.size]?=some (.cells #[.int .i64 0] 3 (0,0))):=D_ ((A_ _ _ _ (by rw [Z_];omega)).trans (by unfold World.alloc;simp));have j:Hid (((w.alloc (.cells #[.int .i64 0] 3)).alloc (.cells #[.int .i64 0] 31)).heap[w.heap.size+1]?=some (.cells #[.int .i64 0] 31 (0,0))):=D_ (by have:=U0 (w.alloc (.cells #[.int .i64 0] 3)) (.cells #[.int .i64 0] 31);rwa [Z_]at this);have b:Hid (Below w.heap.size w ((w.alloc (.cells #[.int .i64 0] 3)).alloc (.cells #[.int .i64 0] 31))):=D_ (((F_ _ w).alloc (R_ _) _).alloc (by rw [Z_];omega) _);have m:=D_ k;clear k;go_enter_defers Tryz.func65,Tryz.ntmps65
 go_upto_region 1 with fail;generalize ((w.alloc (.cells #[.int .i64 0] 3)).alloc (.cells #[.int .i64 0] 31))=wa at*;go_wp2_with fail;refine(m.out _ b.out).mono ?_;rintro e w1 ⟨rfl,a⟩;have d:=B0 a n.out;have c:=B0 a j.out;have g:=D_ (N8 d c (.int .i64 p) (.int .i64 er));have l:=D_ (N8 g.out.1 g.out.2 (.int .i64 p) (.int .i64 er));obtain⟨c0,z0⟩:=Q2 d;obtain⟨c1,z1⟩:=Q2 c;have h:=D_ (n7 (n7 (b.out.trans (a.mono b.out.size)) (.int .i64 p) (.int .i64 er)) (.int .i64 p) (.int .i64 er)).drew;clear d c a;go_wp2_with fail;go_region
 all_goals
  go_wp2_with fail;simp only [bodyPostD,Leaves]
  have i:Hid (((((w1.setCell ⟨w.heap.size,0,none⟩ (.int .i64 p)).setCell ⟨w.heap.size+1,0,none⟩ (.int .i64 er)).setCell ⟨w.heap.size,0,none⟩ (.int .i64 p)).setCell ⟨w.heap.size+1,0,none⟩ (.int .i64 er)).drew.heap[w.heap.size]?=some (.cells #[.int .i64 p] 3 (0,0))/\((((w1.setCell ⟨w.heap.size,0,none⟩ (.int .i64 p)).setCell ⟨w.heap.size+1,0,none⟩ (.int .i64 er)).setCell ⟨w.heap.size,0,none⟩ (.int .i64 p)).setCell ⟨w.heap.size+1,0,none⟩ (.int .i64 er)).drew.heap[w.heap.size+1]?=some (.cells #[.int .i64 er] 31 (0,0))):=D_ l.out;generalize ((((w1.setCell ⟨w.heap.size,0,none⟩ (.int .i64 p)).setCell ⟨w.heap.size+1,0,none⟩ (.int .i64 er)).setCell ⟨w.heap.size,0,none⟩ (.int .i64 p)).setCell ⟨w.heap.size+1,0,none⟩ (.int .i64 er)).drew=W at*;obtain⟨d0,_⟩:=Q2 i.out.1;obtain⟨d1,_⟩:=Q2 i.out.2;exact⟨.tuple #[.int .i64 p,.int .i64 er],by simp [results,Tryz.results65,go_sem,d0,d1],rfl,h.out⟩
def nj (w0:World) (T:List Tok) (e:Ending) (w':World):Prop:=
 ∃g k cap,e=.returned (.tuple #[.slice (some ⟨g,k,none⟩) T.length cap,.int .i64 0,.int .i64 0])/\w0.heap.size<=g/\g<w'.heap.size/\T.length<=cap/\cap<=maxLen/\S5 w' g k T/\Below w0.heap.size w0 w'
theorem A1.fresh {w:World} {g k cap:Nat} {T:List Tok} (b:g<w.heap.size) (c:T.length<=cap) (hc:cap<=maxLen) (a:S5 w g k T):
 A1 (w.alloc (.cells #[.slice (some ⟨g,k,none⟩) T.length cap,.slice none 0 0] 106)) w.heap.size (.slice none 0 0) T []:=
 ⟨⟨g,k,cap,b,U0 w _,c,hc,a.kept (fun d=>A_ _ _ _ d)⟩,O_ _ _ _ _⟩
theorem A1.start {w1:World} {N g k cap:Nat} {T:List Tok} (h:N+2<=g) (c:g<w1.heap.size) (d:T.length<=cap) (hc:cap<=maxLen) (a:S5 w1 g k T) (u v:Value):
 A1 (((w1.setCell ⟨N,0,none⟩ u).setCell ⟨N+1,0,none⟩ v).alloc (.cells #[.slice (some ⟨g,k,none⟩) T.length cap,.slice none 0 0] 106)) w1.heap.size (.slice none 0 0) T []:=by
 have b:((w1.setCell ⟨N,0,none⟩ u).setCell ⟨N+1,0,none⟩ v).heap.size=w1.heap.size:=by simp
 have:=A1.fresh (w:=(w1.setCell ⟨N,0,none⟩ u).setCell ⟨N+1,0,none⟩ v) (by rw [b];exact c) d hc (a.kept (fun _=>by rw [S_ _ _ _ _ (show g≠N+1 by omega),S_ _ _ _ _ (show g≠N by omega)]));rwa [b]at this
set_option maxRecDepth 100000 in
theorem att_misp (fid:Nat) (U: ∀args w,(callFunc fid args).run Tryz.prog w=.ok (.enter fid args) w) (capt:Array Value) (s:ByteArray) (w:World) (T:List Tok) (o:Nat)
 (G: ∀W,Below w.heap.size w W->Calls Tryz.prog 78 #[.string s] W fun e w'=>nj W T e w')
 (H: ∀W r,w.heap.size+2<=r->W.heap.size=r+1->Below w.heap.size w W->A1 W r (.slice none 0 0) T []->Calls Tryz.prog fid (#[.pointer (some ⟨r,0,none⟩)]++capt) W fun e w'=>e=eZ o/\Below r W w'):
 Calls Tryz.prog 65 #[.string s,.func (.func fid) #[] capt] w fun e w'=>e=.returned (.tuple #[.int .i64 (o:Nat),.int .i64 60])/\Below w.heap.size w w':=by
 have R:=n9;have F:Hid (((w.alloc (.cells #[.int .i64 0] 3)).alloc (.cells #[.int .i64 0] 31)).heap[w.heap.size]?=some (.cells #[.int .i64 0] 3 (0,0))):=D_ ((A_ _ _ _ (by rw [Z_];omega)).trans (by unfold World.alloc;simp));have m:Hid (((w.alloc (.cells #[.int .i64 0] 3)).alloc (.cells #[.int .i64 0] 31)).heap[w.heap.size+1]?=some (.cells #[.int .i64 0] 31 (0,0))):=D_ (by have:=U0 (w.alloc (.cells #[.int .i64 0] 3)) (.cells #[.int .i64 0] 31);rwa [Z_]at this);have d:Hid (Below w.heap.size w ((w.alloc (.cells #[.int .i64 0] 3)).alloc (.cells #[.int .i64 0] 31))):=D_ (((F_ _ w).alloc (R_ _) _).alloc (by rw [Z_];omega) _);have n:Hid (((w.alloc (.cells #[.int .i64 0] 3)).alloc (.cells #[.int .i64 0] 31)).heap.size=w.heap.size+2):=D_ (by rw [Z_,Z_]);have E:=D_ G;have M:=D_ H;clear G H;go_enter_defers Tryz.func65,Tryz.ntmps65
 go_upto_region 1 with fail;generalize ((w.alloc (.cells #[.int .i64 0] 3)).alloc (.cells #[.int .i64 0] 31))=wa at*;go_wp2_with fail;refine(E.out _ d.out).mono ?_;rintro e w1 ⟨g,k,cap,rfl,u,I,J,p,j,b⟩;rw [n.out]at u;have c:=B0 b F.out;have a:=B0 b m.out;have x:=D_ (N8 c a (.int .i64 0) (.int .i64 0));obtain⟨c0,z0⟩:=Q2 c;obtain⟨c1,z1⟩:=Q2 a;have t:=b.size;rw [n.out]at t;have l:Hid (Below w.heap.size w (((w1.setCell ⟨w.heap.size,0,none⟩ (.int .i64 0)).setCell ⟨w.heap.size+1,0,none⟩ (.int .i64 0)).alloc (.cells #[.slice (some ⟨g,k,none⟩) T.length cap,.slice none 0 0] 106))):=D_ ((n7 (d.out.trans (b.mono d.out.size)) (.int .i64 0) (.int .i64 0)).alloc (by simp;omega) _);have N:=D_ (A1.start u I J p j (.int .i64 0) (.int .i64 0));have O:Hid ((((w1.setCell ⟨w.heap.size,0,none⟩ (.int .i64 0)).setCell ⟨w.heap.size+1,0,none⟩ (.int .i64 0)).alloc (.cells #[.slice (some ⟨g,k,none⟩) T.length cap,.slice none 0 0] 106)).heap.size=w1.heap.size+1):=D_ (by rw [Z_];simp);have A:=D_ (N0 x.out.1 (.cells #[.slice (some ⟨g,k,none⟩) T.length cap,.slice none 0 0] 106));have B:=D_ (N0 x.out.2 (.cells #[.slice (some ⟨g,k,none⟩) T.length cap,.slice none 0 0] 106));clear c a b j u I J p F m E;go_wp2_with fail;refine(M.out _ _ t O.out l.out N.out).mono ?_;rintro e w2 ⟨rfl,h⟩;have c:=(h.block w.heap.size (by omega)).trans A.out;have a:=(h.block (w.heap.size+1) (by omega)).trans B.out;have C:=D_ (l.out.trans (h.mono (by omega)));have y:=D_ (N8 c a (.int .i64 (o:Nat)) (.int .i64 60));have z:=D_ (fun v=>Q2 (qQ (q:=w.heap.size) (i:=0) a (by omega) v));obtain⟨d0,y0⟩:=Q2 c;refine leaves_cons (f:=79) (args:= #[.pointer (some ⟨w.heap.size,0,none⟩),.pointer (some ⟨w.heap.size+1,0,none⟩)]) (by simp) (by simp [go_sem]) ?_;refine(catch_misp ⟨w.heap.size,0,none⟩ ⟨w.heap.size+1,0,none⟩ 0 0 (o:Nat) w2 d0 y0 (fun v=>(z.out v).1) (fun v=>(z.out v).2)).mono ?_;rintro e u' w3 ⟨rfl,rfl,rfl⟩;have D:=D_ (n7 C.out (.int .i64 (o:Nat)) (.int .i64 60));generalize ((w2.setCell ⟨w.heap.size,0,none⟩ (.int .i64 (o:Nat))).setCell ⟨w.heap.size+1,0,none⟩ (.int .i64 60))=W at*;obtain⟨k0,_⟩:=Q2 y.out.1;obtain⟨k1,_⟩:=Q2 y.out.2;exact⟨.tuple #[.int .i64 (o:Nat),.int .i64 60],by simp [results,Tryz.results65,go_sem,k0,k1],rfl,D.out⟩
set_option maxRecDepth 100000 in
theorem att_deep (fid:Nat) (U: ∀args w,(callFunc fid args).run Tryz.prog w=.ok (.enter fid args) w) (capt:Array Value) (s:ByteArray) (w:World) (T:List Tok) (o:Nat)
 (G: ∀W,Below w.heap.size w W->Calls Tryz.prog 78 #[.string s] W fun e w'=>nj W T e w')
 (H: ∀W r,w.heap.size+2<=r->W.heap.size=r+1->Below w.heap.size w W->A1 W r (.slice none 0 0) T []->Calls Tryz.prog fid (#[.pointer (some ⟨r,0,none⟩)]++capt) W fun e w'=>e=deepP o/\Below r W w'):
 Calls Tryz.prog 65 #[.string s,.func (.func fid) #[] capt] w fun e w'=>e=.returned (.tuple #[.int .i64 (o:Nat),.int .i64 3])/\Below w.heap.size w w':=by
 have R:=n9;have F:Hid (((w.alloc (.cells #[.int .i64 0] 3)).alloc (.cells #[.int .i64 0] 31)).heap[w.heap.size]?=some (.cells #[.int .i64 0] 3 (0,0))):=D_ ((A_ _ _ _ (by rw [Z_];omega)).trans (by unfold World.alloc;simp));have m:Hid (((w.alloc (.cells #[.int .i64 0] 3)).alloc (.cells #[.int .i64 0] 31)).heap[w.heap.size+1]?=some (.cells #[.int .i64 0] 31 (0,0))):=D_ (by have:=U0 (w.alloc (.cells #[.int .i64 0] 3)) (.cells #[.int .i64 0] 31);rwa [Z_]at this);have d:Hid (Below w.heap.size w ((w.alloc (.cells #[.int .i64 0] 3)).alloc (.cells #[.int .i64 0] 31))):=D_ (((F_ _ w).alloc (R_ _) _).alloc (by rw [Z_];omega) _);have n:Hid (((w.alloc (.cells #[.int .i64 0] 3)).alloc (.cells #[.int .i64 0] 31)).heap.size=w.heap.size+2):=D_ (by rw [Z_,Z_]);have E:=D_ G;have M:=D_ H;clear G H;go_enter_defers Tryz.func65,Tryz.ntmps65
 go_upto_region 1 with fail;generalize ((w.alloc (.cells #[.int .i64 0] 3)).alloc (.cells #[.int .i64 0] 31))=wa at*;go_wp2_with fail;refine(E.out _ d.out).mono ?_;rintro e w1 ⟨g,k,cap,rfl,u,I,J,p,j,b⟩;rw [n.out]at u;have c:=B0 b F.out;have a:=B0 b m.out;have x:=D_ (N8 c a (.int .i64 0) (.int .i64 0));obtain⟨c0,z0⟩:=Q2 c;obtain⟨c1,z1⟩:=Q2 a;have t:=b.size;rw [n.out]at t;have l:Hid (Below w.heap.size w (((w1.setCell ⟨w.heap.size,0,none⟩ (.int .i64 0)).setCell ⟨w.heap.size+1,0,none⟩ (.int .i64 0)).alloc (.cells #[.slice (some ⟨g,k,none⟩) T.length cap,.slice none 0 0] 106))):=D_ ((n7 (d.out.trans (b.mono d.out.size)) (.int .i64 0) (.int .i64 0)).alloc (by simp;omega) _);have N:=D_ (A1.start u I J p j (.int .i64 0) (.int .i64 0));have O:Hid ((((w1.setCell ⟨w.heap.size,0,none⟩ (.int .i64 0)).setCell ⟨w.heap.size+1,0,none⟩ (.int .i64 0)).alloc (.cells #[.slice (some ⟨g,k,none⟩) T.length cap,.slice none 0 0] 106)).heap.size=w1.heap.size+1):=D_ (by rw [Z_];simp);have A:=D_ (N0 x.out.1 (.cells #[.slice (some ⟨g,k,none⟩) T.length cap,.slice none 0 0] 106));have B:=D_ (N0 x.out.2 (.cells #[.slice (some ⟨g,k,none⟩) T.length cap,.slice none 0 0] 106));clear c a b j u I J p F m E;go_wp2_with fail;refine(M.out _ _ t O.out l.out N.out).mono ?_;rintro e w2 ⟨rfl,h⟩;have c:=(h.block w.heap.size (by omega)).trans A.out;have a:=(h.block (w.heap.size+1) (by omega)).trans B.out;have C:=D_ (l.out.trans (h.mono (by omega)));have y:=D_ (N8 c a (.int .i64 (o:Nat)) (.int .i64 3));have z:=D_ (fun v=>Q2 (qQ (q:=w.heap.size) (i:=0) a (by omega) v));obtain⟨d0,y0⟩:=Q2 c;refine leaves_cons (f:=79) (args:= #[.pointer (some ⟨w.heap.size,0,none⟩),.pointer (some ⟨w.heap.size+1,0,none⟩)]) (by simp) (by simp [go_sem]) ?_;refine(catch_deep ⟨w.heap.size,0,none⟩ ⟨w.heap.size+1,0,none⟩ 0 0 (o:Nat) w2 d0 y0 (fun v=>(z.out v).1) (fun v=>(z.out v).2)).mono ?_;rintro e u' w3 ⟨rfl,rfl,rfl⟩;have D:=D_ (n7 C.out (.int .i64 (o:Nat)) (.int .i64 3));generalize ((w2.setCell ⟨w.heap.size,0,none⟩ (.int .i64 (o:Nat))).setCell ⟨w.heap.size+1,0,none⟩ (.int .i64 3))=W at*;obtain⟨k0,_⟩:=Q2 y.out.1;obtain⟨k1,_⟩:=Q2 y.out.2;exact⟨.tuple #[.int .i64 (o:Nat),.int .i64 3],by simp [results,Tryz.results65,go_sem,k0,k1],rfl,D.out⟩
def AttOk (w:World) (Post:Nat->World->World->Prop) (w':World):Prop:=
 ∃r W wc,w.heap.size+2<=r/\W.heap.size=r+1/\Below w.heap.size w W/\Post r W wc/\w'=(wc.setCell ⟨w.heap.size,0,none⟩ (.int .i64 0)).setCell ⟨w.heap.size+1,0,none⟩ (.int .i64 0)
set_option maxRecDepth 100000 in
theorem att_ok (fid:Nat) (N: ∀args w,(callFunc fid args).run Tryz.prog w=.ok (.enter fid args) w) (capt:Array Value) (s:ByteArray) (w:World) (T:List Tok) (Post:Nat->World->World->Prop)
 (C: ∀W,Below w.heap.size w W->Calls Tryz.prog 78 #[.string s] W fun e w'=>nj W T e w')
 (D: ∀W r,w.heap.size+2<=r->W.heap.size=r+1->Below w.heap.size w W->A1 W r (.slice none 0 0) T []->Calls Tryz.prog fid (#[.pointer (some ⟨r,0,none⟩)]++capt) W fun e w'=>e=.returned (.tuple #[])/\Post r W w'/\ ∀b,w.heap.size<=b->b<r->w'.heap[b]?=W.heap[b]?):
 Calls Tryz.prog 65 #[.string s,.func (.func fid) #[] capt] w fun e w'=>e=.returned (.tuple #[.int .i64 0,.int .i64 0])/\AttOk w Post w':=by
 have M:=n9;have A:Hid (((w.alloc (.cells #[.int .i64 0] 3)).alloc (.cells #[.int .i64 0] 31)).heap[w.heap.size]?=some (.cells #[.int .i64 0] 3 (0,0))):=D_ ((A_ _ _ _ (by rw [Z_];omega)).trans (by unfold World.alloc;simp));have n:Hid (((w.alloc (.cells #[.int .i64 0] 3)).alloc (.cells #[.int .i64 0] 31)).heap[w.heap.size+1]?=some (.cells #[.int .i64 0] 31 (0,0))):=D_ (by have:=U0 (w.alloc (.cells #[.int .i64 0] 3)) (.cells #[.int .i64 0] 31);rwa [Z_]at this);have h:Hid (Below w.heap.size w ((w.alloc (.cells #[.int .i64 0] 3)).alloc (.cells #[.int .i64 0] 31))):=D_ (((F_ _ w).alloc (R_ _) _).alloc (by rw [Z_];omega) _);have o:Hid (((w.alloc (.cells #[.int .i64 0] 3)).alloc (.cells #[.int .i64 0] 31)).heap.size=w.heap.size+2):=D_ (by rw [Z_,Z_]);have z:=D_ C;have H:=D_ D;clear C D;go_enter_defers Tryz.func65,Tryz.ntmps65
 go_upto_region 1 with fail;generalize ((w.alloc (.cells #[.int .i64 0] 3)).alloc (.cells #[.int .i64 0] 31))=wa at*;go_wp2_with fail;refine(z.out _ h.out).mono ?_;rintro e w1 ⟨g,k,cap,rfl,t,E,F,p,j,c⟩;rw [o.out]at t;have d:=B0 c A.out;have a:=B0 c n.out;have u:=D_ (N8 d a (.int .i64 0) (.int .i64 0));obtain⟨c0,z0⟩:=Q2 d;obtain⟨c1,z1⟩:=Q2 a;have l:=c.size;rw [o.out]at l;have m:Hid (Below w.heap.size w (((w1.setCell ⟨w.heap.size,0,none⟩ (.int .i64 0)).setCell ⟨w.heap.size+1,0,none⟩ (.int .i64 0)).alloc (.cells #[.slice (some ⟨g,k,none⟩) T.length cap,.slice none 0 0] 106))):=D_ ((n7 (h.out.trans (c.mono h.out.size)) (.int .i64 0) (.int .i64 0)).alloc (by simp;omega) _);have I:=D_ (A1.start t E F p j (.int .i64 0) (.int .i64 0));have B:Hid ((((w1.setCell ⟨w.heap.size,0,none⟩ (.int .i64 0)).setCell ⟨w.heap.size+1,0,none⟩ (.int .i64 0)).alloc (.cells #[.slice (some ⟨g,k,none⟩) T.length cap,.slice none 0 0] 106)).heap.size=w1.heap.size+1):=D_ (by rw [Z_];simp);have x:=D_ (N0 u.out.1 (.cells #[.slice (some ⟨g,k,none⟩) T.length cap,.slice none 0 0] 106));have y:=D_ (N0 u.out.2 (.cells #[.slice (some ⟨g,k,none⟩) T.length cap,.slice none 0 0] 106));clear d a c j t E F p A n z;go_wp2_with fail;refine(H.out _ _ l B.out m.out I.out).mono ?_;rintro e w2 ⟨rfl,q,i⟩;have d:=(i w.heap.size (R_ _) (by omega)).trans x.out;have a:=(i (w.heap.size+1) (by omega) (by omega)).trans y.out;have v:=D_ (N8 d a (.int .i64 0) (.int .i64 0));obtain⟨d0,y0⟩:=Q2 d;obtain⟨d1,y1⟩:=Q2 a;have J:=D_ q;clear d a q i;go_wp2_with fail;have G:Hid (AttOk w Post ((w2.setCell ⟨w.heap.size,0,none⟩ (.int .i64 0)).setCell ⟨w.heap.size+1,0,none⟩ (.int .i64 0))):=D_ ⟨_,_,_,l,B.out,m.out,J.out,rfl⟩;generalize ((w2.setCell ⟨w.heap.size,0,none⟩ (.int .i64 0)).setCell ⟨w.heap.size+1,0,none⟩ (.int .i64 0))=W at*;refine leaves_cons (f:=79) (args:= #[.pointer (some ⟨w.heap.size,0,none⟩),.pointer (some ⟨w.heap.size+1,0,none⟩)]) (by simp) (by simp [go_sem]) ?_;refine(catch_idle ⟨w.heap.size,0,none⟩ ⟨w.heap.size+1,0,none⟩ W).mono ?_;rintro e u' w3 ⟨rfl,rfl,rfl⟩;obtain⟨k0,_⟩:=Q2 v.out.1;obtain⟨k1,_⟩:=Q2 v.out.2;exact⟨.tuple #[.int .i64 0,.int .i64 0],by simp [results,Tryz.results65,go_sem,k0,k1],rfl,G.out⟩
structure QPost (P Q:Nat) (t:Tm) (ns:Nms) (r:Nat) (W w':World):Prop where
 ex: ∃v ad cap,Z1 (r+1) w' v (nmB ns)/\TmB (r+1) w' v t ad cap/\w'.heap[P]?=some (.cells #[.int .i64 t.kind,.string t.name,.int .i64 t.n,.slice ad t.args.length cap] 26 (0,0))/\w'.heap[Q]?=some (.cells #[v] 56 (0,0))
 below: ∀N,N<=P->N<=Q->N<=r->Below N W w'
def Q1Out (P Q r:Nat) (W:World) (x:Pr (Tm×Nms)) (e:Ending) (w':World):Prop:=
 match x with
 | .bad o er=>e=endP o er/\Below r W w'
 | .ok (t,ns)=>e=.returned (.tuple #[])/\QPost P Q t ns r W w'/\ ∀b,b<W.heap.size->b≠r->b≠P->b≠Q->w'.heap[b]?=W.heap[b]?
theorem end_is (o:Nat) (er:Int):endP o er=deepP o\/endP o er=eZ o:=by
 unfold endP;by_cases h:er=3
 · exact .inl (J_ h)
 · exact .inr (I_ h)
def wqry (w:World):World:=((w.alloc (.cells #[.int .i64 0,.string ⟨#[]⟩,.int .i64 0,.slice none 0 0] 26)).alloc (.cells #[.int .i64 0,.string ⟨#[]⟩,.int .i64 0,.slice none 0 0] 26)).alloc (.cells #[.slice none 0 0] 56)
def zeroT:Value:=.agg #[.int .i64 0,.string ⟨#[]⟩,.int .i64 0,.slice none 0 0]
def QryGood (w:World) (t:Tm) (ns:Nms) (e:Ending) (w':World):Prop:=
 ∃v ad cap,e=.returned (.tuple #[tmv t ad cap,v,.int .i64 0,.int .i64 0])/\Z1 w.heap.size w' v (nmB ns)/\TmB w.heap.size w' v t ad cap/\Below w.heap.size w w'
def QAll (P Q:Nat) (t:Tm) (ns:Nms) (r:Nat) (W w':World):Prop:=QPost P Q t ns r W w'/\ ∀b,b<W.heap.size->b≠r->b≠P->b≠Q->w'.heap[b]?=W.heap[b]?
theorem Ej (args:Array Value) (w:World):(callFunc 66 args).run Tryz.prog w=.ok (.enter 66 args) w:=by kernel_rfl
theorem Bz {w:World} {g:Nat}: ∀(l:List Tok) (o:Nat),(∀j (b:j<l.length),XQ w g (o+j) l[j])->S5 w g (o*4) l
 | [],o,_=>.nil _
 |t::l,o,h=>by
  have a:=h 0 (Nat.zero_lt_succ _);rw [Nat.add_zero]at a;refine .cons _ t l a.kind a.text a.n a.pos ?_;have:=Bz l (o+1) (fun j b=>by have:=h (j+1) (Nat.succ_lt_succ b);rw [show o+1+j=o+(j+1)from by omega];exact this);rwa [show(o+1)*4=o*4+4 from by omega]at this
theorem QX {src:List UInt8} {T:List Tok} (c:src.length<=4096) (hc:C5 src 0 false=.good T) (s:ByteArray) (t:s.data.toList=src) (w:World) (m:TabsT w):
 Calls Tryz.prog 78 #[.string s] w fun e w'=>nj w T e w':=by
 have o:=Fx c hc;refine(cut_good c hc s t w m).mono ?_;rintro e w' ⟨v,rfl,r,n⟩;obtain⟨ad,cap,rfl,k,l,a⟩:=r.view;obtain⟨g,rfl,p,i⟩:=a 0 o.pos;have d:g<w'.heap.size:=L_ w' ⟨g,_,none⟩ i.kind;have h:=Bz (w:=w') (g:=g) T 0 (fun j q=>by
  obtain⟨g2,e,_,b⟩:=a j q;injection e with e;injection e with e _ _;subst e;rw [Nat.zero_add];exact b)
 rw [Nat.zero_mul]at h;exact⟨g,0,cap,rfl,p,d,k,l,h,n⟩
def QueryOut (w:World) (x:Pr (Tm×Nms)) (e:Ending) (w':World):Prop:=
 match x with
 | .bad o er=>e=.returned (.tuple #[zeroT,.slice none 0 0,.int .i64 (o:Nat),.int .i64 er])/\Below w.heap.size w w'
 | .ok (t,ns)=>QryGood w t ns e w'
def PrgOut (r:Nat) (w:World) (x:Pr (List Tm)) (e:Ending) (w':World):Prop:=
 match x with
 | .bad o er=>e=endP o er/\Below r w w'
 | .ok l=> ∃ad cap,e=.returned (.slice ad l.length cap)/\l.length<=cap/\cap<=maxLen/\M0 w' (fun b=>w.heap.size<=b) ad l/\Below r w w'/\ ∀b,b<w.heap.size->b≠r->w'.heap[b]?=w.heap[b]?
theorem WGo.rgo {r:Nat} {w w':World} {v':Value} (h:WGo r w v' w'):RGo r (.slice none 0 0) w (.slice none 0 0) w':=⟨h.below,fun b a c _=>h.keep b a c,.inl rfl⟩
theorem G2.bare {B:Nat} {w:World} {lv v:Value} {l:List Tm} (h:G2 B w lv v l):G2 B w lv (.slice none 0 0) l:=by
 obtain⟨xs,c,d⟩:=h.ex;exact⟨⟨xs,c,d.kept (fun _ _ _=>rfl) (fun b a _=>⟨a.1,a.2.1,by intro e;cases e⟩)⟩,fun k _=>by intro e;cases e⟩
theorem G2.nil (B:Nat) (w:World):G2 B w (.slice none 0 0) (.slice none 0 0) []:=
 ⟨⟨[],O_ _ _ _ _,.nil⟩,fun k a=>by cases a⟩
theorem TmB.bare {B:Nat} {w:World} {v:Value} {t:Tm} {ad:Option Addr} {cap:Nat} (h:TmB B w v t ad cap):TmB B w (.slice none 0 0) t ad cap:=
 TmP.kept h (fun _ _ _=>rfl) (fun b a _=>⟨a.1,by intro e;cases e⟩)
set_option maxRecDepth 100000 in
theorem rd_program (ts:List Tok) (ns:Nms) (w:World) (r:Nat) (v:Value) (hm:ts.length<=10000) (hf:T0 ts) (h:A1 w r v ts ns) (hT: ∀W',Below r w W'->Tabs W'):
 Calls Tryz.prog 67 #[.pointer (some ⟨r,0,none⟩)] w fun e w'=>PrgOut r w (Ux ts) e w':=by
 have F:=h.lt;have f0:=X9;have p_:=D_ h;have l_:=D_ hf;have M:=D_ hT;obtain⟨i0,hi,x_,y_,z_⟩:=J6 Fq;obtain⟨E,Z⟩: ∃E,Ux ts=E:=⟨_,rfl⟩;rw [Z];unfold Ux at Z;have HE:=D_ Z;clear h hf hT Z;go_enter Tryz.func67,Tryz.ntmps67;go_wp2_with fail;go_loopw [3] (fun lv wr=> ∃(f:Nat) (l:List Tm) (tk:List Tok) (nk:Nms) (vk:Value),tk.length<=f/\T0 tk/\tk.length+l.length<=ts.length/\Hid (A7 f l tk=E)/\A1 wr r vk tk nk/\RGo r (.slice none 0 0) w (.slice none 0 0) wr/\G2 w.heap.size wr lv (.slice none 0 0) l) (fun _ wr=>tokLen wr r)
 case atStart=>exact⟨ts.length,[],ts,ns,v,R_ _,l_.out,by simp,HE,p_.out,RGo.refl _ _ _,G2.nil _ _⟩
 case round=>
  obtain⟨f,l,tk,nk,vk,hfl,i,hlen,I,y,x,z⟩:=hrel;have H:=D_ (fun W (hm:A1 W r vk tk nk)=>E4 W r vk tk nk hm i.pos);have D:=D_ (fun W (hm:A1 W r vk tk nk) hT=>rd_whole true tk nk W r vk (by omega) i hm hT);have B:=D_ (fun t ts' ns h=>Aq (must:=true) i (t:=t) (ts':=ts') (ns:=ns) h);unfold Y1 at H;have hfp:=i.pos;obtain⟨f',rfl⟩: ∃f',f=f'+1:=⟨f-1,by omega⟩;have a:=I.out;unfold A7 at a;have u_:=D_ y.tokLen;have HS:=D_ z;have Y:=D_ x;have m:=D_ y;have hws:=x.below.size;obtain⟨ad0,cap0,rfl,_,_,_⟩:=z.slice;by_cases c9:(j0 tk).kind=9
  · have w_:((j0 tk).kind==9)=true:=by rw [c9];rfl
    rw [J_ c9]at a;have q:=D_ a;clear y x z i I a c9 D B;generalize j0 tk=t1 at*;go_wp2_with fail;refine(H.out _ m.out).mono ?_;rintro e w3 ⟨rfl,c⟩;obtain⟨ad,cap,e2,h1,h2,h3⟩:=HS.out.slice;injection e2 with e2 e3 e4;subst e2 e4;have H3:Hid (M0 w3 (fun b=>w.heap.size<=b) ad0 l):=D_ (M0.kept h3 (fun b _ s=>c.block b s) (fun b hp _=>hp.1));have d:=D_ (Y.out.trans (RGo.of_below (r:=r) (v:=.slice none 0 0) c (N_ m.out.lt)));clear c h3;go_wp2_with fail;go_ret;rw [<-q.out];exact⟨ad0,cap0,rfl,h1,h2,H3.out,d.out.below,fun b s hr=>d.out.keep b s hr (by intro e;cases e)⟩
  · have w_:((j0 tk).kind==9)=false:=by simpa using c9
    rw [I_ c9]at a;cases hx:g6 true tk with
    |syn o=>
     rw [hx]at a D;dsimp only at a;have q:=D_ a;clear y x z i I a c9 B hx;generalize j0 tk=t1 at*;go_wp2_with fail;refine(H.out _ m.out).mono ?_;rintro e w3 ⟨rfl,c⟩;have A:=D_ (m.out.below c);have d:=D_ (Y.out.trans (RGo.of_below (r:=r) (v:=.slice none 0 0) c (N_ m.out.lt)));clear c;go_wp2_with fail;refine(D.out _ A.out (fun W' s=>M.out _ (d.out.below.trans s))).mono ?_;rintro e w4 ⟨rfl,N⟩;refine⟨rfl,?_⟩;rw [<-q.out];exact⟨rfl,d.out.below.trans N⟩
    |deep o=>
     rw [hx]at a D;dsimp only at a;have q:=D_ a;clear y x z i I a c9 B hx;generalize j0 tk=t1 at*;go_wp2_with fail;refine(H.out _ m.out).mono ?_;rintro e w3 ⟨rfl,c⟩;have A:=D_ (m.out.below c);have d:=D_ (Y.out.trans (RGo.of_below (r:=r) (v:=.slice none 0 0) c (N_ m.out.lt)));clear c;go_wp2_with fail;refine(D.out _ A.out (fun W' s=>M.out _ (d.out.below.trans s))).mono ?_;rintro e w4 ⟨rfl,N⟩;refine⟨rfl,?_⟩;rw [<-q.out];exact⟨rfl,d.out.below.trans N⟩
    | ok t2 ts2 ns2=>
     obtain⟨b1,b2,_,_⟩:=B.out _ _ _ hx;have k_:=D_ b1;rw [hx]at a D;dsimp only at a;have q:=D_ a;have htp:=t2.size_pos;clear y x z i I a c9 B hx b1;generalize j0 tk=t1 at*;go_wp2_with fail;refine(H.out _ m.out).mono ?_;rintro e w3 ⟨rfl,c⟩;have A:=D_ (m.out.below c);have J:=D_ (HS.out.go F (RGo.of_below (r:=r) (v:=.slice none 0 0) c (N_ m.out.lt)));have d:=D_ (Y.out.trans (RGo.of_below (r:=r) (v:=.slice none 0 0) c (N_ m.out.lt)));clear c;go_wp2_with fail;refine(D.out _ A.out (fun W' s=>M.out _ (d.out.below.trans s))).mono ?_;rintro e w4 ⟨v4,ad4,cap4,rfl,e_,C,h_⟩;have X:=J.out.go F C.rgo;obtain⟨xs,U,V⟩:=X.ex;have T:=X.ne;have O:=U.lt;have j_:=d.out.below.size;have v_:=D_ (fun k a=>fun e=>own_ne C.own (show k<w3.heap.size from((J.out.ex.choose_spec.1).lt k a).2) e);have R:=fun k a=>((J.out.ex.choose_spec.1).lt k a).2;have q_:=D_ e_;have m_:=D_ (d.out.trans C.rgo);have hs4s:=C.below.size;have t_:=D_ h_.bare;have i_:=D_ V;have r_:=D_ T;have a_:=D_ O;have o_:=D_ R;clear e_ C h_ X V T O R;unfold tmv;go_wp2_with (first
      |(at_builtin;refine wpList_append_lies _ rfl _ _ 24 rfl w.heap.size 26 i0 (.agg #[.int .i64 0,.string ⟨#[]⟩,.int .i64 0,.slice none 0 0]) 4 56 Tryz.underlying24 hi x_ y_ z_ rfl (by decide) _ _ _ rfl (U.alloc _) ⟨w4.heap.size,0,none⟩ 1 1 (D0 t2 ad4 cap4) rfl rfl ?c1 ?c2 (by decide) ?c3 ?c4 ?c5 _ rfl ?_))
     case c1=>
      intro j u g;match j,g with
      |0,g=>simp [D0]at g;subst g;simp [Addr.add]
      |1,g=>simp [D0]at g;subst g;simp [Addr.add]
      |2,g=>simp [D0]at g;subst g;simp [Addr.add]
      |3,g=>simp [D0]at g;subst g;simp [Addr.add]
     case c2=>intro u hu;simp [D0]at hu;rcases hu with rfl|rfl|rfl|rfl<;>rfl
     case c3=>unfold maxLen;omega
     case c4=>omega
     case c5=>simp;omega
     intro g5 cap5 w5 G p c_ hlt5;have f_:=(q_.out.below ((F_ _ w4).alloc (R_ _) (.cells #[.int .i64 t2.kind,.string t2.name,.int .i64 t2.n,.slice ad4 t2.args.length cap4] 26))).grown p (fun k a=>by have:=(a_.out k a).1;omega) (fun k a=>v_.out k a);have d_:=(m_.out.alloc F (.cells #[.int .i64 t2.kind,.string t2.name,.int .i64 t2.n,.slice ad4 t2.args.length cap4] 26)).grown p F (fun k a=>(a_.out k a).1);have g_:G2 w.heap.size w5 (.slice (some ⟨g5,0,none⟩) (l.length+1) cap5) (.slice none 0 0) (l++ [t2]):=by
      refine G2.snoc (B2:=w3.heap.size) j_ (fun k a=>r_.out k a) (fun k a=>by cases a) (fun k a=>o_.out k a) (i_.out.kept (fun b _ s=>A_ _ _ _ s) (fun b hp _=>hp)) (t_.out.below ((F_ _ w4).alloc (R_ _) _)) G p ?_;rcases c_ with e|e
      · exact .inl e.symm
      · exact .inr ⟨g5,rfl,by rw [Z_];omega⟩
     have b_:=D_ f_;have n_:=D_ d_;have s_:=D_ g_;clear f_ d_ g_ G p c_ U;go_wp2;go_roundw
     case rel=>exact⟨f',l++ [t2],ts2,ns2,v4,by omega,k_.out,by rw [P_,List.length_singleton];omega,q,b_.out,n_.out,s_.out⟩
     case measure=>
      rw [b_.out.tokLen,u_.out];omega
def PPost (P:Nat) (l:List Tm) (r:Nat) (W w':World):Prop:=
 ∃ad cap,l.length<=cap/\cap<=maxLen/\M0 w' (fun b=>r+1<=b) ad l/\w'.heap[P]?=some (.cells #[.slice ad l.length cap] 24 (0,0))/\(∀N,N<=P->N<=r->Below N W w')/\ ∀b,b<W.heap.size->b≠r->b≠P->w'.heap[b]?=W.heap[b]?
def P1Out (P r:Nat) (W:World) (x:Pr (List Tm)) (e:Ending) (w':World):Prop:=
 match x with
 | .bad o er=>e=endP o er/\Below r W w'
 | .ok l=>e=.returned (.tuple #[])/\PPost P l r W w'
theorem p1_fin {P r:Nat} {W w1:World} {x:Value} {l:List Tm} {ad:Option Addr} {cap:Nat} (m:P<r) (n:W.heap.size=r+1) (k:w1.heap[P]?=some (.cells #[x] 24 (0,0))) (c:l.length<=cap) (d:cap<=maxLen) (g:M0 w1 (fun b=>W.heap.size<=b) ad l) (h:Below r W w1) (j: ∀b,b<W.heap.size->b≠r->w1.heap[b]?=W.heap[b]?):
 PPost P l r W (w1.setCell ⟨P,0,none⟩ (.slice ad l.length cap)):=by
 refine⟨ad,cap,c,d,M0.kept g (fun b a _=>S_ _ _ _ _ (show b≠P by omega)) (fun b a _=>by omega),?_,fun N g1 g2=>(h.mono g2).setCell (p:=⟨P,0,none⟩) g1 _,fun b g1 g2 g3=>(S_ _ _ _ _ g3).trans (j b g1 g2)⟩;have:=H_ (i:=0) k (.slice ad l.length cap);simpa using this
set_option maxRecDepth 100000 in
theorem QJ (T:List Tok) (W:World) (r P:Nat) (x:Value) (u:T.length<=10000) (k:T0 T) (t:P<r) (v:W.heap.size=r+1)
 (m:W.heap[P]?=some (.cells #[x] 24 (0,0))) (h:A1 W r (.slice none 0 0) T []) (i: ∀W',Below r W W'->Tabs W'):
 Calls Tryz.prog 66 #[.pointer (some ⟨r,0,none⟩),.pointer (some ⟨P,0,none⟩)] W fun e w'=>P1Out P r W (Ux T) e w':=by
 have a:=D_ (rd_program T [] W r _ u k h i);have p:=D_ m;clear h i m k;cases hx:Ux T with
 |bad o er=>
  rw [hx]at a;clear hx;go_enter Tryz.func66,Tryz.ntmps66;go_wp2_with fail;refine a.out.mono ?_;rintro e w1 ⟨j,b⟩;rcases end_is o er with hE|hE<;>(rw [hE]at j;subst j;exact⟨rfl,hE.symm,b⟩)
 |ok l=>
  rw [hx]at a;clear hx;go_enter Tryz.func66,Tryz.ntmps66;go_wp2_with fail;refine a.out.mono ?_;rintro e w1 ⟨ad,cap,rfl,q,s,g,b,d⟩;have c:=D_ ((d P (by omega) (by omega)).trans p.out);have n:=D_ (p1_fin t v c.out q s g b d);obtain⟨k0,k1⟩:=Q2 c.out;clear g b d;go_wp2_with fail;go_end0;exact⟨rfl,n.out⟩
def aq (w:World):World:=w.alloc (.cells #[.slice none 0 0] 24)
theorem GX (w:World):(aq w).heap.size=w.heap.size+1:=by unfold aq;rw [Z_]
theorem rx (w:World):Below w.heap.size w (aq w):=(F_ _ w).alloc (R_ _) _
theorem wprg_at (w:World):(aq w).heap[w.heap.size]?=some (.cells #[.slice none 0 0] 24 (0,0)):=U0 w _
set_option maxRecDepth 100000 in
theorem I8 (s:ByteArray) (w:World) (p er:Int)
 (a:Calls Tryz.prog 65 #[.string s,.func (.func 66) #[] #[.pointer (some ⟨w.heap.size,0,none⟩)]] (aq w) fun e w'=>e=.returned (.tuple #[.int .i64 p,.int .i64 er])/\Below (aq w).heap.size (aq w) w'):
 Calls Tryz.prog 48 #[.string s] w fun e w'=>e=.returned (.tuple #[.slice none 0 0,.int .i64 p,.int .i64 er])/\Below w.heap.size w w':=by
 have i:=n9;have d:=D_ a;have h:=D_ (wprg_at w);have b:=D_ (rx w);clear a;unfold aq at d h b;go_enter Tryz.func48,Tryz.ntmps48;go_upto_region 2 with fail;generalize w.alloc (.cells #[.slice none 0 0] 24)=wq at*;go_wp2_with fail;refine d.out.mono ?_;rintro e w1 ⟨rfl,c⟩;obtain⟨k0,k1⟩:=Q2 (B0 c h.out);have g:=D_ (b.out.trans (c.mono b.out.size));clear c;go_wp2_with fail;refine B_ (v:=.tuple #[.slice none 0 0,.int .i64 p,.int .i64 er]) (by simp [results,Tryz.results48,go_sem]) rfl ⟨rfl,g.out⟩
def LX (w:World) (l:List Tm) (e:Ending) (w':World):Prop:=
 ∃ad cap,e=.returned (.tuple #[.slice ad l.length cap,.int .i64 0,.int .i64 0])/\l.length<=cap/\cap<=maxLen/\M0 w' (fun b=>w.heap.size<=b) ad l/\Below w.heap.size w w'
set_option maxRecDepth 100000 in
theorem program_ok (s:ByteArray) (w:World) (l:List Tm)
 (c:Calls Tryz.prog 65 #[.string s,.func (.func 66) #[] #[.pointer (some ⟨w.heap.size,0,none⟩)]] (aq w) fun e w'=>e=.returned (.tuple #[.int .i64 0,.int .i64 0])/\AttOk (aq w) (PPost w.heap.size l) w'):
 Calls Tryz.prog 48 #[.string s] w fun e w'=>LX w l e w':=by
 have A:=n9;have j:=D_ c;have m:=D_ (rx w);have k:=D_ (GX w);clear c;unfold aq at j m k;go_enter Tryz.func48,Tryz.ntmps48;go_upto_region 2 with fail;generalize w.alloc (.cells #[.slice none 0 0] 24)=wq at*;go_wp2_with fail;refine j.out.mono ?_;rintro e w1 ⟨rfl,r,W,wc,z,B,h,⟨ad,cap,u,x,n,o,d,g⟩,a⟩;rw [k.out]at z a;have k9: ∀b,b≠w.heap.size+1->b≠w.heap.size+1+1->w1.heap[b]?=wc.heap[b]?:=fun b g1 g2=>by
  rw [a,S_ _ _ _ _ (show b≠w.heap.size+1+1 from g2),S_ _ _ _ _ (show b≠w.heap.size+1 from g1)]
 have i:Below w.heap.size w w1:=by
  have q:w.heap.size<=wq.heap.size:=by rw [k.out];omega
  have hx:=(m.out.trans (h.mono q)).trans (d w.heap.size (R_ _) (by omega));rw [a];exact(hx.setCell (p:=⟨w.heap.size+1,0,none⟩) (show w.heap.size<=w.heap.size+1 by omega) _).setCell (p:=⟨w.heap.size+1+1,0,none⟩) (show w.heap.size<=w.heap.size+1+1 by omega) _
 have t:Hid (LX w l (.returned (.tuple #[.slice ad l.length cap,.int .i64 0,.int .i64 0])) w1):=D_ ⟨ad,cap,rfl,u,x,M0.kept n (fun b y _=>k9 b (by omega) (by omega)) (fun b y _=>by omega),i⟩;obtain⟨k0,k1⟩:=Q2 ((k9 w.heap.size (by omega) (by omega)).trans o);clear n o d g h a k9 i j;go_wp2_with fail;exact B_ (v:=.tuple #[.slice ad l.length cap,.int .i64 0,.int .i64 0]) (by simp [results,Tryz.results48,go_sem]) rfl t.out
def j7 (w:World) (x:Pr (List Tm)) (e:Ending) (w':World):Prop:=
 match x with
 | .bad o er=>e=.returned (.tuple #[.slice none 0 0,.int .i64 (o:Nat),.int .i64 er])/\Below w.heap.size w w'
 | .ok l=>LX w l e w'
theorem rX {T:List Tok} {f:Nat} {l:List Tm} {o:Nat} {er:Int} (h:A7 f l T=.bad o er):er=60\/er=3:=by
 induction f generalizing l T with
 |zero=>cases h
 |succ f ih=>
  unfold A7 at h;split at h
  · cases h
  split at h
  · injection h with h1 h2;exact .inl h2.symm
  · injection h with h1 h2;exact .inr h2.symm
  · exact ih h
theorem rd_Program (s:ByteArray) (w:World) (q:TabsT w):
 Calls Tryz.prog 48 #[.string s] w fun e w'=>j7 w (q9 s.data.toList) e w':=by
 have c:=q.on (rx w);unfold q9 H7;by_cases k:4096<s.data.toList.length
 · rw [J_ k];exact I8 s w 0 2 (att_no _ s (aq w) 0 2 (by decide) (fun W a=>cut_long k s rfl W (c.on a)))
 rw [I_ k];have g:s.data.toList.length<=4096:=by omega
 cases hc:C5 s.data.toList 0 false with
 |bad o=>exact I8 s w (o:Nat) 50 (att_no _ s (aq w) (o:Nat) 50 (by decide) (fun W a=>fJ g hc s rfl W (c.on a)))
 | good T=>
  have t:=Fx g hc;have u:T.length<=10000:=by have:=Bj hc;omega
  have n:=wprg_at w;have y:=GX w;have key: ∀W r,(aq w).heap.size+2<=r->W.heap.size=r+1->Below (aq w).heap.size (aq w) W->A1 W r (.slice none 0 0) T []->Calls Tryz.prog 66 (#[.pointer (some ⟨r,0,none⟩)]++ #[.pointer (some ⟨w.heap.size,0,none⟩)]) W fun e w'=>P1Out w.heap.size r W (Ux T) e w':=fun W r j h d i=>
   QJ T W r w.heap.size _ u t (by omega) h (B0 d n) i (fun W' a=>(c.on (d.trans (a.mono (by omega)))).1)
  show Calls Tryz.prog 48 #[.string s] w fun e w'=>j7 w (Ux T) e w'
  cases m:Ux T with
  |bad o er=>
   rw [m]at key;rcases rX m with rfl|rfl
   · exact I8 s w (o:Nat) 60 (att_misp _ Ej _ s (aq w) T o (fun W a=>QX g hc s rfl W (c.on a)) (fun W r j h d i=>key W r j h d i))
   · exact I8 s w (o:Nat) 3 (att_deep _ Ej _ s (aq w) T o (fun W a=>QX g hc s rfl W (c.on a)) (fun W r j h d i=>key W r j h d i))
  |ok l=>
   rw [m]at key;refine program_ok s w l (att_ok _ Ej _ s (aq w) T _ (fun W a=>QX g hc s rfl W (c.on a)) (fun W r j h d i=>(key W r j h d i).mono ?_));rintro e w' ⟨rfl,p⟩;exact⟨rfl,p,fun b v x=>p.choose_spec.choose_spec.2.2.2.2.2 b (by omega) (by omega) (by omega)⟩
set_option maxRecDepth 100000 in
theorem ref_SameAll (l m:List Tm) (ad bd:Option Addr) (ca cb:Nat) (w:World) (i:Tm.sizes l<=100000) (d:l.length<=ca) (hc:ca<=maxLen) (g:m.length<=cb) (c:cb<=maxLen) (h:E5 w ad l) (k:E5 w bd m):
 Calls Tryz.prog 19 #[.slice ad l.length ca,.slice bd m.length cb] w fun e w'=>e=.returned (.bool ((Tm.mk 0 ⟨#[]⟩ 0 l).same (Tm.mk 0 ⟨#[]⟩ 0 m)))/\Below w.heap.size w w':=by
 have a:=D_ (ZJ 100001 (.mk 0 ⟨#[]⟩ 0 l) (.mk 0 ⟨#[]⟩ 0 m) ad bd ca cb w (by rw [show(Tm.mk 0 ⟨#[]⟩ 0 l).size=1+Tm.sizes l from rfl];omega) (by rw [show(Tm.mk 0 ⟨#[]⟩ 0 l).size=1+Tm.sizes l from rfl];omega) ⟨D1 (x:=0) (by decide) (by decide),D1 (x:=0) (by decide) (by decide),(by decide:(⟨#[]⟩:ByteArray).size<=maxLen),d,hc,h⟩ ⟨D1 (x:=0) (by decide) (by decide),D1 (x:=0) (by decide) (by decide),(by decide:(⟨#[]⟩:ByteArray).size<=maxLen),g,c,k⟩);unfold tmv at a;clear h k;go_enter Tryz.func19,Tryz.ntmps19;go_wp2_with fail;refine a.out.mono ?_;rintro e w' ⟨rfl,b⟩;go_wp2_with fail;go_ret;exact⟨rfl,b⟩
theorem row1L {w:World} {A:Tm} {ad:Option Addr} {ca:Nat} (a:G6 w A ad ca) (C:Array Value) (c:C=(D0 A ad ca).toArray):E5 (w.alloc (.cells C 26)) (some ⟨w.heap.size,0,none⟩) [A]:=by
 subst c;have b:=a.args.on ((F_ _ w).alloc (R_ _) (.cells (D0 A ad ca).toArray 26));rw [A.eta];exact .cons _ _ _ _ _ _ _ ad ca (World.cell?_alloc_at _ _ _ _ rfl) (World.cell?_alloc_at _ _ _ _ rfl) (World.cell?_alloc_at _ _ _ _ rfl) (World.cell?_alloc_at _ _ _ _ rfl) a.kind a.n a.name a.len a.cap b (.nil _)
theorem row2L {w:World} {A B:Tm} {ad bd:Option Addr} {ca cb:Nat} (a:G6 w A ad ca) (b:G6 w B bd cb) (C:Array Value) (g:C=(D0 A ad ca++D0 B bd cb).toArray):E5 (w.alloc (.cells C 26)) (some ⟨w.heap.size,0,none⟩) [A,B]:=by
 subst g;have c:=a.args.on ((F_ _ w).alloc (R_ _) (.cells (D0 A ad ca++D0 B bd cb).toArray 26));have d:=b.args.on ((F_ _ w).alloc (R_ _) (.cells (D0 A ad ca++D0 B bd cb).toArray 26));rw [A.eta,B.eta];exact .cons _ _ _ _ _ _ _ ad ca (World.cell?_alloc_at _ _ _ _ rfl) (World.cell?_alloc_at _ _ _ _ rfl) (World.cell?_alloc_at _ _ _ _ rfl) (World.cell?_alloc_at _ _ _ _ rfl) a.kind a.n a.name a.len a.cap c
  (.cons _ _ _ _ _ _ _ bd cb (World.cell?_alloc_at _ _ _ _ rfl) (World.cell?_alloc_at _ _ _ _ rfl) (World.cell?_alloc_at _ _ _ _ rfl) (World.cell?_alloc_at _ _ _ _ rfl) b.kind b.n b.name b.len b.cap d (.nil _))
theorem leafI (w:World) {k n:Int} {s:ByteArray} (a:In64 k) (b:In64 n) (c:s.size<=maxLen):G6 w (.mk k s n []) none 0:=⟨a,b,c,R_ _,Nat.zero_le _,.nil _⟩
theorem atomI (w:World) (b:UInt8):G6 w (R1 [b]) none 0:=leafI w (D1 (by decide) (by decide)) (D1 (by decide) (by decide)) (by show 1<=maxLen;unfold maxLen;decide)
theorem compI {w:World} {s:List UInt8} {ad:Option Addr} {cap:Nat} {l:List Tm} (b:s.length<=10000) (a:l.length<=cap) (hc:cap<=maxLen) (h:E5 w ad l):G6 w (X0 s l) ad cap:=
 ⟨D1 (x:=4) (by decide) (by decide),D1 (x:=0) (by decide) (by decide),by show(⟨s.toArray⟩:ByteArray).size<=maxLen;rw [show(⟨s.toArray⟩:ByteArray).size=s.length from by show s.toArray.size=_;simp];unfold maxLen;omega,a,hc,h⟩
def lvL:List Tm:= [X0 [58,45] [R1 [97],X0 [44] [R1 [98],R1 [99]]]]
def lvQ:Tm:=X0 [61] [A8 0,fx (-1)]
def lvU:Tm:=X0 [61] [R1 [45],R1 [120]]
end Go.Proofs.YtinefdlkajnomaaGreatDoor
