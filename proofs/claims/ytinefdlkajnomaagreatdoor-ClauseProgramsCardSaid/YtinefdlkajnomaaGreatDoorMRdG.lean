import Derived.Test.YtinefdlkajnomaaGreatDoorMReadFD
import Derived.Test.YtinefdlkajnomaaGreatDoorMRdF
import Derived.StillTailTactics
import Derived.Deep.DeepCutAuto
import Derived.Deep.RegionHeld3
import Derived.Test.YtinefdlkajnomaaGreatDoorMRdT
import Derived.Test.YtinefdlkajnomaaGreatDoorMTokXC
namespace Go.Proofs.YtinefdlkajnomaaGreatDoor
open Go.RowKit
set_option maxHeartbeats 20000000
set_option linter.unusedSimpArgs false
attribute [-go_sem] sliced
theorem T7.put {B T r:Nat} {w0 w:World} {v0 v:Value} {t:Tm} {ad:Option Addr} {cap:Nat} {a b c d:Value} (y:RGo r v0 w0 v w) (z:r<T) (g:w0.heap.size<=T) (l:some T≠v.ownBlock)
 (x:w.heap[T]?=some (.cells #[a,b,c,d] 26 (0,0))) (hc:TmP w (fun b=>B<=b/\some b≠v.ownBlock/\b≠T) t ad cap) (W':World) (h:W'=(((w.setCell ⟨T,0,none⟩ (.int .i64 t.kind)).setCell ⟨T,1,none⟩ (.string t.name)).setCell ⟨T,2,none⟩ (.int .i64 t.n)).setCell ⟨T,3,none⟩ (.slice ad t.args.length cap)):
 RGo r v0 w0 v W'/\T7 B T W' v t ad cap/\(∀q,q≠T->W'.heap[q]?=w.heap[q]?)/\W'.heap.size=w.heap.size:=by
 have m: ∀q,q≠T->W'.heap[q]?=w.heap[q]?:=fun q j=>by
  rw [h,S_ _ _ _ _ (show q≠T from j),S_ _ _ _ _ (show q≠T from j),S_ _ _ _ _ (show q≠T from j),S_ _ _ _ _ (show q≠T from j)]
 refine⟨by rw [h];exact(((y.set g (by omega) _).set g (by omega) _).set g (by omega) _).set g (by omega) _,⟨?_,TmP.kept hc (fun b k _=>m b k.2.2) (fun _ k _=>k),l⟩,m,by rw [h];simp [World.setCell]⟩;have o:=H_ (i:=0) x (.int .i64 t.kind);have p:=H_ (i:=1) o (.string t.name);have s:=H_ (i:=2) p (.int .i64 t.n);have u:=H_ (i:=3) s (.slice ad t.args.length cap);rw [h,u];rfl
theorem Z0.keptOn {w w':World} {r:Nat} {v:Value} {ts:List Tok} {ns:Nms} {er at_:Int} (h:Z0 w r v ts ns er at_) (a: ∀b,b<=r\/v.ownBlock=some b->b<w.heap.size->w'.heap[b]?=w.heap[b]?):Z0 w' r v ts ns er at_:=by
 have d:=h.lt;obtain⟨g,k,cap,j,m,l,hc,n⟩:=h.ex;exact⟨⟨g,k,cap,j,(a r (.inl (R_ _)) d).trans m,l,hc,n.kept (fun c=>a g (.inl (by omega)) c)⟩,h.names.kept (fun b i c=>a b (.inr i) c)⟩
theorem Z0.put {w W':World} {r T:Nat} {v:Value} {ts:List Tok} {ns:Nms} {er at_:Int} (h:Z0 w r v ts ns er at_) (g:r<T) (c:some T≠v.ownBlock) (d: ∀q,q≠T->W'.heap[q]?=w.heap[q]?):Z0 W' r v ts ns er at_:=
 h.keptOn (fun b a _=>d b (fun e=>by rcases a with a|a;(· omega);(· exact c (by rw [a,e]))))
theorem FIs.good {α:Type} {a0:Int} {x:Rd α} {t:α} {ts:List Tok} {ns:Nms} {er at_:Int} (h:FIs a0 x t ts ns er at_) (a:er=0):x=.ok t ts ns/\at_=a0:=by
 cases x with
 |bad o=>have:=h.1;omega
 |ok t0 ts0 ns0=>obtain⟨rfl,rfl,rfl,_,rfl⟩:=h;exact⟨rfl,rfl⟩
theorem FIs.broken {α:Type} {a0:Int} {x:Rd α} {t:α} {ts:List Tok} {ns:Nms} {er at_:Int} (h:FIs a0 x t ts ns er at_) (b:er≠0): ∃o:Nat,x=.bad o/\er=60/\at_=(o:Nat):=by
 cases x with
 |bad o=>exact⟨o,rfl,h.1,h.2⟩
 |ok t0 ts0 ns0=>obtain⟨_,_,_,a,_⟩:=h;exact absurd a b
theorem Vx {w:World} {r:Nat} {v:Value} {ts:List Tok} {ns:Nms} {er at_ a0:Int} {y:Rd Tm} {t:Tm} (l:List UInt8) (x:ByteArray) (hx:x=⟨l.toArray⟩) (h:Z0 w r v ts ns er at_) (i:FIs a0 y t ts ns er at_) (c: ∀t' ts' ns',y=.ok t' ts' ns'->T0 ts'):
 Calls Tryz.prog 156 #[.pointer (some ⟨r,0,none⟩),.string x] w fun e w'=>e=.returned (.tuple #[])/\ ∃ts' er' at',Z0 w' r v ts' ns er' at'/\RGo r v w v w'/\FIs a0 (J1 l y) t ts' ns er' at':=by
 have j:=h.lt;by_cases b:er=0
 · obtain⟨rfl,rfl⟩:=i.good b;have c:=c _ _ _ rfl;subst b;have hc:J1 l (.ok t ts ns)=if(j0 ts).isP l=true then .ok t ts.tail ns else .bad (j0 ts).pos:=rfl;cases d:(j0 ts).isP l with
   |true=>
    rw [d]at hc;refine(rf_need w r v ts ns at_ l x hx h c d).mono ?_;rintro e w' ⟨rfl,a,g⟩;exact⟨rfl,ts.tail,0,at_,a,g,by rw [hc];exact⟨rfl,rfl,rfl,rfl,rfl⟩⟩
   |false=>
    rw [d]at hc;refine(rf_needs w r v ts ns at_ l x hx h c d).mono ?_;rintro e w' ⟨rfl,a,g⟩;exact⟨rfl,ts,60,_,a,g,by rw [hc];exact⟨rfl,rfl⟩⟩
 · obtain⟨o,rfl,rfl,rfl⟩:=i.broken b;refine(rf_needed w r v ts ns 60 _ x h b).mono ?_;rintro e w' ⟨rfl,a⟩;exact⟨rfl,ts,60,_,h.below a,RGo.of_below a (N_ j),⟨rfl,rfl⟩⟩
theorem fis_list {W:Rdr} {c:List UInt8} {a0:Int} {x:Rd (List Tm)} {l:List Tm} {t2:Tm} {ts:List Tok} {ns:Nms} {er at_:Int} (h:FIs a0 (J1 c (x.bind fun _ ts ns=>z8 W ts ns)) t2 ts ns er at_) (k: ∀l0 ts0 ns0,x=.ok l0 ts0 ns0->l=l0):
 FIs a0 (J1 c (x.bind fun l ts ns=>(z8 W ts ns).bind fun e ts ns=>.ok (G5 l e) ts ns)) (G5 l t2) ts ns er at_:=by
 cases x with
 |bad o=>exact h
 | ok l0 ts0 ns0=>
  obtain rfl:=k _ _ _ rfl;rw [Rd.bind_ok]at h⊢;cases b:z8 W ts0 ns0 with
  |bad o=>rw [b]at h;exact h
  |ok e ts1 ns1=>
   rw [b]at h;rw [Rd.bind_ok];unfold J1 at h⊢;rw [Rd.bind_ok]at h⊢;split at h
   · rename_i a
     rw [J_ a];obtain⟨rfl,d,g,i,j⟩:=h;exact⟨rfl,d,g,i,j⟩
   · rename_i a
     rw [I_ a];exact h
theorem mX {W:Rdr} {m:Nat} (b:R2 W m): ∀(f:Nat) (l:List Tm) (ts:List Tok) (ns:Nms),ts.length<=m->T0 ts->ns.length<=200->l.length+ts.length<=4097->t7 W 1000000 f l ts ns=t7 W 4096 f l ts ns
 |0,_,_,_,_,_,_,_=>rfl
 | f +1,l,ts,ns,hm,hf,hn,hl=>by
  rw [nz,nz];split
  · rename_i c
    obtain⟨a,d⟩:=hf.tail (by rw [(U2 c).1];decide);have g:=a.pos;unfold M9;rw [I_ (by omega),I_ (by omega)];cases hx:W 999 ts.tail ns with
    |bad o=>rfl
    |ok t ts1 ns1=>
     obtain⟨a1,a2,a3⟩:=b _ _ _ _ _ _ (by omega) a hn hx;have:=t.size_pos;rw [Rd.bind_ok,Rd.bind_ok];exact mX b f _ _ _ (by omega) a1 a3 (by rw [P_,List.length_singleton];omega)
  · rfl
theorem manyR_most {W:Rdr} {m:Nat} (a:R2 W m) (ts:List Tok) (ns:Nms) (c:ts.length<=m) (b:T0 ts) (d:ns.length<=200) (g:ts.length<=4097):Y3 W 1000000 ts ns=Y3 W 4096 ts ns:=by
 unfold Y3;cases hx:W 999 ts ns with
 |bad o=>rfl
 |ok t ts1 ns1=>
  obtain⟨a1,a2,a3⟩:=a _ _ _ _ _ _ c b d hx;have:=t.size_pos;rw [Rd.bind_ok,Rd.bind_ok];exact mX a _ _ _ _ (by omega) a1 a3 (by rw [List.length_singleton];omega)
theorem consT_at (l:List Tm) (e:Tm) (k:Nat) (h:k<l.length):G5 (l.drop k) e=X0 [46] [l[k],G5 (l.drop (k+1)) e]:=by
 rw [List.drop_eq_getElem_cons h];rfl
set_option maxRecDepth 100000 in
theorem rf_list {m:Nat} {W:Rdr} (hW:R2 W m) (hC:N6 m W) (hM:m<=4097) (ts:List Tok) (ns:Nms) (w:World) (r:Nat) (v:Value) (at_:Int) (hm:ts.length<=m) (hf:T0 ts) (hn:ns.length<=200) (h:Z0 w r v ts ns 0 at_):
 Calls Tryz.prog 157 #[.pointer (some ⟨r,0,none⟩)] w fun e w'=>I7 r v w at_ (J1 [93] (Vq W ts ns)) e w':=by
 have hlt:=h.lt;have M:=h.new_ne (R_ _);have HB:=D_ (fun o:Obj=>(F_ w.heap.size w).alloc (R_ _) o);have HC:Hid (∀W',Below w.heap.size w W'->Calls Tryz.prog 159 #[.pointer (some ⟨r,0,none⟩),.int .i64 1000000] W' fun e w'=>FList r v W' at_ (Y3 W 1000000 ts ns) e w'):=D_ (fun W' (c:Below w.heap.size w W')=>rf_many hW hC (by omega) 1000000 (by decide) ts ns W' r v at_ hm hf hn (h.below c));have HQ:=D_ (U0 w (.cells #[.int .i64 0,.string ⟨#[]⟩,.int .i64 0,.slice none 0 0] 26));have hmm:=manyR_most hW ts ns hm hf hn (by omega);have p_: ∀l0 ts0 ns0,Y3 W 1000000 ts ns=.ok l0 ts0 ns0->T0 ts0/\ts0.length<=ts.length/\ns0.length<=200:=fun l0 ts0 ns0 hx=>by
  obtain⟨⟨f1,_,f3⟩,f4,_,_⟩:=D4 hW (by decide) hm hf hn hx;exact⟨f1,by omega,f3⟩
 obtain⟨X,hX⟩: ∃X,Y3 W 1000000 ts ns=X:=⟨_,rfl⟩;obtain⟨E,hE⟩: ∃E,J1 [93] (Vq W ts ns)=E:=⟨_,rfl⟩;rw [hE];have HE:Hid (E=J1 [93] (X.bind fun l ts ns=>(z8 W ts ns).bind fun e ts ns=>.ok (G5 l e) ts ns)):=D_ (by rw [<-hE,<-hX,hmm];rfl);rw [hX]at HC p_;have R:=D_ p_;have x_:=D_ hC;have HWW:=D_ hW;clear h hf hC hW hE hX hmm p_;go_enter Tryz.func157,Tryz.ntmps157;go_wp2_with fail;refine(HC.out _ (HB.out _)).mono ?_;rintro e w2 ⟨l,ts1,ns1,er1,at1,v2,ad,cap,rfl,g1,g2,hm2,G,ha2,hi2⟩;have z_:=D_ ((RGo.of_below (r:=r) (v:=v) (HB.out (.cells #[.int .i64 0,.string ⟨#[]⟩,.int .i64 0,.slice none 0 0] 26)) (N_ hlt)).trans G);have HR2:=D_ (G.at HQ.out M.1 M.2);have b_:=G.ne (b:=w.heap.size) (by simp) M.2;have hs2:=G.below.size;rw [Z_]at hs2;have h_:=D_ hm2;have p:=D_ hi2;have r_:=D_ (ha2.kept (w':=w2) (Q:=fun b=>w.heap.size+1<=b/\some b≠v2.ownBlock/\b<w2.heap.size) (fun _ _ _=>rfl) (fun b a c=>⟨by have h:=a.1;simpa using h,a.2,c⟩));clear hm2 G ha2 hi2 HC;go_wp2_with fail;refine(m8 _ _).mono ?_;rintro e w3 ⟨rfl,Z⟩;go_upto_region 3 with fail;have hs3:=Z.size;have C:Below w2.heap.size w2 (w3.alloc (.cells #[.int .i64 2,.string ⟨#[91,93]⟩,.int .i64 0,.slice none 0 0] 26)):=Z.alloc hs3 _;have J:=(h_.out.below Z).new_ne (b:=w3.heap.size) (R_ _);have l_:Hid (T7 (w.heap.size+1) w3.heap.size (w3.alloc (.cells #[.int .i64 2,.string ⟨#[91,93]⟩,.int .i64 0,.slice none 0 0] 26)) v2 (R1 [91,93]) none 0):=D_ ⟨U0 _ _,⟨D1 (x:=2) (by decide) (by decide),D1 (x:=0) (by decide) (by decide),by unfold maxLen;decide,R_ _,Nat.zero_le _,.nil _⟩,J.2⟩;have hs4:(w3.alloc (.cells #[.int .i64 2,.string ⟨#[91,93]⟩,.int .i64 0,.slice none 0 0] 26)).heap.size=w3.heap.size+1:=by simp
 generalize w3.alloc (.cells #[.int .i64 2,.string ⟨#[91,93]⟩,.int .i64 0,.slice none 0 0] 26)=w4 at*;have q:=D_ (h_.out.below C);have f_:=D_ (z_.out.trans (RGo.of_below (r:=r) (v:=v2) C (by omega)));have j_:=D_ (B0 C HR2.out);have c_:=D_ (r_.out.kept (w':=w4) (Q:=fun b=>w.heap.size+1<=b/\some b≠v2.ownBlock/\b<w3.heap.size) (fun b a c=>C.block b c) (fun b a _=>⟨a.1,a.2.1,by omega⟩));have hT1:w.heap.size+1<=w3.heap.size:=by omega
 have hT2:w3.heap.size<w4.heap.size:=by omega
 have m_:w3.heap.size≠r:=J.1;have a_:r<w3.heap.size:=by omega
 clear Z C h_ z_ HR2 r_ hs4 hs3 hs2 J HQ HB;generalize w3.heap.size=T at*;go_cut [15] (fun s15 wx=> ∃b,s15=.bool b/\Hid (b=((er1==0)&&(j0 ts1).isP [124]))/\Hid (Below w4.heap.size w4 wx))
 case first=>
  cases i:(er1==0)with
  |false=>
   have hG:=D_ (X3 w4 r v2 ts1 ns1 er1 at1 q.out);rw [i]at hG;have e_:=D_ i;clear i;go_wp2_with fail;refine hG.out.mono ?_;rintro e w5 ⟨rfl,D⟩;have z:=D_ D;clear D;go_wp2_with fail;go_meet;exact⟨false,rfl,D_ (by rw [e_.out];rfl),z⟩
  |true=>
   have hG:=D_ (X3 w4 r v2 ts1 ns1 er1 at1 q.out);rw [i]at hG;have F:er1=0:=by simpa using i
   obtain⟨y,_⟩:=p.out.good F;have hfp:=(R.out _ _ _ y).1.pos;have HP:=D_ (fun W=>M5 (j0 ts1) [124] W);have HN:=D_ (fun W c=>F4 W r v2 ts1 ns1 er1 at1 (q.out.below c) hfp);have e_:=D_ i;clear y F i;generalize Y1 (j0 ts1)=tv at*;generalize (j0 ts1).isP [124]=b at*;go_wp2_with fail;refine hG.out.mono ?_;rintro e w5 ⟨rfl,D⟩;have z:=D_ D;clear D;go_wp2_with fail;refine(HN.out _ z.out).mono ?_;rintro e w6 ⟨rfl,hb6⟩;have v_:=D_ (z.out.trans (hb6.mono z.out.size));clear hb6;go_wp2_with fail;refine(HP.out _).mono ?_;rintro e w7 ⟨rfl,hb7⟩;have HB7:=D_ (v_.out.trans (hb7.mono v_.out.size));clear hb7;go_wp2_with fail;go_meet;exact⟨b,rfl,D_ (by rw [e_.out];rfl),HB7⟩
 case rest=>
  obtain⟨b,rfl,O,g⟩:=hcut;go_upto_if 15 with fail;have hsc:=g.out.size;go_cut [] (fun wx=> ∃t2 ts2 ns2 er2 at2 v3 ad2 cap2,Hid (Z0 wx r v3 ts2 ns2 er2 at2)/\Hid (RGo r v w v3 wx)/\Hid (T7 (w.heap.size+1) T wx v3 t2 ad2 cap2)/\Hid (M0 wx (fun b=>w.heap.size+1<=b/\some b≠v3.ownBlock/\b<T) ad l)/\Hid (wx.heap[w.heap.size]?=some (.cells #[.int .i64 0,.string ⟨#[]⟩,.int .i64 0,.slice none 0 0] 26 (0,0)))/\Hid (some w.heap.size≠v3.ownBlock)/\Hid (FIs at_ (X.bind fun _ ts ns=>z8 W ts ns) t2 ts2 ns2 er2 at2)/\w4.heap.size<=wx.heap.size)
  case first=>
   have HMc:=D_ (q.out.below g.out);have HGc:=D_ (f_.out.trans (RGo.of_below (r:=r) (v:=v2) g.out (by omega)));have HRc:=D_ (B0 g.out j_.out);have HWc:=D_ (l_.out.below g.out);have t_:=D_ (c_.out.kept (w':=wc) (Q:=fun b=>w.heap.size+1<=b/\some b≠v2.ownBlock/\b<T) (fun b _ c=>g.out.block b c) (fun _ a _=>a));clear q f_ j_ l_ c_ g;cases b with
   |false=>
    go_wp2_with fail;go_meet;refine⟨_,_,_,_,_,_,_,_,HMc,HGc,HWc,t_,HRc,D_ b_,D_ ?_,hsc⟩;by_cases i:er1=0
    · obtain⟨rfl,rfl⟩:=p.out.good i;have c:=O.out;rw [i]at c;have a:(j0 ts1).isP [124]=false:=by simpa using c.symm
      rw [Rd.bind_ok];unfold z8;rw [a];exact⟨rfl,rfl,rfl,i,rfl⟩
    · obtain⟨o,rfl,h1,h2⟩:=p.out.broken i;exact⟨h1,h2⟩
   |true=>
    have c:=O.out;have Y:=Bool.and_eq_true_iff.1 c.symm;have F:er1=0:=by simpa using Y.1
    obtain⟨y,rfl⟩:=p.out.good F;subst F;obtain⟨f1,f2,f3⟩:=R.out _ _ _ y;obtain⟨f7,f8⟩:=f1.tail (by rw [(U2 Y.2).1];decide);have h2l:2<=ts1.length:=by have:=f7.pos;omega
    have HT:=D_ (fun W' v' hm'=>x_.out 999 ts1.tail ns1 W' r v' at1 (by omega) f7 f3 hm');have HX:Hid ((X.bind fun _ ts ns=>z8 W ts ns)=W 999 ts1.tail ns1):=D_ (by rw [y,Rd.bind_ok];unfold z8;rw [Y.2];rfl);clear c Y y f1 f7 O p;go_wp2_with fail;refine(G3 wc r v2 ts1 ns1 at1 HMc.out h2l).mono ?_;rintro e w5 ⟨rfl,hm5,s⟩;have HM5:=D_ hm5;have HG5:=D_ (HGc.out.trans s);have U:=D_ (HWc.out.go (by omega) m_ s);have HR5:=D_ (s.at HRc.out (by omega) b_);have HA5:=D_ (t_.out.kept (w':=w5) (Q:=fun b=>w.heap.size+1<=b/\some b≠v2.ownBlock/\b<T) (fun b a c=>s.keep b c (by omega) a.2.1) (fun _ a _=>a));have hs5:=s.below.size;clear hm5 s;go_wp2_with fail;refine(HT.out _ _ HM5.out).mono ?_;rintro e w6 ⟨t2,ts2,ns2,er2,at2,v3,ad2,cap2,rfl,hm6,d,ht6,hi6⟩;have hv3:=d.ne (b:=w.heap.size) (Array.getElem?_eq_some_iff.1 HR5.out).1 b_;have n_:=d.ne (b:=T) (Array.getElem?_eq_some_iff.1 U.out.cells).1 U.out.own;have HM6:=D_ hm6;have HG6:=D_ (HG5.out.trans d);have w_:=D_ (d.at U.out.cells m_ U.out.own);have HR6:=D_ (d.at HR5.out (by omega) b_);have HA6:=D_ (HA5.out.kept (w':=w6) (Q:=fun b=>w.heap.size+1<=b/\some b≠v3.ownBlock/\b<T) (fun b a c=>d.keep b c (by omega) a.2.1) (fun b a c=>⟨a.1,d.ne c a.2.1,a.2.2⟩));have HT6:=D_ (TmP.kept ht6 (Q:=fun b=>w.heap.size+1<=b/\some b≠v3.ownBlock/\b≠T) (fun _ _ _=>rfl) (fun b a _=>⟨by have:=a.1;omega,a.2,by have:=a.1;omega⟩));have HI6:=D_ hi6;have hs6:=d.below.size;obtain⟨c0,c1,c2,c3,z0,z1,z2,z3⟩:=A0 w_.out;clear hm6 d ht6 hi6 HT;unfold tmv;go_wp2_with fail;go_meet;obtain⟨p1,p2,p3,p4⟩:=T7.put HG6.out a_ (by omega) n_ w_.out HT6.out _ rfl;refine⟨t2,ts2,ns2,er2,at2,v3,ad2,cap2,D_ (HM6.out.put a_ n_ p3),D_ p1,D_ p2,D_ (HA6.out.kept (fun b a _=>p3 b (by omega)) (fun _ a _=>a)),D_ ((p3 _ (by omega)).trans HR6.out),D_ hv3,D_ (by rw [HX.out];exact HI6.out),by omega⟩
  case rest=>
   obtain⟨t2,ts2,ns2,er2,at2,v3,ad2,cap2,HMd,HGd,HWd,u_,HRd,HVd,HId,hsd⟩:=hcut;clear q f_ j_ l_ c_ g O;have y_:Hid (∀t' ts' ns',(X.bind fun _ ts ns=>z8 W ts ns)=.ok t' ts' ns'->T0 ts'):=D_ (fun t' ts' ns' hy=>by
    obtain⟨l0,ts0,ns0,hx,hy⟩:=Rd.bind_is hy;obtain⟨f1,f2,f3⟩:=R.out _ _ _ hx;unfold z8 at hy;split at hy
    · rename_i a
      obtain⟨f7,f8⟩:=f1.tail (by rw [(U2 a).1];decide);exact(HWW.out _ _ _ _ _ _ (by omega) f7 f3 hy).fine
    · injection hy with _ h2 _;subst h2;exact f1)
   have HLX:Hid (∀l0 ts0 ns0,X=.ok l0 ts0 ns0->l=l0):=D_ (fun l0 ts0 ns0 hx=>by
    have h9:=p.out;rw [hx]at h9;exact h9.1)
   go_wp2_with fail;refine(Vx [93] ⟨#[93]⟩ rfl HMd.out HId.out y_.out).mono ?_;rintro e w7 ⟨rfl,ts3,er3,at3,hm7,u,hi7⟩;have HI7:Hid (FIs at_ E (G5 l t2) ts3 ns2 er3 at3):=D_ (by rw [HE.out];exact fis_list hi7 HLX.out);have HM7:=D_ hm7;have HG7:=D_ (HGd.out.trans u);have HW7:=D_ (HWd.out.go (by omega) m_ u);have HR7:=D_ (u.at HRd.out (by omega) HVd.out);have s_:=D_ (u_.out.kept (w':=w7) (Q:=fun b=>w.heap.size+1<=b/\some b≠v3.ownBlock/\b<T) (fun b a c=>u.keep b c (by omega) a.2.1) (fun _ a _=>a));have hs7:=u.below.size;have hlc:(l.length:Int)<=9223372036854775807:=by unfold maxLen at g2;omega
   clear hm7 u hi7 HMd HGd HWd HRd u_ HId y_ HLX R x_ HWW HE p;go_wp2_with fail;go_loopw [5] (fun iv wr=> ∃(k:Nat) (ad3:Option Addr) (cap3:Nat),k<=l.length/\iv=.int .i64 ((k:Int)-1)/\Hid (Z0 wr r v3 ts3 ns2 er3 at3)/\Hid (RGo r v w v3 wr)/\Hid (T7 (w.heap.size+1) T wr v3 (G5 (l.drop k) t2) ad3 cap3)/\Hid (M0 wr (fun b=>w.heap.size+1<=b/\some b≠v3.ownBlock/\b<T) ad l)/\Hid (wr.heap[w.heap.size]?=some (.cells #[.int .i64 0,.string ⟨#[]⟩,.int .i64 0,.slice none 0 0] 26 (0,0)))/\w4.heap.size<=wr.heap.size) (fun iv _=>(intOf iv+1).toNat)
   case atStart=>exact⟨l.length,ad2,cap2,R_ _,rfl,HM7,HG7,by rw [List.drop_length];exact HW7,s_,HR7,by omega⟩
   case round=>
    obtain⟨k,ad3,cap3,hk,rfl,i_,g_,A,N,k_,hs8⟩:=hrel;clear HM7 HG7 HW7 s_ HR7;obtain⟨c0,c1,c2,c3,z0,z1,z2,z3⟩:=A0 A.out.cells;obtain⟨d0,d1,d2,d3,e0,e1,e2,e3⟩:=A0 k_.out;cases k with
    |zero=>
     have hEK:Hid (l.drop 0=l):=D_ rfl;rw [hEK.out]at c0 c1 c2 c3 A;generalize G5 l t2=ek at*;go_wp2_with fail;refine B_ (v:=tmv ek ad3 cap3) (by simp [results,Tryz.results157,go_sem,d0,d1,d2,d3,tmv]) rfl ?_;exact I7.fin (x:=E) (a0:=at_) (t:=ek) (B:=w.heap.size+1) rfl i_.out g_.out (TmP.kept A.out.tm (fun _ _ _=>rfl) (fun b a _=>⟨a.1,a.2.1⟩)) HI7.out hlt (R_ _) (Nat.lt_succ_self _) HVd.out _ _ _ _
    |succ k=>
     obtain⟨gb,ob,rfl⟩:=N.out.addr2 (by omega);obtain⟨tad,tcap,xp,x0,x1,x2,x3,hx⟩:=N.out.getP k (by omega);have HST:=D_ (consT_at l t2 k (by omega));have hkk:(((k+1:Nat):Int)-1)=(k:Int):=by omega
     have hk1:(k:Int)<(l.length:Int):=by omega
     have hk2:(0:Int)<=(k:Int):=by omega
     have HX:=D_ hx;have hgT:gb≠T:=by have:=xp.2.2;omega
     generalize l[k]'(by omega)=x at*;generalize G5 (l.drop (k+1)) t2=ek at*;clear hx d0 d1 d2 d3 e0 e1 e2 e3;rw [hkk];clear hkk;go_wp2_with fail;go_still_tail 5,(by kernel_rfl)
     change wpList _ _ _ _ _ wr.drew;have hbd:Below wr.heap.size wr wr.drew:=(F_ _ wr).drew;have q_:wr.drew.heap.size=wr.heap.size:=rfl;have HSD:=D_ q_;have n:=D_ hbd;clear q_ hbd c0 c1 c2 c3 z0 z1 z2 z3 x0 x1 x2 x3;generalize wr.drew=wd at*;have HM9:=D_ (i_.out.below n.out);have HG9:=D_ (g_.out.trans (RGo.of_below (r:=r) (v:=v3) n.out (by omega)));have V:=D_ (A.out.below n.out);have HR9:=D_ (B0 n.out k_.out);have HA9:=D_ (N.out.kept (w':=wd) (Q:=fun b=>w.heap.size+1<=b/\some b≠v3.ownBlock/\b<T) (fun b _ c=>n.out.block b c) (fun _ a _=>a));have HX9:=D_ (TmP.kept HX.out (w':=wd) (Q:=fun b=>w.heap.size+1<=b/\some b≠v3.ownBlock/\b≠T) (fun b _ c=>n.out.block b c) (fun b a _=>⟨a.1,a.2.1,by omega⟩));have hs9:w4.heap.size<=wd.heap.size:=by rw [HSD.out];exact hs8
     have o_:=fun k hk=>(HM9.out.names.lt k hk).2;have HTA:=D_ (Yq (P:=fun b=>w.heap.size+1<=b/\some b≠v3.ownBlock/\b≠T) ⟨by omega,fun e=>by have:=o_ _ e.symm;omega,by omega⟩ HX9.out V.out.tm);clear i_ g_ A k_ N HX o_ n HSD;go_wp2_with fail;refine(j6 _ _ _ _ _).mono ?_;rintro e w10 ⟨rfl,H⟩;have hba:=(F_ wd.heap.size wd).alloc (R_ _) (.cells (D0 x tad tcap++D0 ek ad3 cap3).toArray 26);have I:Below wd.heap.size wd w10:=hba.trans (H.mono (by simp));have j:=D_ I;have d_:=D_ (V.out.below I).cells;obtain⟨c0,c1,c2,c3,z0,z1,z2,z3⟩:=A0 d_.out;have HTB:=D_ (M0.kept HTA.out (w':=w10) (Q:=fun b=>w.heap.size+1<=b/\some b≠v3.ownBlock/\b≠T) (fun b _ c=>H.block b c) (fun _ a _=>a));clear hba H I HTA;go_wp2_with fail;obtain⟨p1,p2,p3,p4⟩:=T7.put (t:=X0 [46] [x,ek]) (HG9.out.trans (RGo.of_below (r:=r) (v:=v3) j.out (by omega))) a_ (by omega) V.out.own d_.out (bJ (by decide) (R_ 2) (by unfold maxLen;decide) HTB.out) _ rfl;have hs11:=j.out.size;go_roundw
     case rel=>exact⟨k,_,_,by omega,rfl,D_ ((HM9.out.below j.out).put a_ V.out.own p3),D_ p1,D_ (by rw [HST.out];exact p2),D_ (HA9.out.kept (fun b a c=>(p3 b (by omega)).trans (j.out.block b c)) (fun _ a _=>a)),D_ ((p3 _ (by omega)).trans (B0 j.out HR9.out)),Nat.le_trans (m:=w10.heap.size) (by omega) (Nat.le_of_eq p4.symm)⟩
     case measure=>simp [intOf]
theorem o8 {w:World} {r:Nat} {v:Value} {ts:List Tok} {ns:Nms} {er at_:Int} (h:Z0 w r v ts ns er at_) (O:Obj):
 ∃w0,w0=(w.alloc O).alloc (.cells #[.int .i64 0,.string ⟨#[]⟩,.int .i64 0,.slice none 0 0] 26)/\Below w.heap.size w w0/\w0.heap.size=w.heap.size+2/\w0.heap[w.heap.size]?=some O/\w0.heap[w.heap.size+1]?=some (.cells #[.int .i64 0,.string ⟨#[]⟩,.int .i64 0,.slice none 0 0] 26 (0,0))/\Z0 w0 r v ts ns er at_/\RGo r v w v w0/\w.heap.size+1≠r/\some (w.heap.size+1)≠v.ownBlock:=by
 have c:=h.lt;have a:Below w.heap.size w ((w.alloc O).alloc (.cells #[.int .i64 0,.string ⟨#[]⟩,.int .i64 0,.slice none 0 0] 26)):=((F_ w.heap.size w).alloc (R_ _) _).alloc (by simp) _;have d:=h.new_ne (b:=w.heap.size+1) (by omega);refine⟨_,rfl,a,by simp,N0 (U0 w O) _,?_,h.below a,RGo.of_below a (N_ c),d.1,d.2⟩;have:=U0 (w.alloc O) (.cells #[.int .i64 0,.string ⟨#[]⟩,.int .i64 0,.slice none 0 0] 26);rwa [Z_]at this
set_option maxRecDepth 100000 in
theorem rf_round {m:Nat} {W:Rdr} (hW:R2 W m) (hC:N6 m W) (ts:List Tok) (ns:Nms) (w:World) (r:Nat) (v:Value) (at_:Int) (hm:ts.length<=m+1) (hf:T0 ts) (hn:ns.length<=200) (h:Z0 w r v ts ns 0 at_) (hk:(j0 ts).kind≠9) (ht:(j0 ts).text= [40]):
 Calls Tryz.prog 128 #[.pointer (some ⟨r,0,none⟩),Y1 (j0 ts)] w fun e w'=>I7 r v w at_ (J1 [41] (W 1200 ts.tail ns)) e w':=by
 have l_:=h.lt;obtain⟨f1,f2⟩:=hf.tail hk;have j_:2<=ts.length:=by have:=f1.pos;omega
 have HT:=D_ (fun W' v' m_=>hC 1200 ts.tail ns W' r v' at_ (by omega) f1 hn m_);have R:Hid (∀t' ts' ns',W 1200 ts.tail ns=.ok t' ts' ns'->T0 ts'):=D_ (fun t' ts' ns' hy=>(hW _ _ _ _ _ _ (by omega) f1 hn hy).fine);have n_:((⟨(j0 ts).text.toArray⟩:ByteArray).toList== [40])=true:=by rw [O1,ht];rfl
 unfold Y1;clear hf f1 ht hC hW hk;generalize (⟨(j0 ts).text.toArray⟩:ByteArray)=u at*;generalize (j0 ts).kind=a at*;generalize (j0 ts).n=n at*;generalize (j0 ts).pos=po at*;obtain⟨w0,M,k_,o_,H,I,C,y,k,l⟩:=o8 h (.cells #[.int .i64 a,.string u,.int .i64 n,.int .i64 (po:Nat)] 96);obtain⟨_,o1,_⟩:=A0 H;have a_:=D_ C;have T:=D_ y;have e_:=D_ I;obtain⟨E,N⟩: ∃E,J1 [41] (W 1200 ts.tail ns)=E:=⟨_,rfl⟩;have HE:=D_ N;rw [N];clear h C y I k_ H N;go_enter Tryz.func128,Tryz.ntmps128;go_upto_region 1 with fail;rw [<-M];clear M;go_wp2_with fail;refine(G3 w0 r v ts ns at_ a_.out j_).mono ?_;rintro e w1 ⟨rfl,D,g⟩;have b_:=D_ D;have U:=D_ (T.out.trans g);have f_:=D_ (g.at e_.out k l);have p_:=g.below.size;clear D g o1;go_wp2_with fail;refine(HT.out _ _ b_.out).mono ?_;rintro e w2 ⟨t2,ts2,ns2,er2,at2,v2,ad2,cap2,rfl,F,d,J,z⟩;have i:=D_ F;have V:=D_ (U.out.trans d);have g_:=D_ (d.at f_.out k l);have p:=D_ (d.ne (b:=w.heap.size+1) (by omega) l);have h_:=D_ J;have Y:=D_ z;have q_:=d.below.size;clear F d J z HT;unfold tmv;go_upto_region 4 with fail;have s:Below w2.heap.size w2 (w2.alloc (.cells #[.int .i64 t2.kind,.string t2.name,.int .i64 t2.n,.slice ad2 t2.args.length cap2] 26)):=(F_ _ _).alloc (R_ _) _;have d_:=D_ (U0 w2 (.cells #[.int .i64 t2.kind,.string t2.name,.int .i64 t2.n,.slice ad2 t2.args.length cap2] 26));generalize w2.alloc (.cells #[.int .i64 t2.kind,.string t2.name,.int .i64 t2.n,.slice ad2 t2.args.length cap2] 26)=w3 at*;have o:=D_ s;clear s;have O:=i.out.lt;have q:=D_ (i.out.new_ne (R_ w2.heap.size));go_wp2_with fail;refine(Vx [41] ⟨#[41]⟩ rfl (i.out.below o.out) Y.out R.out).mono ?_;rintro e w4 ⟨rfl,ts4,er4,at4,G,j,A⟩;have c_:=D_ G;have c:=(RGo.of_below (r:=r) (v:=v2) o.out (N_ O)).trans j;have X:=D_ (V.out.trans c);have i_:=D_ (h_.out.go (by omega) c);have Z:=D_ A;obtain⟨c0,c1,c2,c3,_⟩:=A0 (j.at d_.out q.out.1 q.out.2);obtain⟨d0,d1,d2,d3,e0,e1,e2,e3⟩:=A0 (c.at g_.out k p.out);clear G j c A;go_wp2_with fail;refine B_ (v:=tmv t2 ad2 cap2) (by simp [results,Tryz.results128,go_sem,d0,d1,d2,d3,tmv]) rfl ?_;exact I7.fin (x:=E) (a0:=at_) (t:=t2) (B:=w1.heap.size) rfl c_.out X.out i_.out (by rw [<-HE.out];exact Z.out) l_ (by omega) (by omega) p.out _ _ _ _
theorem fis_map {c:List UInt8} {a0:Int} {x:Rd Tm} {f:Tm->Tm} {t:Tm} {ts:List Tok} {ns:Nms} {er at_:Int} (h:FIs a0 (J1 c x) t ts ns er at_):FIs a0 (J1 c (x.bind fun t ts ns=>.ok (f t) ts ns)) (f t) ts ns er at_:=by
 cases x with
 |bad o=>exact h
 |ok t0 ts0 ns0=>
  unfold J1 at h⊢;rw [Rd.bind_ok]at h⊢;rw [Rd.bind_ok];split at h
  · rename_i a
    rw [J_ a];obtain⟨rfl,b,d,g,i⟩:=h;exact⟨rfl,b,d,g,i⟩
  · rename_i a
    rw [I_ a];exact h
theorem Z0.ltv {w:World} {r:Nat} {v:Value} {ts:List Tok} {ns:Nms} {er at_:Int} (h:Z0 w r v ts ns er at_): ∀k,v.ownBlock=some k->k<w.heap.size:=fun k a=>(h.names.lt k a).2
set_option maxRecDepth 100000 in
theorem rf_square0 {W:Rdr} (ts:List Tok) (ns:Nms) (w:World) (r:Nat) (v:Value) (at_:Int) (hf:T0 ts) (h:Z0 w r v ts ns 0 at_) (hk:(j0 ts).kind≠9) (O:(j0 ts).text= [91]) (l:(j0 ts.tail).isP [93]=true):
 Calls Tryz.prog 128 #[.pointer (some ⟨r,0,none⟩),Y1 (j0 ts)] w fun e w'=>I7 r v w at_ (J1 [93] (U4 W ts.tail ns)) e w':=by
 have g_:=h.lt;obtain⟨f1,f2⟩:=hf.tail hk;have d_:2<=ts.length:=by have:=f1.pos;omega
 have R:=D_ f1;have Z:=D_ (fun W=>M5 (j0 ts.tail) [93] W);rw [l]at Z;have e_:2<=ts.tail.length:=f1.two (by rw [(U2 l).1];decide);have HV:Hid (J1 [93] (U4 W ts.tail ns)=.ok (R1 [91,93]) ts.tail.tail ns):=D_ (by unfold U4 J1;rw [J_ l,Rd.bind_ok,J_ l]);have h_:((⟨(j0 ts).text.toArray⟩:ByteArray).toList== [40])=false:=by rw [O1,O];rfl
 have i_:((⟨(j0 ts).text.toArray⟩:ByteArray).toList== [91])=true:=by rw [O1,O];rfl
 unfold Y1;clear hf f1 O hk;generalize (⟨(j0 ts).text.toArray⟩:ByteArray)=u at*;generalize (j0 ts).kind=a at*;generalize (j0 ts).n=n at*;generalize (j0 ts).pos=po at*;obtain⟨w0,I,f_,j_,F,G,A,z,H,k⟩:=o8 h (.cells #[.int .i64 a,.string u,.int .i64 n,.int .i64 (po:Nat)] 96);obtain⟨_,o1,_⟩:=A0 F;have X:=D_ A;have T:=D_ z;have a_:=D_ G;obtain⟨E,J⟩: ∃E,J1 [93] (U4 W ts.tail ns)=E:=⟨_,rfl⟩;have HE:=D_ J;rw [J];clear h A z G f_ F J;go_enter Tryz.func128,Tryz.ntmps128;go_upto_region 1 with fail;rw [<-I];clear I;go_wp2_with fail;refine(G3 w0 r v ts ns at_ X.out d_).mono ?_;rintro e w1 ⟨rfl,C,d⟩;have c:=D_ C;have o:=D_ (T.out.trans d);have q:=D_ (d.at a_.out H k);have k_:=d.below.size;clear C d o1;go_wp2_with fail;refine(F4 w1 r v ts.tail ns 0 at_ c.out R.out.pos).mono ?_;rintro e w2 ⟨rfl,s⟩;have i:=D_ s;clear s;generalize Y1 (j0 ts.tail)=tv at*;go_wp2_with fail;refine(Z.out _).mono ?_;rintro e w3 ⟨rfl,y⟩;have b:=D_ (i.out.trans (y.mono i.out.size));have M:=c.out.lt;have Y:=D_ (c.out.below b.out);have U:=D_ (o.out.trans (RGo.of_below (r:=r) (v:=v) b.out (N_ M)));have b_:=D_ (B0 b.out q.out);have l_:=b.out.size;clear y i c o q b;go_wp2_with fail;refine(G3 w3 r v ts.tail ns at_ Y.out e_).mono ?_;rintro e w4 ⟨rfl,D,g⟩;have p:=D_ D;have V:=D_ (U.out.trans g);have c_:=D_ (g.at b_.out H k);have m_:=g.below.size;clear D g;go_wp2_with fail;refine(m8 _ _).mono ?_;rintro e w5 ⟨rfl,j⟩;obtain⟨d0,d1,d2,d3,e0,e1,e2,e3⟩:=A0 (B0 j c_.out);have m:=D_ j;clear j;go_wp2_with fail;have N:=p.out.lt;refine B_ (v:=.agg #[.int .i64 2,.string ⟨#[91,93]⟩,.int .i64 0,.slice none 0 0]) (by simp [results,Tryz.results128,go_sem,d0,d1,d2,d3]) rfl ?_;exact I7.fin (x:=E) (a0:=at_) (t:=R1 [91,93]) (B:=w.heap.size+2) rfl (p.out.below m.out) (V.out.trans (RGo.of_below m.out (N_ N))) (u6q _ _ _ (D1 (by decide) (by decide)) (D1 (by decide) (by decide)) (by unfold maxLen;decide)) (by rw [<-HE.out,HV.out];exact⟨rfl,rfl,rfl,rfl,rfl⟩) g_ (by omega) (by omega) k _ _ _ _
set_option maxRecDepth 100000 in
theorem rf_curly0 {W:Rdr} (ts:List Tok) (ns:Nms) (w:World) (r:Nat) (v:Value) (at_:Int) (hf:T0 ts) (h:Z0 w r v ts ns 0 at_) (hk:(j0 ts).kind≠9) (m:(j0 ts).text= [123]) (l:(j0 ts.tail).isP [125]=true):
 Calls Tryz.prog 128 #[.pointer (some ⟨r,0,none⟩),Y1 (j0 ts)] w fun e w'=>I7 r v w at_ (J1 [125] (T5 W ts.tail ns)) e w':=by
 have g_:=h.lt;obtain⟨f1,f2⟩:=hf.tail hk;have d_:2<=ts.length:=by have:=f1.pos;omega
 have R:=D_ f1;have Z:=D_ (fun W=>M5 (j0 ts.tail) [125] W);rw [l]at Z;have e_:2<=ts.tail.length:=f1.two (by rw [(U2 l).1];decide);have HV:Hid (J1 [125] (T5 W ts.tail ns)=.ok (R1 [123,125]) ts.tail.tail ns):=D_ (by unfold T5 J1;rw [J_ l,Rd.bind_ok,J_ l]);have i_:((⟨(j0 ts).text.toArray⟩:ByteArray).toList== [40])=false:=by rw [O1,m];rfl
 have j_:((⟨(j0 ts).text.toArray⟩:ByteArray).toList== [91])=false:=by rw [O1,m];rfl
 have h_:((⟨(j0 ts).text.toArray⟩:ByteArray).toList== [123])=true:=by rw [O1,m];rfl
 unfold Y1;clear hf f1 m hk;generalize (⟨(j0 ts).text.toArray⟩:ByteArray)=u at*;generalize (j0 ts).kind=a at*;generalize (j0 ts).n=n at*;generalize (j0 ts).pos=po at*;obtain⟨w0,J,f_,k_,G,H,C,A,I,k⟩:=o8 h (.cells #[.int .i64 a,.string u,.int .i64 n,.int .i64 (po:Nat)] 96);obtain⟨_,o1,_⟩:=A0 G;have X:=D_ C;have T:=D_ A;have a_:=D_ H;obtain⟨E,M⟩: ∃E,J1 [125] (T5 W ts.tail ns)=E:=⟨_,rfl⟩;have HE:=D_ M;rw [M];clear h C A H f_ G M;go_enter Tryz.func128,Tryz.ntmps128;go_upto_region 1 with fail;rw [<-J];clear J;go_wp2_with fail;refine(G3 w0 r v ts ns at_ X.out d_).mono ?_;rintro e w1 ⟨rfl,D,d⟩;have c:=D_ D;have p:=D_ (T.out.trans d);have s:=D_ (d.at a_.out I k);have l_:=d.below.size;clear D d o1;go_wp2_with fail;refine(F4 w1 r v ts.tail ns 0 at_ c.out R.out.pos).mono ?_;rintro e w2 ⟨rfl,y⟩;have i:=D_ y;clear y;generalize Y1 (j0 ts.tail)=tv at*;go_wp2_with fail;refine(Z.out _).mono ?_;rintro e w3 ⟨rfl,z⟩;have b:=D_ (i.out.trans (z.mono i.out.size));have N:=c.out.lt;have Y:=D_ (c.out.below b.out);have U:=D_ (p.out.trans (RGo.of_below (r:=r) (v:=v) b.out (N_ N)));have b_:=D_ (B0 b.out s.out);have m_:=b.out.size;clear z i c p s b;go_wp2_with fail;refine(G3 w3 r v ts.tail ns at_ Y.out e_).mono ?_;rintro e w4 ⟨rfl,F,g⟩;have q:=D_ F;have V:=D_ (U.out.trans g);have c_:=D_ (g.at b_.out I k);have n_:=g.below.size;clear F g;go_wp2_with fail;refine(m8 _ _).mono ?_;rintro e w5 ⟨rfl,j⟩;obtain⟨d0,d1,d2,d3,e0,e1,e2,e3⟩:=A0 (B0 j c_.out);have o:=D_ j;clear j;go_wp2_with fail;have O:=q.out.lt;refine B_ (v:=.agg #[.int .i64 2,.string ⟨#[123,125]⟩,.int .i64 0,.slice none 0 0]) (by simp [results,Tryz.results128,go_sem,d0,d1,d2,d3]) rfl ?_;exact I7.fin (x:=E) (a0:=at_) (t:=R1 [123,125]) (B:=w.heap.size+2) rfl (q.out.below o.out) (V.out.trans (RGo.of_below o.out (N_ O))) (u6q _ _ _ (D1 (by decide) (by decide)) (D1 (by decide) (by decide)) (by unfold maxLen;decide)) (by rw [<-HE.out,HV.out];exact⟨rfl,rfl,rfl,rfl,rfl⟩) g_ (by omega) (by omega) k _ _ _ _
set_option maxRecDepth 100000 in
theorem rf_square1 {m:Nat} {W:Rdr} (hW:R2 W m) (hC:N6 m W) (hM:m<=4097) (ts:List Tok) (ns:Nms) (w:World) (r:Nat) (v:Value) (at_:Int) (hm:ts.length<=m+1) (hf:T0 ts) (hn:ns.length<=200) (h:Z0 w r v ts ns 0 at_) (hk:(j0 ts).kind≠9) (N:(j0 ts).text= [91]) (hp:(j0 ts.tail).isP [93]=false):
 Calls Tryz.prog 128 #[.pointer (some ⟨r,0,none⟩),Y1 (j0 ts)] w fun e w'=>I7 r v w at_ (J1 [93] (U4 W ts.tail ns)) e w':=by
 have g_:=h.lt;obtain⟨f1,f2⟩:=hf.tail hk;have e_:2<=ts.length:=by have:=f1.pos;omega
 have O:=D_ f1;have HP:=D_ (fun W=>M5 (j0 ts.tail) [93] W);rw [hp]at HP;have HV:Hid (J1 [93] (U4 W ts.tail ns)=J1 [93] (Vq W ts.tail ns)):=D_ (by unfold U4;rw [I_ (by rw [hp];decide)]);have HL:=D_ (fun W' h_=>rf_list hW hC hM ts.tail ns W' r v at_ (by omega) f1 hn h_);have i_:((⟨(j0 ts).text.toArray⟩:ByteArray).toList== [40])=false:=by rw [O1,N];rfl
 have j_:((⟨(j0 ts).text.toArray⟩:ByteArray).toList== [91])=true:=by rw [O1,N];rfl
 unfold Y1;clear hf f1 N hC hW hk;generalize (⟨(j0 ts).text.toArray⟩:ByteArray)=u at*;generalize (j0 ts).kind=a at*;generalize (j0 ts).n=n at*;generalize (j0 ts).pos=po at*;obtain⟨w0,I,f_,k_,D,F,z,s,G,k⟩:=o8 h (.cells #[.int .i64 a,.string u,.int .i64 n,.int .i64 (po:Nat)] 96);obtain⟨_,o1,_⟩:=A0 D;have X:=D_ z;have R:=D_ s;have a_:=D_ F;obtain⟨E,J⟩: ∃E,J1 [93] (U4 W ts.tail ns)=E:=⟨_,rfl⟩;have HE:=D_ J;rw [J];clear h z s F f_ D J;go_enter Tryz.func128,Tryz.ntmps128;go_upto_region 1 with fail;rw [<-I];clear I;go_wp2_with fail;refine(G3 w0 r v ts ns at_ X.out e_).mono ?_;rintro e w1 ⟨rfl,A,g⟩;have d:=D_ A;have l:=D_ (R.out.trans g);have o:=D_ (g.at a_.out G k);have l_:=g.below.size;clear A g o1;go_wp2_with fail;refine(F4 w1 r v ts.tail ns 0 at_ d.out O.out.pos).mono ?_;rintro e w2 ⟨rfl,p⟩;have j:=D_ p;clear p;generalize Y1 (j0 ts.tail)=tv at*;go_wp2_with fail;refine(HP.out _).mono ?_;rintro e w3 ⟨rfl,q⟩;have c:=D_ (j.out.trans (q.mono j.out.size));have M:=d.out.lt;have Y:=D_ (d.out.below c.out);have T:=D_ (l.out.trans (RGo.of_below (r:=r) (v:=v) c.out (N_ M)));have b_:=D_ (B0 c.out o.out);have m_:=c.out.size;clear q j d l o c;go_wp2_with fail;refine(HL.out _ Y.out).mono ?_;rintro e w4 ⟨t2,ts2,ns2,er2,at2,v2,ad2,cap2,rfl,C,i,H,y⟩;have Z:=D_ C;have U:=D_ (T.out.trans i);have c_:=D_ H;have V:=D_ y;have d_:=D_ (i.ne (b:=w.heap.size+1) (by omega) k);obtain⟨d0,d1,d2,d3,e0,e1,e2,e3⟩:=A0 (i.at b_.out G k);clear C i H y;unfold tmv;go_wp2_with fail;refine B_ (v:=tmv t2 ad2 cap2) (by simp [results,Tryz.results128,go_sem,d0,d1,d2,d3,tmv]) rfl ?_;exact I7.fin (x:=E) (a0:=at_) (t:=t2) (B:=w3.heap.size) rfl Z.out U.out c_.out (by rw [<-HE.out,HV.out];exact V.out) g_ (by omega) (by omega) d_.out _ _ _ _
set_option maxRecDepth 100000 in
theorem rf_curly1 {m:Nat} {W:Rdr} (hW:R2 W m) (hC:N6 m W) (ts:List Tok) (ns:Nms) (w:World) (r:Nat) (v:Value) (at_:Int) (hm:ts.length<=m+1) (hf:T0 ts) (hn:ns.length<=200) (h:Z0 w r v ts ns 0 at_) (hk:(j0 ts).kind≠9) (D:(j0 ts).text= [123]) (C:(j0 ts.tail).isP [125]=false):
 Calls Tryz.prog 128 #[.pointer (some ⟨r,0,none⟩),Y1 (j0 ts)] w fun e w'=>I7 r v w at_ (J1 [125] (T5 W ts.tail ns)) e w':=by
 have hlt:=h.lt;obtain⟨f1,f2⟩:=hf.tail hk;have h2l:2<=ts.length:=by have:=f1.pos;omega
 have k_:=D_ f1;have HP:=D_ (fun W=>M5 (j0 ts.tail) [125] W);rw [C]at HP;have HV:Hid (J1 [125] (T5 W ts.tail ns)=J1 [125] ((W 1200 ts.tail ns).bind fun t ts' ns'=>.ok (X0 [123,125] [t]) ts' ns')):=D_ (by unfold T5;rw [I_ (by rw [C];decide)]);have HT:=D_ (fun W' v' hm'=>hC 1200 ts.tail ns W' r v' at_ (by omega) f1 hn hm');have l_:Hid (∀t' ts' ns',W 1200 ts.tail ns=.ok t' ts' ns'->T0 ts'):=D_ (fun t' ts' ns' hy=>(hW _ _ _ _ _ _ (by omega) f1 hn hy).fine);have h40:((⟨(j0 ts).text.toArray⟩:ByteArray).toList== [40])=false:=by rw [O1,D];rfl
 have h91:((⟨(j0 ts).text.toArray⟩:ByteArray).toList== [91])=false:=by rw [O1,D];rfl
 have h123:((⟨(j0 ts).text.toArray⟩:ByteArray).toList== [123])=true:=by rw [O1,D];rfl
 unfold Y1;clear hf f1 D hC hW hk;generalize (⟨(j0 ts).text.toArray⟩:ByteArray)=u at*;generalize (j0 ts).kind=a at*;generalize (j0 ts).n=n at*;generalize (j0 ts).pos=po at*;obtain⟨w0,e_,hb0,hs0,b_,c_,X,T,z,A⟩:=o8 h (.cells #[.int .i64 a,.string u,.int .i64 n,.int .i64 (po:Nat)] 96);obtain⟨_,o1,_⟩:=A0 b_;have s_:=D_ X;have m_:=D_ T;have v_:=D_ c_;obtain⟨E,hE⟩: ∃E,J1 [125] (T5 W ts.tail ns)=E:=⟨_,rfl⟩;have HE:=D_ hE;rw [hE];clear h X T c_ hb0 b_ hE;go_enter Tryz.func128,Tryz.ntmps128;go_upto_region 1 with fail;rw [<-e_];clear e_;go_wp2_with fail;refine(G3 w0 r v ts ns at_ s_.out h2l).mono ?_;rintro e w1 ⟨rfl,Y,j⟩;have i:=D_ Y;have H:=D_ (m_.out.trans j);have I:=D_ (j.at v_.out z A);have hs1:=j.below.size;clear Y j o1;go_wp2_with fail;refine(F4 w1 r v ts.tail ns 0 at_ i.out k_.out.pos).mono ?_;rintro e w2 ⟨rfl,N⟩;have k:=D_ N;clear N;generalize Y1 (j0 ts.tail)=tv at*;go_wp2_with fail;refine(HP.out _).mono ?_;rintro e w3 ⟨rfl,O⟩;have d:=D_ (k.out.trans (O.mono k.out.size));have f_:=i.out.lt;have t_:=D_ (i.out.below d.out);have n_:=D_ (H.out.trans (RGo.of_below (r:=r) (v:=v) d.out (N_ f_)));have w_:=D_ (B0 d.out I.out);have hs3:=d.out.size;clear O k i H I d;go_wp2_with fail;refine(HT.out _ _ t_.out).mono ?_;rintro e w4 ⟨t2,ts2,ns2,er2,at2,v2,ad2,cap2,rfl,Z,g,d_,U⟩;have l:=D_ Z;have o_:=D_ (n_.out.trans g);have z_:=D_ d_;have q_:=D_ U;have J:=D_ (g.ne (b:=w.heap.size+1) (by omega) A);have x_:=D_ (g.at w_.out z A);have hs4:=g.below.size;clear Z g d_ U HT;unfold tmv;go_upto_region 18 with fail;have p:Below w4.heap.size w4 (w4.alloc (.cells #[.int .i64 t2.kind,.string t2.name,.int .i64 t2.n,.slice ad2 t2.args.length cap2] 26)):=(F_ _ _).alloc (R_ _) _;have u_:=D_ (U0 w4 (.cells #[.int .i64 t2.kind,.string t2.name,.int .i64 t2.n,.slice ad2 t2.args.length cap2] 26));generalize w4.alloc (.cells #[.int .i64 t2.kind,.string t2.name,.int .i64 t2.n,.slice ad2 t2.args.length cap2] 26)=w5 at*;have F:=D_ p;have hs5:=p.size;clear p;have g_:=l.out.lt;have M:=D_ (l.out.new_ne (R_ w4.heap.size));go_wp2_with fail;refine(Vx [125] ⟨#[125]⟩ rfl (l.out.below F.out) q_.out l_.out).mono ?_;rintro e w6 ⟨rfl,ts6,er6,at6,a_,y,V⟩;have o:=D_ a_;have c:=(RGo.of_below (r:=r) (v:=v2) F.out (N_ g_)).trans y;have p_:=D_ (o_.out.trans c);have HT6:=D_ (z_.out.go (by omega) c);have r_:=D_ (fis_map (f:=fun t=>X0 [123,125] [t]) V);have y_:=D_ (c.at x_.out z J.out);have hs6:=c.below.size;have i_:=D_ (args1 (B:=w3.heap.size) (by omega) o.out.ltv HT6.out);obtain⟨c0,c1,c2,c3,_⟩:=A0 (y.at u_.out M.out.1 M.out.2);clear a_ y c V;go_wp2_with fail;refine(j6 _ _ _ _ _).mono ?_;rintro e w7 ⟨rfl,q⟩;have R:=(F_ w6.heap.size w6).alloc (R_ _) (.cells (D0 t2 ad2 cap2).toArray 26);have s:Below w6.heap.size w6 w7:=R.trans (q.mono (by simp));have G:=D_ s;obtain⟨d0,d1,d2,d3,e0,e1,e2,e3⟩:=A0 (B0 s y_.out);have j_:=D_ (M0.kept i_.out (w':=w7) (Q:=fun b=>w3.heap.size<=b/\some b≠v2.ownBlock) (fun b _ hb=>q.block b hb) (fun _ C _=>C));clear R q s c0 c1 c2 c3;go_wp2_with fail;have h_:=o.out.lt;refine B_ (v:=tmv (X0 [123,125] [t2]) (some ⟨w6.heap.size,0,none⟩) 1) (by simp [results,Tryz.results128,go_sem,d0,d1,d2,d3,tmv];exact⟨rfl,rfl,rfl,rfl⟩) rfl ?_;exact I7.fin (x:=E) (a0:=at_) (t:=X0 [123,125] [t2]) (B:=w3.heap.size) rfl (o.out.below G.out) (p_.out.trans (RGo.of_below G.out (N_ h_))) (bX (by decide) (R_ 1) (by unfold maxLen;decide) j_.out) (by rw [<-HE.out,HV.out];exact r_.out) hlt (by omega) (by omega) J.out _ _ _ _
set_option maxRecDepth 100000 in
theorem rf_broken (ts:List Tok) (ns:Nms) (w:World) (r:Nat) (v:Value) (at_:Int) (F:T0 ts) (h:Z0 w r v ts ns 0 at_) (G:(j0 ts).kind≠9) (c:(j0 ts).text≠ [40]/\(j0 ts).text≠ [91]/\(j0 ts).text≠ [123]):
 Calls Tryz.prog 128 #[.pointer (some ⟨r,0,none⟩),Y1 (j0 ts)] w fun e w'=>I7 r v w at_ (.bad (j0 ts).pos:Rd Tm) e w':=by
 have H:=h.lt;obtain⟨f1,f2⟩:=F.tail G;have T:2<=ts.length:=by have:=f1.pos;omega
 have U:((⟨(j0 ts).text.toArray⟩:ByteArray).toList== [40])=false:=by rw [O1];simpa using c.1
 have V:((⟨(j0 ts).text.toArray⟩:ByteArray).toList== [91])=false:=by rw [O1];simpa using c.2.1
 have O:((⟨(j0 ts).text.toArray⟩:ByteArray).toList== [123])=false:=by rw [O1];simpa using c.2.2
 have p:=D_ (fun W' I=>M8 W' r v ts ns at_ I (by omega));have A:Hid (∀er at_':Int,er=60->at_'=((j0 ts).pos:Nat)->FIs (α:=Tm) at_ (.bad (j0 ts).pos) (.mk 0 ⟨#[]⟩ 0 []) ts ns er at_'):=D_ (fun _ _ N R=>⟨N,R⟩);unfold Y1;clear F f1 c G;generalize (⟨(j0 ts).text.toArray⟩:ByteArray)=u at*;generalize (j0 ts).kind=a at*;generalize (j0 ts).n=n at*;generalize W:(j0 ts).pos=po at*;obtain⟨w0,m,D,X,j,k,g,d,J,l⟩:=o8 h (.cells #[.int .i64 a,.string u,.int .i64 n,.int .i64 (po:Nat)] 96);obtain⟨_,o1,_⟩:=A0 j;have y:=D_ g;have q:=D_ d;have C:=D_ k;obtain⟨E,o⟩: ∃E,(.bad po:Rd Tm)=E:=⟨_,rfl⟩;have M:=D_ o;rw [o];clear h g d k D j o;go_enter Tryz.func128,Tryz.ntmps128;go_upto_region 1 with fail;rw [<-m];clear m;go_wp2_with fail;refine(p.out _ y.out).mono ?_;rintro e w1 ⟨rfl,i,b⟩;have z:=D_ i;have s:=D_ (q.out.trans b);obtain⟨d0,d1,d2,d3,e0,e1,e2,e3⟩:=A0 (b.at C.out J l);clear i b o1;go_wp2_with fail;refine B_ (v:=.agg #[.int .i64 0,.string ⟨#[]⟩,.int .i64 0,.slice none 0 0]) (by simp [results,Tryz.results128,go_sem,d0,d1,d2,d3]) rfl ?_;exact I7.fin (x:=E) (a0:=at_) (t:=.mk 0 ⟨#[]⟩ 0 []) (B:=w.heap.size+2) rfl z.out s.out (u6q _ _ _ (D1 (by decide) (by decide)) (D1 (by decide) (by decide)) (Nat.zero_le _)) (by rw [<-M.out];exact A.out _ _ rfl rfl) H (by omega) (by omega) l _ _ _ _
theorem rf_brackets {m:Nat} {W:Rdr} (k:R2 W m) (j:N6 m W) (o:m<=4097) (ts:List Tok) (ns:Nms) (w:World) (r:Nat) (v:Value) (at_:Int) (l:ts.length<=m+1) (a:T0 ts) (n:ns.length<=200) (h:Z0 w r v ts ns 0 at_) (b:(j0 ts).kind≠9):
 Calls Tryz.prog 128 #[.pointer (some ⟨r,0,none⟩),Y1 (j0 ts)] w fun e w'=>I7 r v w at_ (q6 W ts ns) e w':=by
 unfold q6;by_cases i:(j0 ts).text= [40]
 · rw [J_ (by rw [i];rfl)];exact rf_round k j ts ns w r v at_ l a n h b i
 rw [I_ (by simpa using i)];by_cases c:(j0 ts).text= [91]
 · rw [J_ (by rw [c];rfl)];cases g:(j0 ts.tail).isP [93]with
   |true=>exact rf_square0 ts ns w r v at_ a h b c g
   |false=>exact rf_square1 k j o ts ns w r v at_ l a n h b c g
 rw [I_ (by simpa using c)];by_cases d:(j0 ts).text= [123]
 · rw [J_ (by rw [d];rfl)];cases g:(j0 ts.tail).isP [125]with
   |true=>exact rf_curly0 ts ns w r v at_ a h b d g
   |false=>exact rf_curly1 k j ts ns w r v at_ l a n h b d g
 rw [I_ (by simpa using d)];exact rf_broken ts ns w r v at_ a h b ⟨i,c,d⟩
theorem fis_args {a0:Int} {x:Rd (List Tm)} {s:List UInt8} {l:List Tm} {ts:List Tok} {ns:Nms} {er at_:Int} (h:FIs a0 x l ts ns er at_):FIs a0 (x.bind fun l ts ns=>.ok (X0 s l) ts ns) (X0 s l) ts ns er at_:=by
 cases x with
 |bad o=>exact h
 |ok l0 ts0 ns0=>obtain⟨rfl,a⟩:=h;exact⟨rfl,a⟩
theorem oJ {a0:Int} {x:Rd Tm} {t:Tm} {ts:List Tok} {ns:Nms} {er at_:Int} (h:FIs a0 x t ts ns er at_):FIs a0 (x.bind fun t ts ns=>.ok (t,(0:Int)) ts ns) (t,0) ts ns er at_:=by
 cases x with
 |bad o=>exact h
 |ok l0 ts0 ns0=>obtain⟨rfl,a⟩:=h;exact⟨rfl,a⟩
theorem fis_op {a0:Int} {x:Rd Tm} {s:List UInt8} {q:Int} {t:Tm} {ts:List Tok} {ns:Nms} {er at_:Int} (h:FIs a0 x t ts ns er at_):FIs a0 (x.bind fun t ts ns=>.ok (X0 s [t],q) ts ns) (X0 s [t],q) ts ns er at_:=by
 cases x with
 |bad o=>exact h
 |ok l0 ts0 ns0=>obtain⟨rfl,a⟩:=h;exact⟨rfl,a⟩
theorem I6 {w:World} {q b:Nat} (h:b≠q) (u0 u1 u2 u3:Value):((((w.setCell ⟨q,0,none⟩ u0).setCell ⟨q,1,none⟩ u1).setCell ⟨q,2,none⟩ u2).setCell ⟨q,3,none⟩ u3).heap[b]?=w.heap[b]?:=by
 rw [S_ _ _ _ _ (show b≠q from h),S_ _ _ _ _ (show b≠q from h),S_ _ _ _ _ (show b≠q from h),S_ _ _ _ _ (show b≠q from h)]
theorem DQ {w w1:World} {r:Nat} {v:Value} {ts:List Tok} {ns:Nms} {er at_:Int} (h:Z0 w r v ts ns er at_) (O O2:Obj) (b:Below ((w.alloc O).alloc (.cells #[.int .i64 0,.string ⟨#[]⟩,.int .i64 0,.slice none 0 0] 26)).heap.size ((w.alloc O).alloc (.cells #[.int .i64 0,.string ⟨#[]⟩,.int .i64 0,.slice none 0 0] 26)) w1):
 ∃w2,w2=w1.alloc O2/\w2.heap.size=w1.heap.size+1/\w.heap.size+2<=w1.heap.size/\w2.heap[w.heap.size]?=some O/\w2.heap[w.heap.size+1]?=some (.cells #[.int .i64 0,.string ⟨#[]⟩,.int .i64 0,.slice none 0 0] 26 (0,0))/\w2.heap[w1.heap.size]?=some O2/\Z0 w2 r v ts ns er at_/\RGo r v w v w2/\
  (w.heap.size≠r/\some w.heap.size≠v.ownBlock)/\(w.heap.size+1≠r/\some (w.heap.size+1)≠v.ownBlock)/\(w1.heap.size≠r/\some w1.heap.size≠v.ownBlock):=by
 obtain⟨w0,rfl,m,n,g,i,d,c,j,k⟩:=o8 h O;have l:=b.size;have a:=b.alloc (Nat.le_trans (R_ _) l) O2;exact⟨_,rfl,by simp,by omega,B0 a g,B0 a i,U0 _ _,d.below a,c.trans (RGo.of_below a (by have:=h.lt;omega)),h.new_ne (R_ _),⟨j,k⟩,h.new_ne (by omega)⟩
set_option maxRecDepth 100000 in
theorem DZ {m:Nat} {W:Rdr} (hW:R2 W m) (hC:N6 m W) (hM:m<=4097) (p:Int) (ts:List Tok) (ns:Nms) (w:World) (r:Nat) (v:Value) (at_:Int) (hm:ts.length<=m+1) (hf:T0 ts) (hn:ns.length<=200) (h:Z0 w r v ts ns 0 at_) (hk:(j0 ts).isAtom=true) (z:(j0 ts.tail).kind=7):
 Calls Tryz.prog 129 #[.pointer (some ⟨r,0,none⟩),Y1 (j0 ts),.int .i64 p] w fun e w'=>D5 r v w at_ (Q5 W p ts ns) e w':=by
 have hlt:=h.lt;obtain⟨f1,f2⟩:=hf.tail (A2 hk);obtain⟨f3,f4⟩:=f1.tail (by rw [z];decide);have I:2<=ts.length:=by have:=f1.pos;omega
 have h3l:2<=ts.tail.length:=by have:=f3.pos;omega
 have hsz:(j0 ts).text.length<=10000:=by have:=hf.first.size;omega
 have HP:=D_ (fun W' y=>CZ W' r v ts ns 0 at_ y I);have F:Hid (∀W',Z0 W' r v ts.tail.tail ns 0 at_->Calls Tryz.prog 159 #[.pointer (some ⟨r,0,none⟩),.int .i64 16] W' fun e w'=>FList r v W' at_ (Y3 W 16 ts.tail.tail ns) e w'):=D_ (fun W' y=>rf_many hW hC (by omega) 16 (by decide) ts.tail.tail ns W' r v at_ (by omega) f3 hn y);have g_:Hid (∀t' ts' ns',((Y3 W 16 ts.tail.tail ns).bind fun l ts' ns'=>.ok (X0 (j0 ts).text l) ts' ns')=.ok t' ts' ns'->T0 ts'):=D_ (fun t' ts' ns' hy=>by
  obtain⟨l0,ts0,ns0,hx,hy⟩:=Rd.bind_is hy;injection hy with _ e2 _;subst e2;exact(D4 hW (by decide) (by omega) f3 hn hx).1.fine)
 obtain⟨E,hE⟩: ∃E,Q5 W p ts ns=E:=⟨_,rfl⟩;rw [hE];have HE:Hid (E=(J1 [41] ((Y3 W 16 ts.tail.tail ns).bind fun l ts' ns'=>.ok (X0 (j0 ts).text l) ts' ns')).bind fun t ts' ns'=>.ok (t,0) ts' ns'):=D_ (by rw [<-hE];unfold Q5;rw [J_ z];rfl);have e7:((j0 ts.tail).kind==7)=true:=by rw [z];rfl
 unfold Y1 at HP⊢;generalize hst:(j0 ts).text=st at*;clear hf f1 f3 hst hC hW hk hE z;generalize hu:(⟨st.toArray⟩:ByteArray)=u at*;have HU:=D_ hu;generalize (j0 ts).kind=a at*;generalize (j0 ts).n=n at*;generalize (j0 ts).pos=po at*;generalize (⟨(j0 ts.tail).text.toArray⟩:ByteArray)=u2 at*;generalize (j0 ts.tail).kind=a2 at*;generalize (j0 ts.tail).n=n2 at*;generalize (j0 ts.tail).pos=po2 at*;have HH:=D_ h;have C:Hid (Below w.heap.size w ((w.alloc (.cells #[.int .i64 a,.string u,.int .i64 n,.int .i64 (po:Nat)] 96)).alloc (.cells #[.int .i64 0,.string ⟨#[]⟩,.int .i64 0,.slice none 0 0] 26))):=D_ (((F_ w.heap.size w).alloc (R_ _) _).alloc (by simp) _);clear h hu;go_enter Tryz.func129,Tryz.ntmps129;go_wp2_with fail;refine(HP.out _ (HH.out.below C.out)).mono ?_;rintro e w1 ⟨rfl,R⟩;go_upto_region 2 with fail;obtain⟨w2,c_,hs2,hs1,M,N,J,X,T,g,i,hn1⟩:=DQ HH.out (.cells #[.int .i64 a,.string u,.int .i64 n,.int .i64 (po:Nat)] 96) (.cells #[.int .i64 a2,.string u2,.int .i64 n2,.int .i64 (po2:Nat)] 96) R;rw [<-c_];have s_:=D_ M;have w_:=D_ N;have o_:=D_ X;have h_:=D_ T;obtain⟨b0,_⟩:=A0 J;clear c_ M N X T R C J HP;go_wp2_with fail;refine(G3 w2 r v ts ns at_ o_.out I).mono ?_;rintro e w3 ⟨rfl,Y,j⟩;have p_:=D_ Y;have i_:=D_ (h_.out.trans j);have t_:=D_ (j.at s_.out g.1 g.2);have x_:=D_ (j.at w_.out i.1 i.2);clear Y j b0;go_wp2_with fail;refine(G3 w3 r v ts.tail ns at_ p_.out h3l).mono ?_;rintro e w4 ⟨rfl,Z,k⟩;have q_:=D_ Z;have j_:=D_ (i_.out.trans k);have u_:=D_ (k.at t_.out g.1 g.2);have G:=D_ (k.at x_.out i.1 i.2);have hs4:=(Array.getElem?_eq_some_iff.1 G.out).1;clear Z k;go_wp2_with fail;refine(F.out _ q_.out).mono ?_;rintro e w5 ⟨l,ts5,ns5,er5,at5,v5,ad,cap,rfl,g1,g2,a_,c,O,U⟩;have r_:=D_ a_;have k_:=D_ (j_.out.trans c);have v_:=D_ (c.at u_.out g.1 g.2);have y_:=D_ (c.at G.out i.1 i.2);have A:=D_ O;have H:=D_ (c.ne (b:=w.heap.size+1) hs4 i.2);have HV6:=D_ (c.ne (b:=w.heap.size) (by omega) g.2);have m_:=D_ (fis_args (s:=st) U);have hs5:=c.below.size;clear a_ c O U F;go_wp2_with fail;refine(Vx [41] ⟨#[41]⟩ rfl r_.out m_.out g_.out).mono ?_;rintro e w6 ⟨rfl,ts6,er6,at6,b_,d,V⟩;have D:=D_ b_;have l_:=D_ (k_.out.trans d);have n_:=D_ (oJ V);have e_:=D_ (A.out.kept (w':=w6) (Q:=fun b=>w4.heap.size<=b/\some b≠v5.ownBlock) (fun b hp hb=>d.keep b hb (by omega) hp.2) (fun _ hp _=>hp));have z_:=D_ (d.at y_.out i.1 H.out);obtain⟨_,o1,_⟩:=A0 (d.at v_.out g.1 HV6.out);clear b_ d V A;go_wp2_with fail;refine(j6 _ _ _ _ _).mono ?_;rintro e w7 ⟨rfl,q⟩;obtain⟨d0,d1,d2,d3,e0,e1,e2,e3⟩:=A0 (B0 q z_.out);have o:=D_ q;clear q o1;go_wp2_with fail;have d_:=D.out.lt;have f_:=D_ (e_.out.on o.out);have hnm:(X0 st l).name=u:=HU.out;refine B_ (v:=.tuple #[tmv (X0 st l) ad cap,.int .i64 0]) (by simp [results,Tryz.results129,go_sem,d0,d1,d2,d3,tmv,hnm];exact⟨rfl,rfl,rfl⟩) rfl ?_;exact D5.fin (x:=E) (a0:=at_) (t:=X0 st l) (p:=0) (B:=w4.heap.size) rfl (D.out.below o.out) (l_.out.trans (RGo.of_below o.out (N_ d_))) (bX hsz g1 g2 f_.out) (by rw [HE.out];exact n_.out) hlt (by omega) (by omega) H.out _ _ _ _
set_option maxRecDepth 100000 in
theorem rf_word_neg {W:Rdr} (p:Int) (ts:List Tok) (ns:Nms) (w:World) (r:Nat) (v:Value) (at_:Int) (m:T0 ts) (h:Z0 w r v ts ns 0 at_) (hk:(j0 ts).isAtom=true) (b:(j0 ts).kind=3/\(j0 ts).text= [45]/\(j0 ts.tail).kind=5/\(j0 ts.tail).pos=(j0 ts).pos+1):
 Calls Tryz.prog 129 #[.pointer (some ⟨r,0,none⟩),Y1 (j0 ts),.int .i64 p] w fun e w'=>D5 r v w at_ (Q5 W p ts ns) e w':=by
 have g_:=h.lt;obtain⟨f1,f2⟩:=m.tail (A2 hk);have y:2<=ts.length:=by have:=f1.pos;omega
 have j_:(j0 ts).text.length<=4096:=m.first.size;have m_:(j0 ts).pos<=4096:=m.first.pos;have I:=D_ (fun W' h_=>CZ W' r v ts ns 0 at_ h_ y);obtain⟨E,J⟩: ∃E,Q5 W p ts ns=E:=⟨_,rfl⟩;rw [J];have e_:2<=ts.tail.length:=f1.two (by rw [b.2.2.1];decide);have HV:Hid (E=.ok (fx (wrap64 (-(j0 ts.tail).n)),0) ts.tail.tail ns):=D_ (by rw [<-J];unfold Q5;rw [I_ (by rw [b.2.2.1];decide),J_ b]);have f_:In64 (wrap64 (-(j0 ts.tail).n)):=wrap64_in _;have e3:((j0 ts).kind==3)=true:=by rw [b.1];rfl
 have l_:((⟨(j0 ts).text.toArray⟩:ByteArray).toList== [45])=true:=by rw [O1,b.2.1];rfl
 have e5:((j0 ts.tail).kind==5)=true:=by rw [b.2.2.1];rfl
 have e7:((j0 ts.tail).kind==7)=false:=by rw [b.2.2.1];rfl
 have ep:(((j0 ts.tail).pos:Int)==((j0 ts).pos:Int)+1)=true:=by rw [b.2.2.2];simp
 unfold Y1 at I⊢;generalize i_:(j0 ts).text=st at*;clear m f1 i_ hk J b j_;generalize hu:(⟨st.toArray⟩:ByteArray)=u at*;have HU:=D_ hu;generalize (j0 ts).kind=a at*;generalize (j0 ts).n=n at*;generalize (j0 ts).pos=po at*;generalize (⟨(j0 ts.tail).text.toArray⟩:ByteArray)=u2 at*;generalize (j0 ts.tail).kind=a2 at*;generalize (j0 ts.tail).n=n2 at*;generalize (j0 ts.tail).pos=po2 at*;have U:=D_ h;have o:Hid (Below w.heap.size w ((w.alloc (.cells #[.int .i64 a,.string u,.int .i64 n,.int .i64 (po:Nat)] 96)).alloc (.cells #[.int .i64 0,.string ⟨#[]⟩,.int .i64 0,.slice none 0 0] 26))):=D_ (((F_ w.heap.size w).alloc (R_ _) _).alloc (by simp) _);clear h hu;go_enter Tryz.func129,Tryz.ntmps129;go_wp2_with fail;refine(I.out _ (U.out.below o.out)).mono ?_;rintro e w1 ⟨rfl,A⟩;go_upto_region 2 with fail;obtain⟨w2,H,o_,n_,j,z,i,D,C,ho,l,g⟩:=DQ U.out (.cells #[.int .i64 a,.string u,.int .i64 n,.int .i64 (po:Nat)] 96) (.cells #[.int .i64 a2,.string u2,.int .i64 n2,.int .i64 (po2:Nat)] 96) A;rw [<-H];have k_:=D_ j;have b_:=D_ z;have Z:=D_ i;have X:=D_ D;have O:=D_ C;obtain⟨b0,b1,b2,b3,_⟩:=A0 i;obtain⟨o0,o1,o2,o3,_⟩:=A0 j;clear H j z D C A o i I;clear HU;go_wp2_with fail;refine(G3 w2 r v ts ns at_ X.out y).mono ?_;rintro e w3 ⟨rfl,F,c⟩;have Y:=D_ F;have R:=D_ (O.out.trans c);have a_:=D_ (c.at Z.out g.1 g.2);have c_:=D_ (c.at b_.out l.1 l.2);clear F c b0 b1 b2 b3 o0 o1 o2 o3;go_wp2_with fail;refine(G3 w3 r v ts.tail ns at_ Y.out e_).mono ?_;rintro e w4 ⟨rfl,G,d⟩;have s:=D_ G;have T:=D_ (R.out.trans d);obtain⟨_,_,b2,_⟩:=A0 (d.at a_.out g.1 g.2);have d_:=D_ (d.at c_.out l.1 l.2);clear G d;go_wp2_with fail;refine(kQ _ _).mono ?_;rintro e w5 ⟨rfl,k⟩;obtain⟨d0,d1,d2,d3,e0,e1,e2,e3⟩:=A0 (B0 k d_.out);have q:=D_ k;clear k b2;have V:=D_ f_;generalize wrap64 (-n2)=N at*;go_wp2_with fail;have M:=s.out.lt;refine B_ (v:=.tuple #[tmv (fx N) none 0,.int .i64 0]) (by simp [results,Tryz.results129,go_sem,d0,d1,d2,d3,tmv];exact⟨rfl,rfl,rfl,rfl⟩) rfl ?_;exact D5.fin (x:=E) (a0:=at_) (t:=fx N) (p:=0) (B:=w.heap.size+2) rfl (s.out.below q.out) (T.out.trans (RGo.of_below q.out (N_ M))) (u6q _ _ _ (D1 (by decide) (by decide)) V.out (Nat.zero_le _)) (by rw [HV.out];exact⟨rfl,rfl,rfl,rfl,rfl⟩) g_ (by omega) (by omega) l.2 _ _ _ _
set_option maxRecDepth 100000 in
theorem EZ {m:Nat} {W:Rdr} (hC:N6 m W) (p:Int) (ts:List Tok) (ns:Nms) (w:World) (r:Nat) (v:Value) (at_:Int) (hm:ts.length<=m+1) (hf:T0 ts) (hn:ns.length<=200) (h:Z0 w r v ts ns 0 at_) (hk:(j0 ts).isAtom=true) (h7: ¬(j0 ts.tail).kind=7) (hb: ¬((j0 ts).kind=3/\(j0 ts).text= [45]/\(j0 ts.tail).kind=5/\(j0 ts.tail).pos=(j0 ts).pos+1)):
 Calls Tryz.prog 129 #[.pointer (some ⟨r,0,none⟩),Y1 (j0 ts),.int .i64 p] w fun e w'=>D5 r v w at_ (Q5 W p ts ns) e w':=by
 have k_:=h.lt;obtain⟨f1,f2⟩:=hf.tail (A2 hk);have j_:2<=ts.length:=by have:=f1.pos;omega
 have hsz:(j0 ts).text.length<=4096:=hf.first.size;have hpo:(j0 ts).pos<=4096:=hf.first.pos;have HP:=D_ (fun W' c_=>CZ W' r v ts ns 0 at_ c_ j_);obtain⟨E,hE⟩: ∃E,Q5 W p ts ns=E:=⟨_,rfl⟩;rw [hE];have r_:=D_ (fun c W=>rf_alone (j0 ts.tail) c W);have i_:Hid (ts.length=2-> ∀c,I3 (j0 ts.tail) c=I3 (j0 ts.tail) (j0 ts.tail.tail)):=D_ (fun e c=>by
  have h9:(j0 ts.tail).kind=9:=by
   apply Classical.byContradiction
   intro hc;have:=f1.two hc;omega
  unfold I3;rw [h9];rfl)
 have HPX:=D_ (fun W=>lQ ⟨(j0 ts).text.toArray⟩ W);obtain⟨P,K,B,hP,hB⟩:=V5 (L2 q4 ⟨(j0 ts).text.toArray⟩ 2);have HPK:Hid (∀o,opR (j0 ts).text 2=some o->P=o.p/\K=o.k):=D_ (fun o N=>by
  unfold opR at N;rw [N,x7]at hP;injection hP with hP;simp only [Array.mk.injEq,List.cons.injEq,Value.agg.injEq,Value.int.injEq,Value.string.injEq,and_true,true_and]at hP
  exact⟨hP.1.1.symm,hP.1.2.symm⟩)
 have u_:Hid (B=(opR (j0 ts).text 2).isSome):=D_ hB;rw [hP]at HPX;have HE:Hid (E=match opR (j0 ts).text 2 with
  |none=>.ok (R1 (j0 ts).text,0) ts.tail ns
  |some r=>
   if I3 (j0 ts.tail) (j0 ts.tail.tail)=true then .ok (R1 (j0 ts).text,0) ts.tail ns
   else if p<r.p then .bad (j0 ts).pos
   else(W (X1 r.k r.p) ts.tail ns).bind fun t ts' ns'=>.ok (X0 (j0 ts).text [t],r.p) ts' ns'):=D_ (by rw [<-hE];unfold Q5;rw [I_ h7,I_ hb];cases opR (j0 ts).text 2<;>rfl)
 have HT:=D_ (fun p' W' v' c_=>hC p' ts.tail ns W' r v' at_ (by omega) f1 hn c_);have hnb:(((j0 ts).kind==3)&&((⟨(j0 ts).text.toArray⟩:ByteArray).toList== [45])&&((j0 ts.tail).kind==5)&&(((j0 ts.tail).pos:Int)==((j0 ts).pos:Int)+1))=false:=by
  apply Bool.eq_false_iff.2
  intro hc;simp only [Bool.and_eq_true,beq_iff_eq]at hc
  obtain⟨⟨⟨h1,h2⟩,h3⟩,h4⟩:=hc;exact hb ⟨h1,by rw [ByteArray.toList_eq]at h2;exact h2,h3,by omega⟩
 have HNB:=D_ hnb;have e7:((j0 ts.tail).kind==7)=false:=by simpa using h7
 have HSZ:=D_ hsz;have HFP:Hid (∀er a',er=60->a'=(((j0 ts).pos:Nat):Int)->FIs (α:=Tm×Int) at_ (.bad (j0 ts).pos) (.mk 0 ⟨#[]⟩ 0 [],0) ts ns er a'):=D_ (fun _ _ h1 h2=>⟨h1,h2⟩);have HFA:=D_ (fun W' c_=>M8 W' r v ts ns at_ c_ (by omega));generalize halx:I3 (j0 ts.tail) (j0 ts.tail.tail)=al at*;have t_:=D_ halx;unfold Y1 at r_;unfold Y1 at HP⊢;generalize hst:(j0 ts).text=st at*;clear hf f1 hst hk hE hb h7 hn hm hP hB hC hnb hsz halx;generalize hu:(⟨st.toArray⟩:ByteArray)=u at*;have HU:=D_ hu;generalize (j0 ts).kind=a at*;generalize (j0 ts).n=n at*;generalize (j0 ts).pos=po at*;have HBT:Hid (j0 ts.tail=j0 ts.tail):=D_ rfl;generalize (⟨(j0 ts.tail).text.toArray⟩:ByteArray)=u2 at*;generalize (j0 ts.tail).kind=a2 at*;generalize (j0 ts.tail).n=n2 at*;generalize (j0 ts.tail).pos=po2 at*;have HH:=D_ h;have HB0:Hid (Below w.heap.size w ((w.alloc (.cells #[.int .i64 a,.string u,.int .i64 n,.int .i64 (po:Nat)] 96)).alloc (.cells #[.int .i64 0,.string ⟨#[]⟩,.int .i64 0,.slice none 0 0] 26))):=D_ (((F_ w.heap.size w).alloc (R_ _) _).alloc (by simp) _);clear h hu;go_enter Tryz.func129,Tryz.ntmps129;go_wp2_with fail;refine(HP.out _ (HH.out.below HB0.out)).mono ?_;rintro e w1 ⟨rfl,hb1⟩;go_upto_region 2 with fail;obtain⟨w2,hw2,hs2,hs1,hO2,hQ2,hN2,V,A,N,D,hn1⟩:=DQ HH.out (.cells #[.int .i64 a,.string u,.int .i64 n,.int .i64 (po:Nat)] 96) (.cells #[.int .i64 a2,.string u2,.int .i64 n2,.int .i64 (po2:Nat)] 96) hb1;rw [<-hw2];have HO2:=D_ hO2;have HQ2:=D_ hQ2;have HN2:=D_ hN2;have w_:=D_ V;have HG2:=D_ A;obtain⟨b0,b1,b2,b3,_⟩:=A0 hN2;obtain⟨o0,o1,o2,o3,_⟩:=A0 hO2;clear hw2 hO2 hQ2 V A hb1 HB0 hN2 HP;clear HBT;go_upto_region 8 with fail;go_cut [50] (fun s50 wx=>s50=.bool false/\wx=w2)
 case first=>
  cases e3:(a==3)with
  |false=>
   go_wp2_with fail;go_meet;exact⟨rfl,rfl⟩
  |true=>
  cases e45:(u.toList== [45])with
  |false=>
   go_wp2_with fail;go_meet;exact⟨rfl,rfl⟩
  |true=>
  cases e5:(a2==5)with
  |false=>
   go_wp2_with fail;go_meet;exact⟨rfl,rfl⟩
  |true=>
  have hep:=HNB.out;rw [e3,e45,e5]at hep;have ep:((po2:Int)==(po:Int)+1)=false:=by simpa using hep
  clear hep;go_wp2_with fail;go_meet;exact⟨rfl,rfl⟩
 case rest=>
  obtain⟨rfl,hwc⟩:=hcut;rw [hwc];clear e7 hwc;go_wp2_with fail;refine(HPX.out _).mono ?_;rintro e w3 ⟨rfl,hb3⟩;go_upto_region 13 with fail;have hs3:=hb3.size;have C:Below w2.heap.size w2 (w3.alloc (.cells #[.int .i64 P,.string K] 126)):=hb3.alloc hs3 _;have HP4:=D_ (U0 w3 (.cells #[.int .i64 P,.string K] 126));have m_:(w3.alloc (.cells #[.int .i64 P,.string K] 126)).heap.size=w3.heap.size+1:=by simp
  generalize w3.alloc (.cells #[.int .i64 P,.string K] 126)=w4 at*;have a_:=D_ (w_.out.below C);have HG4:=D_ (HG2.out.trans (RGo.of_below C (by omega)));have HO4:=D_ (B0 C HO2.out);have HQ4:=D_ (B0 C HQ2.out);have HN4:=D_ (B0 C HN2.out);have l_:=w_.out.new_ne (b:=w3.heap.size) hs3;clear hb3 C w_ HG2 HO2 HQ2 HN2 b0 b1 b2 b3 o0 o1 o2 o3 HPX HNB;go_cut [12] (fun s12 wx=> ∃X c,s12=.pointer (some ⟨X,0,none⟩)/\Hid (w4.heap.size<=X)/\Hid (wx.heap[X]?=some (.cells #[.int .i64 c.kind,.string ⟨c.text.toArray⟩,.int .i64 c.n,.int .i64 (c.pos:Nat)] 96 (0,0)))/\Hid (Below w4.heap.size w4 wx)/\Hid (I3 (j0 ts.tail) c=al))
  case first=>
   obtain⟨g,k,cap,hg,hr,hl,hc,ht⟩:=a_.out.ex;obtain⟨r0,_⟩:=l5 hr;have hrl:=a_.out.lt;have G:g<w4.heap.size:=by omega
   obtain⟨_,_,_,_,n_⟩:=ht.first (by omega);have hl3:(ts.length:Int)<=9223372036854775807:=by unfold maxLen at hc;omega
   by_cases h3:3<=ts.length
   · obtain⟨_,_,_,_,e_⟩:=n_.first (by omega);obtain⟨c0,c1,c2,c3,_⟩:=e_.first (by rw [List.length_tail];omega);rw [show k+4+4=k+8 from rfl]at c0 c1 c2 c3;have hmin:min (2:Int) ((ts.length:Int)-1)=2:=by omega
     have hl1:(2:Int)<(ts.length:Int):=by omega
     have r0a:=(((F_ _ w4).alloc (R_ _) (.cells #[.int .i64 0,.string ⟨#[]⟩,.int .i64 0,.int .i64 0] 96)).cell (p:=⟨r,0,none⟩) hrl).trans r0;have c0a:=(((F_ _ w4).alloc (R_ _) (.cells #[.int .i64 0,.string ⟨#[]⟩,.int .i64 0,.int .i64 0] 96)).cell (p:=⟨g,k+8,none⟩) G).trans c0;have c1a:=(((F_ _ w4).alloc (R_ _) (.cells #[.int .i64 0,.string ⟨#[]⟩,.int .i64 0,.int .i64 0] 96)).cell (p:=⟨g,k+8+1,none⟩) G).trans c1;have c2a:=(((F_ _ w4).alloc (R_ _) (.cells #[.int .i64 0,.string ⟨#[]⟩,.int .i64 0,.int .i64 0] 96)).cell (p:=⟨g,k+8+2,none⟩) G).trans c2;have c3a:=(((F_ _ w4).alloc (R_ _) (.cells #[.int .i64 0,.string ⟨#[]⟩,.int .i64 0,.int .i64 0] 96)).cell (p:=⟨g,k+8+3,none⟩) G).trans c3;clear e_;clear hr ht hc n_;obtain⟨t3,O⟩: ∃t3,j0 ts.tail.tail=t3:=⟨_,rfl⟩;rw [O]at c0 c1 c2 c3 c0a c1a c2a c3a;obtain⟨k3,l3,n3,p3⟩:=t3;dsimp only at c0 c1 c2 c3 c0a c1a c2a c3a;have HT3:=D_ O;generalize hL:ts.length=L at*;clear O hL i_;go_region
     go_wp2_with fail;go_meet;refine⟨w3.heap.size+1,⟨k3,l3,n3,p3⟩,rfl,D_ (Nat.le_of_eq m_),D_ ?_,D_ ((F_ _ w4).alloc (R_ _) _).drew,D_ (by rw [<-HT3.out];exact t_.out)⟩;rw [<-m_];exact U0 w4 _
   · obtain⟨c0,c1,c2,c3,_⟩:=n_.first (by omega);have h2e:ts.length=2:=by omega
     have HF2:=D_ (i_.out h2e);have hmin:min (2:Int) ((ts.length:Int)-1)=1:=by omega
     have hl1:(1:Int)<(ts.length:Int):=by omega
     have r0a:=(((F_ _ w4).alloc (R_ _) (.cells #[.int .i64 0,.string ⟨#[]⟩,.int .i64 0,.int .i64 0] 96)).cell (p:=⟨r,0,none⟩) hrl).trans r0;have c0a:=(((F_ _ w4).alloc (R_ _) (.cells #[.int .i64 0,.string ⟨#[]⟩,.int .i64 0,.int .i64 0] 96)).cell (p:=⟨g,k+4,none⟩) G).trans c0;have c1a:=(((F_ _ w4).alloc (R_ _) (.cells #[.int .i64 0,.string ⟨#[]⟩,.int .i64 0,.int .i64 0] 96)).cell (p:=⟨g,k+4+1,none⟩) G).trans c1;have c2a:=(((F_ _ w4).alloc (R_ _) (.cells #[.int .i64 0,.string ⟨#[]⟩,.int .i64 0,.int .i64 0] 96)).cell (p:=⟨g,k+4+2,none⟩) G).trans c2;have c3a:=(((F_ _ w4).alloc (R_ _) (.cells #[.int .i64 0,.string ⟨#[]⟩,.int .i64 0,.int .i64 0] 96)).cell (p:=⟨g,k+4+3,none⟩) G).trans c3;clear h2e;clear hr ht hc n_;obtain⟨t3,O⟩: ∃t3,j0 ts.tail=t3:=⟨_,rfl⟩;rw [O]at c0 c1 c2 c3 c0a c1a c2a c3a;obtain⟨k3,l3,n3,p3⟩:=t3;dsimp only at c0 c1 c2 c3 c0a c1a c2a c3a;have HT3:=D_ O;generalize hL:ts.length=L at*;clear O hL i_;go_region
     go_wp2_with fail;go_meet;refine⟨w3.heap.size+1,⟨k3,l3,n3,p3⟩,rfl,D_ (Nat.le_of_eq m_),D_ ?_,D_ ((F_ _ w4).alloc (R_ _) _).drew,D_ (HF2.out _)⟩;rw [<-m_];exact U0 w4 _
  case rest=>
   obtain⟨X,c,rfl,HXs,HXc,F,s_⟩:=hcut;have I:=D_ (a_.out.below F.out);have R:=D_ (HG4.out.trans (RGo.of_below (r:=r) (v:=v) F.out (by have:=a_.out.lt;omega)));have T:=D_ (B0 F.out HO4.out);have U:=D_ (B0 F.out HQ4.out);have HNc:=D_ (B0 F.out HN4.out);have HPc:=D_ (B0 F.out HP4.out);have hsc:=F.out.size;clear a_ HG4 HO4 HQ4 HN4 HP4 F i_;cases B with
   | false=>
    have HV:Hid (E=.ok (R1 st,0) ts.tail ns):=D_ (by
     have hbo:=u_.out;rw [HE.out];cases Y:opR st 2 with
     |none=>rfl
     |some o9=>rw [Y]at hbo;cases hbo)
    go_wp2_with fail;refine(G3 wc r v ts ns at_ I.out j_).mono ?_;rintro e w6 ⟨rfl,y,d⟩;have z:=D_ y;have H:=D_ (R.out.trans d);have b_:=D_ (d.at U.out D.1 D.2);obtain⟨_,o1,_⟩:=A0 (d.at T.out N.1 N.2);clear y d;go_wp2_with fail;refine(m8 _ _).mono ?_;rintro e w7 ⟨rfl,J⟩;obtain⟨d0,d1,d2,d3,e0,e1,e2,e3⟩:=A0 (B0 J b_.out);have Z:=D_ J;clear J o1;go_wp2_with fail;have M:=z.out.lt;have d_:(R1 st).name=u:=HU.out;have g_:(⟨st.toArray⟩:ByteArray).size<=maxLen:=by show st.toArray.size<=maxLen;have:=HSZ.out;simp only [List.size_toArray];unfold maxLen;omega
    refine B_ (v:=.tuple #[tmv (R1 st) none 0,.int .i64 0]) (by simp [results,Tryz.results129,go_sem,d0,d1,d2,d3,tmv,d_];exact⟨rfl,rfl,rfl⟩) rfl ?_;exact D5.fin (x:=E) (a0:=at_) (t:=R1 st) (p:=0) (B:=w.heap.size+2) rfl (z.out.below Z.out) (H.out.trans (RGo.of_below Z.out (N_ M))) (u6q _ _ _ (D1 (by decide) (by decide)) (D1 (by decide) (by decide)) g_) (by rw [HV.out];exact⟨rfl,rfl,rfl,rfl,rfl⟩) k_ (by omega) (by omega) D.2 _ _ _ _
   | true=>
    obtain⟨b0,b1,b2,b3,_⟩:=A0 HNc.out;obtain⟨x0,x1,x2,x3,_⟩:=A0 HXc.out;have h_:=D_ (r_.out c);rw [s_.out]at h_;clear r_ s_;generalize (⟨c.text.toArray⟩:ByteArray)=u3 at*;generalize c.kind=k3 at*;generalize c.n=n3 at*;generalize c.pos=p3 at*;cases al with
    | true=>
     have HV:Hid (E=.ok (R1 st,0) ts.tail ns):=D_ (by
      have hax:=t_.out;rw [HE.out];cases Y:opR st 2 with
      |none=>rfl
      |some o9=>rfl)
     go_wp2_with fail;refine(h_.out _).mono ?_;rintro e w5 ⟨rfl,i⟩;have I:=D_ (I.out.below i);have R:=D_ (R.out.trans (RGo.of_below (r:=r) (v:=v) i (by omega)));have T:=D_ (B0 i T.out);have U:=D_ (B0 i U.out);clear i b0 b1 b2 b3 x0 x1 x2 x3;go_wp2_with fail;refine(G3 w5 r v ts ns at_ I.out j_).mono ?_;rintro e w6 ⟨rfl,y,d⟩;have z:=D_ y;have H:=D_ (R.out.trans d);have b_:=D_ (d.at U.out D.1 D.2);obtain⟨_,o1,_⟩:=A0 (d.at T.out N.1 N.2);clear y d;go_wp2_with fail;refine(m8 _ _).mono ?_;rintro e w7 ⟨rfl,J⟩;obtain⟨d0,d1,d2,d3,e0,e1,e2,e3⟩:=A0 (B0 J b_.out);have Z:=D_ J;clear J o1;go_wp2_with fail;have M:=z.out.lt;have d_:(R1 st).name=u:=HU.out;have g_:(⟨st.toArray⟩:ByteArray).size<=maxLen:=by show st.toArray.size<=maxLen;have:=HSZ.out;simp only [List.size_toArray];unfold maxLen;omega
     refine B_ (v:=.tuple #[tmv (R1 st) none 0,.int .i64 0]) (by simp [results,Tryz.results129,go_sem,d0,d1,d2,d3,tmv,d_];exact⟨rfl,rfl,rfl⟩) rfl ?_;exact D5.fin (x:=E) (a0:=at_) (t:=R1 st) (p:=0) (B:=w.heap.size+2) rfl (z.out.below Z.out) (H.out.trans (RGo.of_below Z.out (N_ M))) (u6q _ _ _ (D1 (by decide) (by decide)) (D1 (by decide) (by decide)) g_) (by rw [HV.out];exact⟨rfl,rfl,rfl,rfl,rfl⟩) k_ (by omega) (by omega) D.2 _ _ _ _
    |false=>
     obtain⟨o9,Y⟩: ∃o9,opR st 2=some o9:=Option.isSome_iff_exists.1 u_.out.symm;obtain⟨rfl,rfl⟩:=HPK.out o9 Y;have HV:Hid (E=if p<o9.p then .bad po else(W (X1 o9.k o9.p) ts.tail ns).bind fun t ts' ns'=>.ok (X0 st [t],o9.p) ts' ns'):=D_ (by rw [HE.out,Y];rfl);have hrn:=I.out.lt;clear HE u_ HPK t_ Y;go_wp2_with fail;refine(h_.out _).mono ?_;rintro e w5 ⟨rfl,i⟩;have x_:=D_ (I.out.below i);have v_:=D_ (R.out.trans (RGo.of_below (r:=r) (v:=v) i (by omega)));have HO5:=D_ (B0 i T.out);have HQ5:=D_ (B0 i U.out);have z_:=D_ (B0 i HPc.out);obtain⟨q0,q1,_⟩:=E0 z_.out;clear i b0 b1 b2 b3 x0 x1 x2 x3 I R T U HNc HPc h_;by_cases hpri:p<o9.p
     · have HV2:Hid (E=.bad po):=D_ (by rw [HV.out,J_ hpri]);clear HV;go_wp2_with fail;refine(HFA.out _ x_.out).mono ?_;rintro e w6 ⟨rfl,y,d⟩;have z:=D_ y;have H:=D_ (v_.out.trans d);obtain⟨d0,d1,d2,d3,e0,e1,e2,e3⟩:=A0 (d.at HQ5.out D.1 D.2);clear y d q0 q1;go_wp2_with fail;refine B_ (v:=.tuple #[.agg #[.int .i64 0,.string ⟨#[]⟩,.int .i64 0,.slice none 0 0],.int .i64 0]) (by simp [results,Tryz.results129,go_sem,d0,d1,d2,d3]) rfl ?_;exact D5.fin (x:=E) (a0:=at_) (t:=.mk 0 ⟨#[]⟩ 0 []) (p:=0) (B:=w.heap.size+2) rfl z.out H.out (u6q _ _ _ (D1 (by decide) (by decide)) (D1 (by decide) (by decide)) (Nat.zero_le _)) (by rw [HV2.out];exact HFP.out _ _ rfl rfl) k_ (by omega) (by omega) D.2 _ _ _ _
     · have HV2:Hid (E=(W (X1 o9.k o9.p) ts.tail ns).bind fun t ts' ns'=>.ok (X0 st [t],o9.p) ts' ns'):=D_ (by rw [HV.out,I_ hpri]);clear HV HFA HFP;go_wp2_with fail;refine(G3 w5 r v ts ns at_ x_.out j_).mono ?_;rintro e w6 ⟨rfl,y,d⟩;have z:=D_ y;have H:=D_ (v_.out.trans d);have HO6:=D_ (d.at HO5.out N.1 N.2);have b_:=D_ (d.at HQ5.out D.1 D.2);have HP6:=D_ (d.at z_.out l_.1 l_.2);clear y d q0 q1 x_ v_ HO5 HQ5 z_;go_wp2_with fail;have HRT:=D_ (fun W=>zX o9.k o9.p W);have HS:Hid (∀W:World,W.heap[w.heap.size]?=some (.cells #[.int .i64 a,.string u,.int .i64 n,.int .i64 (po:Nat)] 96 (0,0))->W.heap[w3.heap.size]?=some (.cells #[.int .i64 o9.p,.string o9.k] 126 (0,0))->W.cell? ⟨w.heap.size,1,none⟩=some (.string u)/\W.cell? ⟨w3.heap.size,0,none⟩=some (.int .i64 o9.p)/\W.cell? ⟨w3.heap.size,1,none⟩=some (.string o9.k)):=D_ (fun W h1 h2=>⟨(A0 h1).2.1,(E0 h2).1,(E0 h2).2.1⟩);have HD:=D_ ((F_ w6.heap.size w6).drew);have M:=z.out.lt;have hs6:=(Array.getElem?_eq_some_iff.1 HP6.out).1;have hne1:w.heap.size≠w.heap.size+1:=by omega
       have hne2:w3.heap.size≠w.heap.size+1:=by omega
       refine wp_region_held_drew (S:=(fun W=>W.cell? ⟨w.heap.size,1,none⟩=some (.string u)/\W.cell? ⟨w3.heap.size,0,none⟩=some (.int .i64 o9.p)/\W.cell? ⟨w3.heap.size,1,none⟩=some (.string o9.k))) (by kernel_rfl) (HS.out _ HO6.out HP6.out) (fun hHeld1=>?_);refine tK 0 (v:=?v2) rfl (.inl ⟨by rfl,?y2⟩) ?r2
       case y2=>(intro w l;(try dsimp only at l);go_simp;try with_reducible rfl)
       (try simp only [Act.put,T_,C_,E_])
       refine tK 1 (v:=?v3) rfl (.inl ⟨by rfl,?y3⟩) ?r3
       case y3=>(intro w l;(try dsimp only at l);go_simp;try with_reducible rfl)
       (try simp only [Act.put,T_,C_,E_])
       refine tK 2 (v:=?v4) rfl (.inl ⟨by rfl,?y4⟩) ?r4
       case y4=>(intro w l;(try dsimp only at l);go_simp;try with_reducible rfl)
       (try simp only [Act.put,T_,C_,E_])
       refine tK 3 (v:=?v5) rfl (.inl ⟨by rfl,?y5⟩) ?r5
       case y5=>(intro w l;(try dsimp only at l);go_simp;try with_reducible rfl)
       (try simp only [Act.put,T_,C_,E_])
       refine tK 8 (v:=?v6) rfl (.inl ⟨by rfl,?y6⟩) ?r6
       case y6=>(intro w l;(try dsimp only at l);go_simp;try with_reducible rfl)
       (try simp only [Act.put,T_,C_,E_])
       refine tK 9 (v:=?v7) rfl (.inl ⟨by rfl,?y7⟩) ?r7
       case y7=>(intro w l;(try dsimp only at l);go_simp;try with_reducible rfl)
       (try simp only [Act.put,T_,C_,E_])
       refine rY 4 rfl fun K j=>?_;go_simp
       (with_reducible refine(HRT.out _).mono ?_);rintro e y1 ⟨rfl,c1⟩
       have C1:=D_ (HD.out.trans (c1.mono HD.out.size));have oo1:=D_ (B0 C1.out HO6.out);have pp1:=D_ (B0 C1.out HP6.out);have M1:=D_ (z.out.below C1.out);have f_:=D_ (B0 C1.out b_.out);have G1:=D_ (H.out.trans (RGo.of_below (r:=r) (v:=v) C1.out (N_ M)));have hsy1:=C1.out.size;clear c1;try go_wp2_with fail
       refine j.out _ _ (HS.out _ oo1.out pp1.out) (fun hHeld8=>?_);clear j K hHeld1;(try simp only [Act.put,T_,C_,E_])
       refine rY 5 rfl fun K j=>?_;go_simp
       (with_reducible refine(HT.out _ _ _ M1.out).mono ?_);rintro e y2 ⟨t2,ts2,ns2,er2,at2,v2,ad2,cap2,rfl,V,A,e_,hi2⟩
       have y_:=D_ V;have HGy2:=D_ (G1.out.trans A);have HTy2:=D_ e_;have HIy2:=D_ (fis_op (s:=st) (q:=o9.p) hi2);have oo2:=D_ (A.at oo1.out N.1 N.2);have pp2:=D_ (A.at pp1.out l_.1 l_.2);have HQy2:=D_ (A.at f_.out D.1 D.2);have HVy2:=D_ (A.ne (Array.getElem?_eq_some_iff.1 f_.out).1 D.2);have hsy2:=A.below.size;have hlty:=V.lt;clear V A e_ hi2;unfold tmv;try go_wp2_with fail
       refine j.out _ _ (HS.out _ oo2.out pp2.out) (fun hHeld9=>?_);clear j K hHeld8;(try simp only [Act.put,T_,C_,E_])
       have HAy:=D_ (args1 (B:=y1.heap.size) (by have:=(Array.getElem?_eq_some_iff.1 HQy2.out).1;omega) y_.out.ltv HTy2.out);refine rY 6 rfl fun K j=>?_;go_simp
       try go_wp2_with fail
       refine j.out _ _ (HS.out _ (N0 oo2.out _) (N0 pp2.out _)) (fun o_=>?_);clear j K hHeld9;(try simp only [Act.put,T_,C_,E_])
       refine rY 7 rfl fun K j=>?_;go_simp
       (with_reducible refine(j6 _ _ _ _ _).mono ?_);rintro e y3 ⟨rfl,c3⟩
       have C3:=D_ c3;have oo3:=D_ (B0 C3.out (N0 oo2.out _));have pp3:=D_ (B0 C3.out (N0 pp2.out _));have HQy3:=D_ (B0 C3.out (N0 HQy2.out (.cells (D0 t2 ad2 cap2).toArray 26)));obtain⟨d0,d1,d2,d3,e0,e1,e2,e3⟩:=A0 HQy3.out;clear c3;try go_wp2_with fail
       refine j.out _ _ (HS.out _ oo3.out pp3.out) (fun p_=>?_);clear j K o_;(try simp only [Act.put,T_,C_,E_])
       refine rY 10 rfl fun K j=>?_;go_simp
       try go_wp2_with fail
       refine j.out _ _ (HS.out _ ((I6 hne1 _ _ _ _).trans oo3.out) ((I6 hne2 _ _ _ _).trans pp3.out)) (fun q_=>?_);clear j K p_;(try simp only [Act.put,T_,C_,E_])
       refine rY 11 rfl fun K j=>?_;go_simp
       try go_wp2_with fail
       refine j.out _ _ (by assumption) (fun hHeld13=>?_);clear j K q_;(try simp only [Act.put,T_,C_,E_])
       refine wpAnyH_done (by kernel_rfl) ?_ _;go_wp2_with fail;have hba:=(F_ y2.heap.size y2).alloc (R_ _) (.cells (D0 t2 ad2 cap2).toArray 26);have C:Below y2.heap.size y2 y3:=hba.trans (C3.out.mono (by simp));have HA3:=D_ (HAy.out.on C3.out);have d_:(X0 st [t2]).name=u:=HU.out;have hsz:=HSZ.out;have hq9:=(Array.getElem?_eq_some_iff.1 f_.out).1;refine B_ (v:=.tuple #[tmv (X0 st [t2]) (some ⟨y2.heap.size,0,none⟩) 1,.int .i64 o9.p]) (by simp [results,Tryz.results129,go_sem,d0,d1,d2,d3,tmv,d_];exact⟨rfl,rfl,rfl⟩) rfl ?_;exact D5.fin (x:=E) (a0:=at_) (t:=X0 st [t2]) (p:=o9.p) (B:=y1.heap.size) rfl (y_.out.below C) (HGy2.out.trans (RGo.of_below C (N_ hlty))) (bX (by omega) (R_ 1) (by unfold maxLen;decide) HA3.out) (by rw [HV2.out];exact HIy2.out) k_ (by omega) (by omega) HVy2.out _ _ _ _
theorem rf_after {w:World} {r:Nat} {v:Value} {ts:List Tok} {ns:Nms} {er at_ a0:Int} {y:Rd Tm} {t:Tm} (h:Z0 w r v ts ns er at_) (c:FIs a0 y t ts ns er at_) (i: ∀t' ts' ns',y=.ok t' ts' ns'->2<=ts'.length):
 Calls Tryz.prog 86 #[.pointer (some ⟨r,0,none⟩)] w fun e w'=>e=.returned (.tuple #[])/\ ∃ts',Z0 w' r v ts' ns er at_/\RGo r v w v w'/\FIs a0 (y.bind fun t ts ns=>.ok t ts.tail ns) t ts' ns er at_:=by
 have d:=h.lt;by_cases b:er=0
 · obtain⟨rfl,rfl⟩:=c.good b;subst b;refine(G3 w r v ts ns at_ h (i _ _ _ rfl)).mono ?_;rintro e w' ⟨rfl,a,g⟩;exact⟨rfl,ts.tail,a,g,⟨rfl,rfl,rfl,rfl,rfl⟩⟩
 · obtain⟨o,rfl,rfl,rfl⟩:=c.broken b;refine(kj w r v ts ns 60 _ h b).mono ?_;rintro e w' ⟨rfl,a⟩;exact⟨rfl,ts,h.below a,RGo.of_below a (N_ d),⟨rfl,rfl⟩⟩
theorem iz {a0:Int} {x:Rd Tm} {t:Tm} {ts:List Tok} {ns:Nms} {er at_:Int} (h:FIs a0 x t ts ns er at_):FIs a0 (Yx x) (t,0) ts ns er at_:=oJ h
theorem V8 {w w1:World} {r:Nat} {v:Value} {ts:List Tok} {ns:Nms} {er at_:Int} (h:Z0 w r v ts ns er at_) (O2:Obj) (c:Below (w.alloc (.cells #[.int .i64 0,.string ⟨#[]⟩,.int .i64 0,.slice none 0 0] 26)).heap.size (w.alloc (.cells #[.int .i64 0,.string ⟨#[]⟩,.int .i64 0,.slice none 0 0] 26)) w1):
 ∃w2,w2=w1.alloc O2/\w2.heap.size=w1.heap.size+1/\w.heap.size+1<=w1.heap.size/\w2.heap[w.heap.size]?=some (.cells #[.int .i64 0,.string ⟨#[]⟩,.int .i64 0,.slice none 0 0] 26 (0,0))/\w2.heap[w1.heap.size]?=some O2/\Z0 w2 r v ts ns er at_/\RGo r v w v w2/\(w.heap.size≠r/\some w.heap.size≠v.ownBlock)/\(w1.heap.size≠r/\some w1.heap.size≠v.ownBlock):=by
 have g:=h.lt;have d:=c.size;rw [Z_]at d;have a:Below w.heap.size w w1:=((F_ w.heap.size w).alloc (R_ _) _).trans (c.mono (by simp));have b:=a.alloc a.size O2;exact⟨_,rfl,by simp,d,N0 (B0 c (U0 w _)) _,U0 _ _,h.below b,RGo.of_below b (N_ g),h.new_ne (R_ _),h.new_ne (by omega)⟩
set_option maxRecDepth 100000 in
theorem zZ {W:Rdr} (p:Int) (ts:List Tok) (ns:Nms) (w:World) (r:Nat) (v:Value) (at_:Int) (i:T0 ts) (j:(j0 ts).kind=5) (C:0<=(j0 ts).n) (h:Z0 w r v ts ns 0 at_):
 Calls Tryz.prog 100 #[.pointer (some ⟨r,0,none⟩),.int .i64 p] w fun e w'=>D5 r v w at_ (P2 W p ts ns) e w':=by
 have X:=h.lt;have O:=D_ (fun W' Y=>F4 W' r v ts ns 0 at_ Y i.pos);obtain⟨E,D⟩: ∃E,P2 W p ts ns=E:=⟨_,rfl⟩;rw [D];have Z:Hid (E=.ok (fx (j0 ts).n,0) ts.tail ns):=D_ (by rw [<-D];unfold P2 Tok.isAtom;rw [j,I_ (by decide),I_ (by decide),I_ (by decide),J_ ⟨rfl,C⟩]);have U:=i.two (by rw [j];decide);have V:=i.first.n;have b_:decide ((j0 ts).n<0)=false:=by simpa using C
 have k5:((j0 ts).kind==5)=true:=by rw [j];rfl
 unfold Y1 at*;generalize (⟨(j0 ts).text.toArray⟩:ByteArray)=u at*;clear i j D C;generalize (j0 ts).kind=a at*;generalize (j0 ts).n=n at*;generalize (j0 ts).pos=po at*;have J:=D_ h;have k:Hid (Below w.heap.size w (w.alloc (.cells #[.int .i64 0,.string ⟨#[]⟩,.int .i64 0,.slice none 0 0] 26))):=D_ ((F_ w.heap.size w).alloc (R_ _) _);clear h;go_enter Tryz.func100,Tryz.ntmps100;go_wp2_with fail;refine(O.out _ (J.out.below k.out)).mono ?_;rintro e w1 ⟨rfl,q⟩;go_upto_region 2 with fail;obtain⟨w2,A,d_,c_,o,c,g,s,G,z⟩:=V8 J.out (.cells #[.int .i64 a,.string u,.int .i64 n,.int .i64 (po:Nat)] 96) q;rw [<-A];have R:=D_ o;have N:=D_ c;have M:=D_ g;have H:=D_ s;have a_:=g.lt;obtain⟨b0,b1,b2,b3,_⟩:=A0 c;clear A o g s q k c O;go_wp2_with fail;refine(G3 w2 r v ts ns at_ M.out U).mono ?_;rintro e w3 ⟨rfl,y,b⟩;have m:=D_ y;have I:=D_ (H.out.trans b);have T:=D_ (b.at R.out G.1 G.2);obtain⟨_,_,b2,_⟩:=A0 (b.at N.out z.1 z.2);clear y b b0 b1 b3;go_wp2_with fail;refine(kQ _ _).mono ?_;rintro e w4 ⟨rfl,d⟩;obtain⟨d0,d1,d2,d3,e0,e1,e2,e3⟩:=A0 (B0 d T.out);have l:=D_ d;clear d b2;go_wp2_with fail;have F:=m.out.lt;refine B_ (v:=.tuple #[tmv (fx n) none 0,.int .i64 0]) (by simp [results,Tryz.results100,go_sem,d0,d1,d2,d3,tmv];exact⟨rfl,rfl,rfl,rfl⟩) rfl ?_;exact D5.fin (x:=E) (a0:=at_) (t:=fx n) (p:=0) (B:=w.heap.size+1) rfl (m.out.below l.out) (I.out.trans (RGo.of_below l.out (N_ F))) (u6q _ _ _ (D1 (by decide) (by decide)) V (Nat.zero_le _)) (by rw [Z.out];exact⟨rfl,rfl,rfl,rfl,rfl⟩) X (by omega) (by omega) G.2 _ _ _ _
set_option maxRecDepth 100000 in
theorem AZ {W:Rdr} (p:Int) (ts:List Tok) (ns:Nms) (w:World) (r:Nat) (v:Value) (at_:Int) (l:T0 ts) (G:(j0 ts).kind=5) (h0: ¬0<=(j0 ts).n) (h:Z0 w r v ts ns 0 at_):
 Calls Tryz.prog 100 #[.pointer (some ⟨r,0,none⟩),.int .i64 p] w fun e w'=>D5 r v w at_ (P2 W p ts ns) e w':=by
 have b_:=h.lt;have V:=D_ (fun W' j=>F4 W' r v ts ns 0 at_ j l.pos);obtain⟨E,F⟩: ∃E,P2 W p ts ns=E:=⟨_,rfl⟩;rw [F];have HV:Hid (E=.bad (j0 ts).pos):=D_ (by rw [<-F];unfold P2 Tok.isAtom;rw [G,I_ (by decide),I_ (by decide),I_ (by decide),I_ (fun hc=>h0 hc.2)]);have J:=D_ (fun W' j=>M8 W' r v ts ns at_ j l.pos);have a_:=l.first.n;have d_:decide ((j0 ts).n<0)=true:=by simp;omega
 have k5:((j0 ts).kind==5)=true:=by rw [G];rfl
 unfold Y1 at*;generalize (⟨(j0 ts).text.toArray⟩:ByteArray)=u at*;clear l G F h0;generalize (j0 ts).kind=a at*;generalize (j0 ts).n=n at*;generalize (j0 ts).pos=po at*;have O:=D_ h;have m:Hid (Below w.heap.size w (w.alloc (.cells #[.int .i64 0,.string ⟨#[]⟩,.int .i64 0,.slice none 0 0] 26))):=D_ ((F_ w.heap.size w).alloc (R_ _) _);clear h;go_enter Tryz.func100,Tryz.ntmps100;go_wp2_with fail;refine(V.out _ (O.out.below m.out)).mono ?_;rintro e w1 ⟨rfl,y⟩;go_upto_region 2 with fail;obtain⟨w2,D,f_,e_,s,g,k,z,I,C⟩:=V8 O.out (.cells #[.int .i64 a,.string u,.int .i64 n,.int .i64 (po:Nat)] 96) y;rw [<-D];have X:=D_ s;have T:=D_ g;have R:=D_ k;have M:=D_ z;have c_:=k.lt;obtain⟨b0,b1,b2,b3,_⟩:=A0 g;clear D s k z y m g V;go_wp2_with fail;refine(J.out _ R.out).mono ?_;rintro e w3 ⟨rfl,A,c⟩;have d:=D_ A;have N:=D_ (M.out.trans c);have Y:=D_ (c.at X.out I.1 I.2);have U:=D_ (c.at T.out C.1 C.2);clear A c b0 b1 b2 b3;go_wp2_with fail;refine(kj w3 r v ts ns 60 _ d.out (by decide)).mono ?_;rintro e w4 ⟨rfl,b⟩;have Z:=D_ (B0 b Y.out);obtain⟨_,_,b2,_⟩:=A0 (B0 b U.out);have o:=D_ b;clear b;go_wp2_with fail;refine(kQ _ _).mono ?_;rintro e w5 ⟨rfl,i⟩;obtain⟨d0,d1,d2,d3,e0,e1,e2,e3⟩:=A0 (B0 i Z.out);have q:=D_ (o.out.trans (i.mono o.out.size));clear i b2;go_wp2_with fail;have H:=d.out.lt;refine B_ (v:=.tuple #[tmv (fx n) none 0,.int .i64 0]) (by simp [results,Tryz.results100,go_sem,d0,d1,d2,d3,tmv];exact⟨rfl,rfl,rfl,rfl⟩) rfl ?_;exact D5.fin (x:=E) (a0:=at_) (t:=fx n) (p:=0) (B:=w.heap.size+1) rfl (d.out.below q.out) (N.out.trans (RGo.of_below q.out (N_ H))) (u6q _ _ _ (D1 (by decide) (by decide)) a_ (Nat.zero_le _)) (by rw [HV.out];exact⟨rfl,rfl⟩) b_ (by omega) (by omega) I.2 _ _ _ _
set_option maxRecDepth 100000 in
theorem BZ {W:Rdr} (p:Int) (ts:List Tok) (ns:Nms) (w:World) (r:Nat) (v:Value) (at_:Int) (m:T0 ts) (hn:ns.length<=200) (j:(j0 ts).kind=4) (h:Z0 w r v ts ns 0 at_):
 Calls Tryz.prog 100 #[.pointer (some ⟨r,0,none⟩),.int .i64 p] w fun e w'=>D5 r v w at_ (P2 W p ts ns) e w':=by
 have j_:=h.lt;have HP:=D_ (fun W' k=>F4 W' r v ts ns 0 at_ k m.pos);obtain⟨E,U⟩: ∃E,P2 W p ts ns=E:=⟨_,rfl⟩;rw [U];have HV:Hid (E=Yx ((MZ ts ns).bind fun t ts ns=>.ok t ts.tail ns)):=D_ (by rw [<-U,<-varS_step];unfold P2 Tok.isAtom;rw [j];rfl);have D:=m.two (by rw [j];decide);have A:=D_ (fun W' k=>rf_variable W' r v ts ns at_ k m hn);have i_:Hid (∀t' ts' ns',MZ ts ns=.ok t' ts' ns'->2<=ts'.length):=D_ (fun t' ts' ns' hx=>by
  unfold MZ at hx;split at hx
  · injection hx with _ h2 _;subst h2;exact D
  · split at hx
    · cases hx
    · injection hx with _ h2 _;subst h2;exact D)
 have k5:((j0 ts).kind==5)=false:=by rw [j];rfl
 have k4:((j0 ts).kind==4)=true:=by rw [j];rfl
 unfold Y1 at*;generalize (⟨(j0 ts).text.toArray⟩:ByteArray)=u at*;clear m j U hn;generalize (j0 ts).kind=a at*;generalize (j0 ts).n=n at*;generalize (j0 ts).pos=po at*;have HH:=D_ h;have q:Hid (Below w.heap.size w (w.alloc (.cells #[.int .i64 0,.string ⟨#[]⟩,.int .i64 0,.slice none 0 0] 26))):=D_ ((F_ w.heap.size w).alloc (R_ _) _);clear h;go_enter Tryz.func100,Tryz.ntmps100;go_wp2_with fail;refine(HP.out _ (HH.out.below q.out)).mono ?_;rintro e w1 ⟨rfl,G⟩;go_upto_region 2 with fail;obtain⟨w2,T,o_,n_,F,g,l,I,o,m_⟩:=V8 HH.out (.cells #[.int .i64 a,.string u,.int .i64 n,.int .i64 (po:Nat)] 96) G;rw [<-T];have y:=D_ F;have l_:=D_ g;have c_:=D_ l;have X:=D_ I;have k_:=l.lt;obtain⟨b0,b1,b2,b3,_⟩:=A0 g;clear T F l I G q g HP;go_wp2_with fail;refine(A.out _ c_.out).mono ?_;rintro e w3 ⟨t2,ts2,ns2,er2,at2,v2,ad2,cap2,rfl,N,c,R,J⟩;have d:=D_ N;have Y:=D_ (X.out.trans c);have f_:=D_ (c.at y.out o.1 o.2);have z:=D_ (c.ne (Array.getElem?_eq_some_iff.1 y.out).1 o.2);have g_:=D_ R;have a_:=D_ J;have p_:=c.below.size;clear N c R J A b0 b1 b2 b3;unfold tmv;go_upto_region 10 with fail;have H:Below w3.heap.size w3 (w3.alloc (.cells #[.int .i64 t2.kind,.string t2.name,.int .i64 t2.n,.slice ad2 t2.args.length cap2] 26)):=(F_ _ _).alloc (R_ _) _;have e_:=D_ (U0 w3 (.cells #[.int .i64 t2.kind,.string t2.name,.int .i64 t2.n,.slice ad2 t2.args.length cap2] 26));generalize w3.alloc (.cells #[.int .i64 t2.kind,.string t2.name,.int .i64 t2.n,.slice ad2 t2.args.length cap2] 26)=w4 at*;have s:=D_ H;clear H;have V:=d.out.lt;have C:=D_ (d.out.new_ne (R_ w3.heap.size));go_wp2_with fail;refine(rf_after (d.out.below s.out) a_.out i_.out).mono ?_;rintro e w5 ⟨rfl,ts5,O,i,M⟩;have d_:=D_ O;have b:=(RGo.of_below (r:=r) (v:=v2) s.out (N_ V)).trans i;have Z:=D_ (Y.out.trans b);have h_:=D_ (g_.out.go (by omega) b);have b_:=D_ (iz M);obtain⟨c0,c1,c2,c3,_⟩:=A0 (i.at e_.out C.out.1 C.out.2);obtain⟨d0,d1,d2,d3,e0,e1,e2,e3⟩:=A0 (b.at f_.out o.1 z.out);clear O i b M;go_wp2_with fail;refine B_ (v:=.tuple #[tmv t2 ad2 cap2,.int .i64 0]) (by simp [results,Tryz.results100,go_sem,d0,d1,d2,d3,tmv]) rfl ?_;exact D5.fin (x:=E) (a0:=at_) (t:=t2) (p:=0) (B:=w2.heap.size) rfl d_.out Z.out h_.out (by rw [HV.out];exact b_.out) j_ (by omega) (by omega) z.out _ _ _ _
theorem rf_word {m:Nat} {W:Rdr} (l:R2 W m) (d:N6 m W) (k:m<=4097) (p:Int) (ts:List Tok) (ns:Nms) (w:World) (r:Nat) (v:Value) (at_:Int) (i:ts.length<=m+1) (a:T0 ts) (j:ns.length<=200) (h:Z0 w r v ts ns 0 at_) (b:(j0 ts).isAtom=true):
 Calls Tryz.prog 129 #[.pointer (some ⟨r,0,none⟩),Y1 (j0 ts),.int .i64 p] w fun e w'=>D5 r v w at_ (Q5 W p ts ns) e w':=by
 by_cases c:(j0 ts.tail).kind=7
 · exact DZ l d k p ts ns w r v at_ i a j h b c
 by_cases g:(j0 ts).kind=3/\(j0 ts).text= [45]/\(j0 ts.tail).kind=5/\(j0 ts.tail).pos=(j0 ts).pos+1
 · exact rf_word_neg p ts ns w r v at_ a h b g
 · exact EZ d p ts ns w r v at_ i a j h b c g
set_option maxRecDepth 100000 in
theorem rf_begin_br {m:Nat} {W:Rdr} (hW:R2 W m) (hC:N6 m W) (hM:m<=4097) (p:Int) (ts:List Tok) (ns:Nms) (w:World) (r:Nat) (v:Value) (at_:Int) (hm:ts.length<=m+1) (V:T0 ts) (hn:ns.length<=200) (c:(j0 ts).kind=6\/(j0 ts).kind=7) (h:Z0 w r v ts ns 0 at_):
 Calls Tryz.prog 100 #[.pointer (some ⟨r,0,none⟩),.int .i64 p] w fun e w'=>D5 r v w at_ (P2 W p ts ns) e w':=by
 have O:=h.lt;have T:=D_ (fun W' D=>F4 W' r v ts ns 0 at_ D V.pos);obtain⟨E,U⟩: ∃E,P2 W p ts ns=E:=⟨_,rfl⟩;rw [U];have Z:Hid (E=Yx (q6 W ts ns)):=D_ (by rw [<-U];unfold P2 Tok.isAtom;rcases c with c|c<;>(rw [c];rfl));have o:=D_ (fun W' D=>rf_brackets hW hC hM ts ns W' r v at_ hm V hn D (by rcases c with c|c<;>rw [c]<;>decide));have k5:((j0 ts).kind==5)=false:=by rcases c with c|c<;>(rw [c];rfl)
 have k4:((j0 ts).kind==4)=false:=by rcases c with c|c<;>(rw [c];rfl)
 obtain⟨b6,k6⟩: ∃b,((j0 ts).kind==6)=b:=⟨_,rfl⟩;have k7:b6=false->((j0 ts).kind==7)=true:=fun hb=>by rcases c with c|c<;>(rw [c]at k6;rw [c]);(· rw [hb]at k6;cases k6);rfl
 unfold Y1 at T o;generalize (⟨(j0 ts).text.toArray⟩:ByteArray)=u at*;clear V c U hn hm hC hW;generalize (j0 ts).kind=a at*;generalize (j0 ts).n=n at*;generalize (j0 ts).pos=po at*;have X:=D_ h;have G:Hid (Below w.heap.size w (w.alloc (.cells #[.int .i64 0,.string ⟨#[]⟩,.int .i64 0,.slice none 0 0] 26))):=D_ ((F_ w.heap.size w).alloc (R_ _) _);clear h;go_enter Tryz.func100,Tryz.ntmps100;go_wp2_with fail;refine(T.out _ (X.out.below G.out)).mono ?_;rintro e w1 ⟨rfl,M⟩;go_upto_region 2 with fail;obtain⟨w2,R,e_,d_,J,C,F,N,l,c_⟩:=V8 X.out (.cells #[.int .i64 a,.string u,.int .i64 n,.int .i64 (po:Nat)] 96) M;rw [<-R];have k:=D_ J;have b_:=D_ C;have I:=D_ F;have H:=D_ N;have a_:=F.lt;obtain⟨b0,b1,b2,b3,_⟩:=A0 C;clear R J F N M G C T;have Y:=D_ k7;clear k7;cases b6 with
 |true=>
  go_wp2_with fail;refine(o.out _ I.out).mono ?_;rintro e w3 ⟨t2,ts2,ns2,er2,at2,v2,ad2,cap2,rfl,i,d,j,g⟩;have y:=D_ i;have q:=D_ (H.out.trans d);have A:=D_ (d.ne (Array.getElem?_eq_some_iff.1 k.out).1 l.2);have z:=D_ j;have s:=D_ g;obtain⟨d0,d1,d2,d3,e0,e1,e2,e3⟩:=A0 (d.at k.out l.1 l.2);clear i d j g b0 b1 b2 b3;unfold tmv;go_wp2_with fail;refine B_ (v:=.tuple #[tmv t2 ad2 cap2,.int .i64 0]) (by simp [results,Tryz.results100,go_sem,d0,d1,d2,d3,tmv]) rfl ?_;exact D5.fin (x:=E) (a0:=at_) (t:=t2) (p:=0) (B:=w2.heap.size) rfl y.out q.out z.out (by rw [Z.out];exact iz s.out) O (by omega) (by omega) A.out _ _ _ _
 |false=>
  have k7:=Y.out rfl;go_wp2_with fail;refine(o.out _ I.out).mono ?_;rintro e w3 ⟨t2,ts2,ns2,er2,at2,v2,ad2,cap2,rfl,i,d,j,g⟩;have y:=D_ i;have q:=D_ (H.out.trans d);have A:=D_ (d.ne (Array.getElem?_eq_some_iff.1 k.out).1 l.2);have z:=D_ j;have s:=D_ g;obtain⟨d0,d1,d2,d3,e0,e1,e2,e3⟩:=A0 (d.at k.out l.1 l.2);clear i d j g b0 b1 b2 b3;unfold tmv;go_wp2_with fail;refine B_ (v:=.tuple #[tmv t2 ad2 cap2,.int .i64 0]) (by simp [results,Tryz.results100,go_sem,d0,d1,d2,d3,tmv]) rfl ?_;exact D5.fin (x:=E) (a0:=at_) (t:=t2) (p:=0) (B:=w2.heap.size) rfl y.out q.out z.out (by rw [Z.out];exact iz s.out) O (by omega) (by omega) A.out _ _ _ _
set_option maxRecDepth 100000 in
theorem rf_begin_wd {m:Nat} {W:Rdr} (hW:R2 W m) (Z:N6 m W) (hM:m<=4097) (p:Int) (ts:List Tok) (ns:Nms) (w:World) (r:Nat) (v:Value) (at_:Int) (hm:ts.length<=m+1) (I:T0 ts) (hn:ns.length<=200) (c:(j0 ts).isAtom=true) (h:Z0 w r v ts ns 0 at_):
 Calls Tryz.prog 100 #[.pointer (some ⟨r,0,none⟩),.int .i64 p] w fun e w'=>D5 r v w at_ (P2 W p ts ns) e w':=by
 have a_:=h.lt;have G:=D_ (fun W' j=>F4 W' r v ts ns 0 at_ j I.pos);obtain⟨E,H⟩: ∃E,P2 W p ts ns=E:=⟨_,rfl⟩;rw [H];have HV:Hid (E=Q5 W p ts ns):=D_ (by rw [<-H];unfold P2;rw [J_ c]);have q:=D_ (fun W' j=>rf_word hW Z hM p ts ns W' r v at_ hm I hn j c);have d:=L7 c;have k5:((j0 ts).kind==5)=false:=by rcases d with c|c|c<;>(rw [c];rfl)
 have k4:((j0 ts).kind==4)=false:=by rcases d with c|c|c<;>(rw [c];rfl)
 have k6:((j0 ts).kind==6)=false:=by rcases d with c|c|c<;>(rw [c];rfl)
 have k7:((j0 ts).kind==7)=false:=by rcases d with c|c|c<;>(rw [c];rfl)
 obtain⟨x1,k1⟩: ∃b,((j0 ts).kind==1)=b:=⟨_,rfl⟩;obtain⟨x2,k2⟩: ∃b,((j0 ts).kind==2)=b:=⟨_,rfl⟩;obtain⟨x3,k3⟩: ∃b,((j0 ts).kind==3)=b:=⟨_,rfl⟩;have T:Hid ((x1||x2||x3)=true):=D_ (by rw [<-k1,<-k2,<-k3];exact c);unfold Y1 at G q;generalize (⟨(j0 ts).text.toArray⟩:ByteArray)=u at*;clear I c H hn hm Z hW d;generalize (j0 ts).kind=a at*;generalize (j0 ts).n=n at*;generalize (j0 ts).pos=po at*;have O:=D_ h;have l:Hid (Below w.heap.size w (w.alloc (.cells #[.int .i64 0,.string ⟨#[]⟩,.int .i64 0,.slice none 0 0] 26))):=D_ ((F_ w.heap.size w).alloc (R_ _) _);clear h;go_enter Tryz.func100,Tryz.ntmps100;go_wp2_with fail;refine(G.out _ (O.out.below l.out)).mono ?_;rintro e w1 ⟨rfl,y⟩;go_upto_region 2 with fail;obtain⟨w2,F,f_,e_,s,i,k,z,J,d_⟩:=V8 O.out (.cells #[.int .i64 a,.string u,.int .i64 n,.int .i64 (po:Nat)] 96) y;rw [<-F];have o:=D_ s;have c_:=D_ i;have U:=D_ k;have M:=D_ z;have b_:=k.lt;obtain⟨b0,b1,b2,b3,_⟩:=A0 i;clear F s k z y l i G;cases x1<;>cases x2<;>cases x3
 all_goals
  first
  |(exfalso;have d:=T.out;cases d;done)
  | (go_wp2_with fail
     refine(q.out _ U.out).mono ?_;rintro e w3 ⟨t2,p2,ts2,ns2,er2,at2,v2,ad2,cap2,rfl,C,g,D,A⟩;have V:=D_ C;have N:=D_ (M.out.trans g);have Y:=D_ (g.ne (Array.getElem?_eq_some_iff.1 o.out).1 J.2);have X:=D_ D;have R:=D_ A;obtain⟨d0,d1,d2,d3,e0,e1,e2,e3⟩:=A0 (g.at o.out J.1 J.2);clear C g D A b0 b1 b2 b3;unfold tmv;go_wp2_with fail;refine B_ (v:=.tuple #[tmv t2 ad2 cap2,.int .i64 p2]) (by simp [results,Tryz.results100,go_sem,d0,d1,d2,d3,tmv]) rfl ?_;exact D5.fin (x:=E) (a0:=at_) (t:=t2) (p:=p2) (B:=w2.heap.size) rfl V.out N.out X.out (by rw [HV.out];exact R.out) a_ (by omega) (by omega) Y.out _ _ _ _)
set_option maxRecDepth 100000 in
theorem rf_begin_no {W:Rdr} (p:Int) (ts:List Tok) (ns:Nms) (w:World) (r:Nat) (v:Value) (at_:Int) (y:T0 ts) (b:(j0 ts).kind=8\/(j0 ts).kind=9) (h:Z0 w r v ts ns 0 at_):
 Calls Tryz.prog 100 #[.pointer (some ⟨r,0,none⟩),.int .i64 p] w fun e w'=>D5 r v w at_ (P2 W p ts ns) e w':=by
 have M:=h.lt;have I:=D_ (fun W' g=>F4 W' r v ts ns 0 at_ g y.pos);obtain⟨E,s⟩: ∃E,P2 W p ts ns=E:=⟨_,rfl⟩;rw [s];have N:Hid (E=.bad (j0 ts).pos):=D_ (by rw [<-s];unfold P2 Tok.isAtom;rcases b with b|b<;>(rw [b];rfl));have A:=D_ (fun W' g=>M8 W' r v ts ns at_ g y.pos);have k1:((j0 ts).kind==1)=false:=by rcases b with b|b<;>(rw [b];rfl)
 have k2:((j0 ts).kind==2)=false:=by rcases b with b|b<;>(rw [b];rfl)
 have k3:((j0 ts).kind==3)=false:=by rcases b with b|b<;>(rw [b];rfl)
 have k4:((j0 ts).kind==4)=false:=by rcases b with b|b<;>(rw [b];rfl)
 have k5:((j0 ts).kind==5)=false:=by rcases b with b|b<;>(rw [b];rfl)
 have k6:((j0 ts).kind==6)=false:=by rcases b with b|b<;>(rw [b];rfl)
 have k7:((j0 ts).kind==7)=false:=by rcases b with b|b<;>(rw [b];rfl)
 unfold Y1 at*;generalize (⟨(j0 ts).text.toArray⟩:ByteArray)=u at*;clear y b s;generalize (j0 ts).kind=a at*;generalize (j0 ts).n=n at*;generalize (j0 ts).pos=po at*;have F:=D_ h;have j:Hid (Below w.heap.size w (w.alloc (.cells #[.int .i64 0,.string ⟨#[]⟩,.int .i64 0,.slice none 0 0] 26))):=D_ ((F_ w.heap.size w).alloc (R_ _) _);clear h;go_enter Tryz.func100,Tryz.ntmps100;go_wp2_with fail;refine(I.out _ (F.out.below j.out)).mono ?_;rintro e w1 ⟨rfl,l⟩;go_upto_region 2 with fail;obtain⟨w2,q,V,U,k,c,i,m,z,T⟩:=V8 F.out (.cells #[.int .i64 a,.string u,.int .i64 n,.int .i64 (po:Nat)] 96) l;rw [<-q];have J:=D_ k;have R:=D_ c;have G:=D_ i;have C:=D_ m;have O:=i.lt;obtain⟨b0,b1,b2,b3,_⟩:=A0 c;clear q k i m l j c I;go_wp2_with fail;refine(A.out _ G.out).mono ?_;rintro e w3 ⟨rfl,o,d⟩;have H:=D_ o;have D:=D_ (C.out.trans d);obtain⟨d0,d1,d2,d3,e0,e1,e2,e3⟩:=A0 (d.at J.out z.1 z.2);clear o d b0 b1 b2 b3;go_wp2_with fail;refine B_ (v:=.tuple #[.agg #[.int .i64 0,.string ⟨#[]⟩,.int .i64 0,.slice none 0 0],.int .i64 0]) (by simp [results,Tryz.results100,go_sem,d0,d1,d2,d3]) rfl ?_;exact D5.fin (x:=E) (a0:=at_) (t:=.mk 0 ⟨#[]⟩ 0 []) (p:=0) (B:=w.heap.size+1) rfl H.out D.out (u6q _ _ _ (D1 (by decide) (by decide)) (D1 (by decide) (by decide)) (Nat.zero_le _)) (by rw [N.out];exact⟨rfl,rfl⟩) M (by omega) (by omega) z.2 _ _ _ _
theorem rf_begins {m:Nat} {W:Rdr} (k:R2 W m) (i:N6 m W) (j:m<=4097) (p:Int) (ts:List Tok) (ns:Nms) (w:World) (r:Nat) (v:Value) (at_:Int) (l:ts.length<=m+1) (a:T0 ts) (c:ns.length<=200) (h:Z0 w r v ts ns 0 at_):
 Calls Tryz.prog 100 #[.pointer (some ⟨r,0,none⟩),.int .i64 p] w fun e w'=>D5 r v w at_ (P2 W p ts ns) e w':=by
 by_cases b:(j0 ts).isAtom=true
 · exact rf_begin_wd k i j p ts ns w r v at_ l a c b h
 by_cases o:(j0 ts).kind=4
 · exact BZ p ts ns w r v at_ a c o h
 by_cases q:(j0 ts).kind=6\/(j0 ts).kind=7
 · exact rf_begin_br k i j p ts ns w r v at_ l a c q h
 by_cases g:(j0 ts).kind=5
 · by_cases d:0<=(j0 ts).n
   · exact zZ p ts ns w r v at_ a g d h
   · exact AZ p ts ns w r v at_ a g d h
 · refine rf_begin_no p ts ns w r v at_ a ?_ h;have s:=a.first.kind;unfold Tok.isAtom at b;simp at b
   omega
def fLen (w:World) (r:Nat):Nat:=
 match w.cell? ⟨r,2,none⟩with
 |some (.int _ n)=>if n=0 then tokLen w r+1 else 0
 |_=>0
theorem Z0.fLen {w:World} {r:Nat} {v:Value} {ts:List Tok} {ns:Nms} {er at_:Int} (h:Z0 w r v ts ns er at_):fLen w r=if er=0 then ts.length+1 else 0:=by
 have a:=h.tokLen;obtain⟨g,k,cap,_,b,_⟩:=h.ex;unfold Go.Proofs.YtinefdlkajnomaaGreatDoor.fLen;rw [(l5 b).2.2.1,a]
def TState (W:Rdr) (m:Nat) (p:Int) (at_:Int) (E:Rd Tm) (t:Tm) (pri:Int) (tk:List Tok) (nk:Nms) (er atk:Int):Prop:=
 (er=0/\atk=at_/\T0 tk/\nk.length<=200/\tk.length<=m/\ ∃f,tk.length<=f/\z6 W p f t pri tk nk=E)\/(∃o:Nat,E=.bad o/\er=60/\atk=(o:Nat))
def V9 (p pri:Int):Option R->Bool
 |none=>true
 |some o=>decide (p<o.p)||decide (Y4 o.k o.p<pri)
theorem zq {W:Rdr} {m f:Nat} {p q a0:Int} {E:Rd Tm} {s:List UInt8} {t u:Tm} {tk tk2:List Tok} {nk nk2:Nms} {er at2 pr:Int} (h:R2 W m) (i:T0 tk) (k:nk.length<=200) (j:tk.length<=m) (l:tk.length<=f) (b:((W pr tk nk).bind fun u ts' ns'=>z6 W p f (X0 s [t,u]) q ts' ns')=E) (c:FIs a0 (W pr tk nk) u tk2 nk2 er at2):TState W m p a0 E (X0 s [t,u]) q tk2 nk2 er at2:=by
 by_cases a:er=0
 · obtain⟨hx,rfl⟩:=c.good a;obtain⟨b1,b2,b3⟩:=h _ _ _ _ _ _ j i k hx;exact .inl ⟨a,rfl,b1,b3,by omega,f,by omega,by rw [<-b,hx];rfl⟩
 · obtain⟨o,hx,d,g⟩:=c.broken a;exact .inr ⟨o,by rw [<-b,hx];rfl,d,g⟩
theorem fless {W:Rdr} {m k:Nat} {a0:Int} {u:Tm} {tk tk2:List Tok} {nk nk2:Nms} {er at2 pr:Int} (b:R2 W m) (c:T0 tk) (h:nk.length<=200) (g:tk.length<=m) (i:tk.length+1<=k) (d:FIs a0 (W pr tk nk) u tk2 nk2 er at2):(if er=0 then tk2.length+1 else 0)<(if(0:Int)=0 then k+1 else 0):=by
 rw [J_ rfl];by_cases a:er=0
 · obtain⟨hx,rfl⟩:=d.good a;obtain⟨b1,b2,b3⟩:=b _ _ _ _ _ _ g c h hx;rw [J_ a];omega
 · rw [I_ a];omega
theorem Vz (p pri:Int) (o:R):V9 p pri (some o)=(decide (p<o.p)||decide (Y4 o.k o.p<pri)):=rfl
theorem Xj {W:Rdr} {p pri:Int} {f:Nat} {t:Tm} {tk:List Tok} {nk:Nms} (c:tk.length<=f) (b:1<=tk.length) (h:V9 p pri (j0 tk).infix=true):z6 W p f t pri tk nk=.ok t tk nk:=by
 obtain⟨f',rfl⟩: ∃f',f=f'+1:=⟨f-1,by omega⟩;unfold z6;cases a:(j0 tk).infix with
 |none=>rfl
 |some o=>
  rw [a]at h;unfold V9 at h;simp only [Bool.or_eq_true,decide_eq_true_eq]at h
  show(if _ then _ else _)=_
  rw [J_ h]
theorem moreR_goes {W:Rdr} {p pri:Int} {f:Nat} {t:Tm} {tk:List Tok} {nk:Nms} {o:R} (d:tk.length<=f) (c:1<=tk.length) (b:(j0 tk).infix=some o) (h:V9 p pri (some o)=false): ∃f',f=f'+1/\z6 W p f t pri tk nk=(W (X1 o.k o.p) tk.tail nk).bind fun u ts' ns'=>z6 W p f' (X0 (j0 tk).text [t,u]) o.p ts' ns':=by
 obtain⟨f',rfl⟩: ∃f',f=f'+1:=⟨f-1,by omega⟩;refine⟨f',rfl,?_⟩;rw [show z6 W p (f'+1) t pri tk nk=match (j0 tk).infix with
  |none=>.ok t tk nk
  |some r=>
   if p<r.p\/Y4 r.k r.p<pri then .ok t tk nk
   else(W (X1 r.k r.p) tk.tail nk).bind fun u ts' ns'=>z6 W p f' (X0 (j0 tk).text [t,u]) r.p ts' ns' from rfl,b]
 unfold V9 at h;simp only [Bool.or_eq_false_iff,decide_eq_false_iff_not]at h
 show(if _ then _ else _)=_
 rw [I_ (by rintro(a|a);(· exact h.1 a);(· exact h.2 a))]
set_option maxRecDepth 100000 in
theorem rf_term {m:Nat} {W:Rdr} (hW:R2 W m) (hC:N6 m W) (hM:m<=4097) (p:Int) (ts:List Tok) (ns:Nms) (w:World) (r:Nat) (v:Value) (at_:Int) (hm:ts.length<=m+1) (hf:T0 ts) (hn:ns.length<=200) (h:Z0 w r v ts ns 0 at_):
 Calls Tryz.prog 85 #[.pointer (some ⟨r,0,none⟩),.int .i64 p] w fun e w'=>I7 r v w at_ ((P2 W p ts ns).bind fun x ts' ns'=>z6 W p ts'.length x.1 x.2 ts' ns') e w':=by
 have hlt:=h.lt;have HH:=D_ h;have X:=h.new_ne (b:=w.heap.size) (R_ _);have HB:=D_ (fun o:Obj=>(F_ w.heap.size w).alloc (R_ _) o);have HBG:=D_ (fun W' hm'=>rf_begins hW hC hM p ts ns W' r v at_ hm hf hn hm');have HZ:=D_ (U0 w (.cells #[.int .i64 0,.string ⟨#[]⟩,.int .i64 0,.slice none 0 0] 26));obtain⟨E,hE⟩: ∃E,((P2 W p ts ns).bind fun x ts' ns'=>z6 W p ts'.length x.1 x.2 ts' ns')=E:=⟨_,rfl⟩;rw [hE];have HST:Hid (∀t pri tk nk er atk,FIs at_ (P2 W p ts ns) (t,pri) tk nk er atk->TState W m p at_ E t pri tk nk er atk):=D_ (fun t pri tk nk er atk hi=>by
  by_cases he:er=0
  · obtain⟨hx,rfl⟩:=hi.good he;obtain⟨b1,b2,b3⟩:=D8 hW hm hf hn hx;have:=t.size_pos;exact .inl ⟨he,rfl,b1,b3,by dsimp only at b2;omega,tk.length,R_ _,by rw [<-hE,hx];rfl⟩
  · obtain⟨o,hx,h1,h2⟩:=hi.broken he;exact .inr ⟨o,by rw [<-hE,hx];rfl,h1,h2⟩)
 have HCC:=D_ hC;have w_:=D_ hW;clear h hf hC hW hE;go_enter Tryz.func85,Tryz.ntmps85;go_wp2_with fail;refine(X3 _ r v ts ns 0 at_ (HH.out.below (HB.out _))).mono ?_;rintro e w0 ⟨rfl,hb0⟩;have HB0:=D_ ((HB.out _).trans (hb0.mono (by simp)));have HZ0:=D_ (B0 hb0 HZ.out);have hs0:=hb0.size;rw [Z_]at hs0;clear hb0 HZ HB;go_wp2_with fail;refine(HBG.out _ (HH.out.below HB0.out)).mono ?_;rintro e w1 ⟨t1,pri1,ts1,ns1,er1,at1,v1,ad1,cap1,rfl,hm1,hg1,ht1,hi1⟩;have hs1:=hg1.below.size;have HQ1:=D_ (hg1.at HZ0.out X.1 X.2);have HQV1:=D_ (hg1.ne (b:=w.heap.size) (by omega) X.2);have HT1:=D_ ht1;have HI1:=D_ (HST.out _ _ _ _ _ _ hi1);have HM1:=D_ hm1;have HG1:=D_ ((RGo.of_below (r:=r) (v:=v) HB0.out (N_ hlt)).trans hg1);have hX1:=hm1.new_ne (b:=w1.heap.size) (R_ _);clear hm1 hg1 ht1 hi1 HST HBG HZ0 HH HB0;unfold tmv;go_wp2_with fail;have hb2:Below w1.heap.size w1 (w1.alloc (.cells #[.int .i64 t1.kind,.string t1.name,.int .i64 t1.n,.slice ad1 t1.args.length cap1] 26)):=(F_ _ _).alloc (R_ _) _;have HW2:Hid (T7 (w.heap.size+1) w1.heap.size (w1.alloc (.cells #[.int .i64 t1.kind,.string t1.name,.int .i64 t1.n,.slice ad1 t1.args.length cap1] 26)) v1 t1 ad1 cap1):=D_ ⟨U0 w1 _,TmP.kept HT1.out (fun b _ hb=>A_ _ _ _ hb) (fun b j hb=>⟨by have:=j.1;omega,j.2,by omega⟩),hX1.2⟩;generalize w1.alloc (.cells #[.int .i64 t1.kind,.string t1.name,.int .i64 t1.n,.slice ad1 t1.args.length cap1] 26)=w2 at*;have HM2:=D_ (HM1.out.below hb2);have HG2:=D_ (HG1.out.trans (RGo.of_below (r:=r) (v:=v1) hb2 (N_ HM1.out.lt)));have HQ2:=D_ (B0 hb2 HQ1.out);have z_:r<w1.heap.size:=HM1.out.lt;have hqT:w.heap.size+1<=w1.heap.size:=by omega
 clear hb2 HM1 HG1 HQ1 HT1 hs1 hs0 hX1;generalize w1.heap.size=T at*;go_loopw [6] (fun s6 wr=> ∃(pri:Int) (t:Tm) (ad:Option Addr) (cap:Nat) (tk:List Tok) (nk:Nms) (er atk:Int) (vk:Value),s6=.int .i64 pri/\Hid (TState W m p at_ E t pri tk nk er atk)/\Hid (Z0 wr r vk tk nk er atk)/\Hid (RGo r v w vk wr)/\Hid (T7 (w.heap.size+1) T wr vk t ad cap)/\Hid (wr.heap[w.heap.size]?=some (.cells #[.int .i64 0,.string ⟨#[]⟩,.int .i64 0,.slice none 0 0] 26 (0,0)))/\Hid (some w.heap.size≠vk.ownBlock)) (fun _ wr=>fLen wr r)
 case atStart=>exact⟨pri1,t1,ad1,cap1,ts1,ns1,er1,at1,v1,rfl,HI1,HM2,HG2,HW2,HQ2,HQV1⟩
 case round =>
  obtain⟨pri,t,ad,cap,tk,nk,er,atk,vk,rfl,HS,g,D,q,F,V⟩:=hrel;have HLEN:=D_ g.out.fLen;have hTwr:=(Array.getElem?_eq_some_iff.1 q.out.cells).1;clear HM2 HG2 HW2 HQ2 HQV1 HI1;have hG:=X3 wr r vk tk nk er atk g.out;by_cases he:er=0
  · obtain⟨_,rfl,hfk,t_,hmk,f,hff,hmore⟩:=HS.out.resolve_right (fun ⟨o,_,h2,_⟩=>by omega);subst he;have HFK:=D_ hfk;have HMO:=D_ hmore;have hfp:=hfk.pos;clear HS hfk hmore;have HG0:=D_ hG;clear hG;go_wp2_with fail;refine HG0.out.mono ?_;rintro e w3 ⟨rfl,G⟩;have D:=D_ (D.out.trans (RGo.of_below (r:=r) (v:=vk) G (N_ g.out.lt)));have g:=D_ (g.out.below G);have q:=D_ (q.out.below G);have F:=D_ (B0 G F.out);have hs3:=G.size;clear G HG0;go_wp2_with fail;refine(F4 w3 r vk tk nk 0 atk g.out hfp).mono ?_;rintro e w4 ⟨rfl,y_⟩;have D:=D_ (D.out.trans (RGo.of_below (r:=r) (v:=vk) y_ (N_ g.out.lt)));have g:=D_ (g.out.below y_);have q:=D_ (q.out.below y_);have F:=D_ (B0 y_ F.out);have hs4:=y_.size;clear y_;have HIA:=D_ (fun W'=>AX (j0 tk) W');have HIP:=D_ (fun W'=>M5 (j0 tk) [44] W');have HIN:=D_ (fun W'=>yX ⟨(j0 tk).text.toArray⟩ W');have HTX:Hid ((j0 tk).infix=if(j0 tk).isAtom||(j0 tk).isP [44]then opR (j0 tk).text 3 else none):=D_ rfl;have hsz:=HFK.out.first.size;obtain⟨P,K,B,hP,hB⟩:=V5 (L2 q4 ⟨(j0 tk).text.toArray⟩ 3);have HPK:Hid (∀o,opR (j0 tk).text 3=some o->P=o.p/\K=o.k):=D_ (fun o ho=>by
     unfold opR at ho;rw [ho,x7]at hP;injection hP with hP;simp only [Array.mk.injEq,List.cons.injEq,Value.agg.injEq,Value.int.injEq,Value.string.injEq,and_true,true_and]at hP
     exact⟨hP.1.1.symm,hP.1.2.symm⟩)
    have HBO:Hid (B=(opR (j0 tk).text 3).isSome):=D_ hB;rw [hP]at HIN;clear hP hB;have hsx: ∀x,V9 p pri x=V9 p pri x:=fun _=>rfl;clear hsx;generalize hia:(j0 tk).isAtom=ia at*;generalize hip:(j0 tk).isP [44]=ip at*;unfold Y1 at HIA HIP⊢;have HHH:=D_ (And.intro hia hip);clear hia hip;generalize hxl:(j0 tk).text=xl at*;have HXL:=D_ hxl;clear hxl;generalize h_:(⟨xl.toArray⟩:ByteArray)=xt at*;have HXT:=D_ h_;clear h_;generalize (j0 tk).kind=xk at*;generalize (j0 tk).n=xn at*;generalize (j0 tk).pos=xp at*;go_upto_region 6 with fail;have Z:=D_ (U0 w4 (.cells #[.int .i64 xk,.string xt,.int .i64 xn,.int .i64 (xp:Nat)] 96));have hb5:Below w4.heap.size w4 (w4.alloc (.cells #[.int .i64 xk,.string xt,.int .i64 xn,.int .i64 (xp:Nat)] 96)):=(F_ _ _).alloc (R_ _) _;have hs5:(w4.alloc (.cells #[.int .i64 xk,.string xt,.int .i64 xn,.int .i64 (xp:Nat)] 96)).heap.size=w4.heap.size+1:=by simp
    have c_:=g.out.new_ne (b:=w4.heap.size) (R_ _);generalize w4.alloc (.cells #[.int .i64 xk,.string xt,.int .i64 xn,.int .i64 (xp:Nat)] 96)=w5 at*;have D:=D_ (D.out.trans (RGo.of_below (r:=r) (v:=vk) hb5 (N_ g.out.lt)));have g:=D_ (g.out.below hb5);have q:=D_ (q.out.below hb5);have F:=D_ (B0 hb5 F.out);clear hb5;go_cut [31] (fun s31 wx=>s31=.bool (!(ia||ip))/\Hid (Below w5.heap.size w5 wx))
    case first=>
     obtain⟨b0,b1,b2,b3,_⟩:=A0 Z.out;cases ia with
     |true=>
      go_wp2_with fail;refine(HIA.out _).mono ?_;rintro e w6 ⟨rfl,C⟩;have HB6:=D_ C;clear C;go_wp2_with fail;go_meet;exact⟨rfl,HB6⟩
     |false=>
      go_wp2_with fail;refine(HIA.out _).mono ?_;rintro e w6 ⟨rfl,C⟩;have HB6:=D_ C;obtain⟨b0,b1,b2,b3,_⟩:=A0 (B0 C Z.out);clear C;go_wp2_with fail;refine(HIP.out _).mono ?_;rintro e w7 ⟨rfl,d_⟩;have HB7:=D_ (HB6.out.trans (d_.mono HB6.out.size));clear d_;go_wp2_with fail;go_meet;exact⟨rfl,HB7⟩
    case rest=>
     obtain⟨rfl,k_⟩:=hcut;have Z:=D_ (B0 k_.out Z.out);have hsc:=k_.out.size;have D:=D_ (D.out.trans (RGo.of_below (r:=r) (v:=vk) k_.out (N_ g.out.lt)));have g:=D_ (g.out.below k_.out);have q:=D_ (q.out.below k_.out);have F:=D_ (B0 k_.out F.out);clear k_ HIA HIP;cases hor:(ia||ip)with
     | false=>
      have HFI:Hid (FIs atk E t tk nk 0 atk):=D_ (by
       rw [<-HMO.out,Xj hff hfp (by rw [HTX.out,hor];rfl)];exact⟨rfl,rfl,rfl,rfl,rfl⟩)
      obtain⟨u0,u1,u2,u3,_⟩:=A0 q.out.cells;obtain⟨d0,d1,d2,d3,e0,e1,e2,e3⟩:=A0 F.out;go_wp2_with fail;refine B_ (v:=tmv t ad cap) (by simp [results,Tryz.results85,go_sem,d0,d1,d2,d3,tmv]) rfl ?_;exact I7.fin (x:=E) (a0:=atk) (t:=t) (B:=w.heap.size+1) rfl g.out D.out (TmP.kept q.out.tm (fun _ _ _=>rfl) (fun b j _=>⟨j.1,j.2.1⟩)) HFI.out hlt (R_ _) (Nat.lt_succ_self _) V.out _ _ _ _
     | true =>
      have HTX2:Hid ((j0 tk).infix=opR xl 3):=D_ (by rw [HTX.out,hor];rfl);obtain⟨_,b1,_⟩:=A0 Z.out;clear HTX;go_wp2_with fail;refine(HIN.out _).mono ?_;rintro e w6 ⟨rfl,C⟩;have Z:=D_ (B0 C Z.out);have hs6:=C.size;have D:=D_ (D.out.trans (RGo.of_below (r:=r) (v:=vk) C (N_ g.out.lt)));have g:=D_ (g.out.below C);have q:=D_ (q.out.below C);have F:=D_ (B0 C F.out);clear C b1;go_upto_region 8 with fail;have HO:=D_ (U0 w6 (.cells #[.int .i64 P,.string K] 126));have d_:Below w6.heap.size w6 (w6.alloc (.cells #[.int .i64 P,.string K] 126)):=(F_ _ _).alloc (R_ _) _;have Z:=D_ (N0 Z.out (.cells #[.int .i64 P,.string K] 126));have hs7:(w6.alloc (.cells #[.int .i64 P,.string K] 126)).heap.size=w6.heap.size+1:=by simp
      have b_:=g.out.new_ne (b:=w6.heap.size) (R_ _);generalize w6.alloc (.cells #[.int .i64 P,.string K] 126)=w7 at*;have D:=D_ (D.out.trans (RGo.of_below (r:=r) (v:=vk) d_ (N_ g.out.lt)));have g:=D_ (g.out.below d_);have q:=D_ (q.out.below d_);have F:=D_ (B0 d_ F.out);clear d_;go_cut [51] (fun s51 wx=>s51=.bool (V9 p pri (opR xl 3))/\Hid (Below w7.heap.size w7 wx))
      case first=>
       obtain⟨o0,o1,_⟩:=E0 HO.out;cases B with
       | false=>
        have hno:opR xl 3=none:=Option.isNone_iff_eq_none.1 (by
         have hb:=HBO.out;cases hh:opR xl 3 with
         |none=>rfl
         |some o=>rw [hh]at hb;cases hb)
        have HNO:=D_ hno;clear hno;go_wp2_with fail;go_meet;exact⟨by rw [HNO.out];rfl,D_ (F_ _ _)⟩
       | true=>
        obtain⟨o9,u_⟩: ∃o9,opR xl 3=some o9:=Option.isSome_iff_exists.1 HBO.out.symm;obtain⟨rfl,rfl⟩:=HPK.out o9 u_;have HL:=D_ (fun W'=>ref_Left o9.k o9.p W');have U:=D_ u_;clear u_;cases h1:decide (p<o9.p)with
        |true=>
         go_wp2_with fail;go_meet;exact⟨by rw [U.out,Vz,h1];rfl,D_ (F_ _ _)⟩
        |false=>
         go_wp2_with fail;refine(HL.out _).mono ?_;rintro e w8 ⟨rfl,hb8⟩;have HB8:=D_ hb8;clear hb8;go_wp2_with fail;go_meet;exact⟨by rw [U.out,Vz,h1];rfl,HB8⟩
      case rest=>
       obtain⟨rfl,a_⟩:=hcut;have Z:=D_ (B0 a_.out Z.out);have HO:=D_ (B0 a_.out HO.out);have hsd:=a_.out.size;have D:=D_ (D.out.trans (RGo.of_below (r:=r) (v:=vk) a_.out (N_ g.out.lt)));have g:=D_ (g.out.below a_.out);have q:=D_ (q.out.below a_.out);have F:=D_ (B0 a_.out F.out);clear a_ HIN;cases R:V9 p pri (opR xl 3)with
       | true=>
        have HFI:Hid (FIs atk E t tk nk 0 atk):=D_ (by
         rw [<-HMO.out,Xj hff hfp (by rw [HTX2.out,R])];exact⟨rfl,rfl,rfl,rfl,rfl⟩)
        obtain⟨u0,u1,u2,u3,_⟩:=A0 q.out.cells;obtain⟨d0,d1,d2,d3,e0,e1,e2,e3⟩:=A0 F.out;go_wp2_with fail;refine B_ (v:=tmv t ad cap) (by simp [results,Tryz.results85,go_sem,d0,d1,d2,d3,tmv]) rfl ?_;exact I7.fin (x:=E) (a0:=atk) (t:=t) (B:=w.heap.size+1) rfl g.out D.out (TmP.kept q.out.tm (fun _ _ _=>rfl) (fun b j _=>⟨j.1,j.2.1⟩)) HFI.out hlt (R_ _) (Nat.lt_succ_self _) V.out _ _ _ _
       | false=>
        obtain⟨o9,u_⟩: ∃o9,opR xl 3=some o9:=by
         cases hh:opR xl 3 with
         |none=>rw [hh]at R;cases R
         |some o=>exact⟨o,rfl⟩
        obtain⟨rfl,rfl⟩:=HPK.out o9 u_;have hin:=HTX2.out;rw [u_]at R hin;obtain⟨f',rfl,hmg⟩:=moreR_goes (W:=W) (t:=t) (nk:=nk) hff hfp hin R;have HMG:Hid (((W (X1 o9.k o9.p) tk.tail nk).bind fun u ts' ns'=>z6 W p f' (X0 xl [t,u]) o9.p ts' ns')=E):=D_ (by rw [<-HMO.out,hmg,HXL.out]);obtain⟨hft,htl⟩:=HFK.out.tail (L9 hin);have v_:=D_ hft;have h2l:2<=tk.length:=by have:=hft.pos;omega
        have HT:=D_ (fun W' v' hm'=>HCC.out (X1 o9.k o9.p) tk.tail nk W' r v' atk (by omega) hft t_ hm');have HRT:=D_ (fun W'=>zX o9.k o9.p W');clear R hin hmg hft u_ HMO HTX2 HPK HBO;have hTw:=(Array.getElem?_eq_some_iff.1 q.out.cells).1;go_wp2_with fail;refine(G3 _ r vk tk nk atk g.out h2l).mono ?_;rintro e w8 ⟨rfl,hm8,s_⟩;have HX8:=D_ (s_.at Z.out c_.1 c_.2);have HO8:=D_ (s_.at HO.out b_.1 b_.2);have HQ8:=D_ (s_.at F.out X.1 V.out);have HW8:=D_ (q.out.go (by omega) (by omega) s_);have HG8:=D_ (D.out.trans s_);have HM8:=D_ hm8;have hs8:=s_.below.size;clear hm8 s_ g D q F Z HO;go_wp2_with fail;have HD:=D_ ((F_ w8.heap.size w8).drew);have l:Hid (∀W:World,W.heap[w4.heap.size]?=some (.cells #[.int .i64 xk,.string xt,.int .i64 xn,.int .i64 (xp:Nat)] 96 (0,0))->W.heap[w6.heap.size]?=some (.cells #[.int .i64 o9.p,.string o9.k] 126 (0,0))->W.cell? ⟨w4.heap.size,1,none⟩=some (.string xt)/\W.cell? ⟨w6.heap.size,0,none⟩=some (.int .i64 o9.p)/\W.cell? ⟨w6.heap.size,1,none⟩=some (.string o9.k)):=D_ (fun W h1 h2=>⟨(A0 h1).2.1,(E0 h2).1,(E0 h2).2.1⟩);have hlt8:=HM8.out.lt;have hTw8:=(Array.getElem?_eq_some_iff.1 HW8.out.cells).1;have HW8d:=D_ (HW8.out.below HD.out);have hneX:w4.heap.size≠T:=by omega
        have hneO:w6.heap.size≠T:=by omega
        have hneQ:w.heap.size≠T:=by omega
        refine wp_region_held_drew (S:=(fun W=>W.cell? ⟨w4.heap.size,1,none⟩=some (.string xt)/\W.cell? ⟨w6.heap.size,0,none⟩=some (.int .i64 o9.p)/\W.cell? ⟨w6.heap.size,1,none⟩=some (.string o9.k))) (by kernel_rfl) (l.out _ HX8.out HO8.out) (fun hHeld1=>?_);refine tK 0 (v:=?v2) rfl (.inl ⟨by rfl,?y2⟩) ?r2
        case y2=>(intro w r_;(try dsimp only at r_);go_simp;try with_reducible rfl)
        (try simp only [Act.put,T_,C_,E_])
        refine tK 1 (v:=?v3) rfl (.inl ⟨by rfl,?y3⟩) ?r3
        case y3=>(intro w r_;(try dsimp only at r_);go_simp;try with_reducible rfl)
        (try simp only [Act.put,T_,C_,E_])
        refine tK 3 (v:=?v4) rfl (.inl ⟨by rfl,?y4⟩) ?r4
        case y4=>(intro w r_;(try dsimp only at r_);go_simp;try with_reducible rfl)
        (try simp only [Act.put,T_,C_,E_])
        refine tK 4 (v:=?v5) rfl (.inl ⟨by rfl,?y5⟩) ?r5
        case y5=>(intro w r_;(try dsimp only at r_);go_simp;try with_reducible rfl)
        (try simp only [Act.put,T_,C_,E_])
        refine wpAnyH_ready (rs:= [2,5]) (by kernel_rfl) (by simp) ?_;refine AllReadyH.cons (o:=_) rfl (fun K a=>?_) (AllReadyH.cons (o:=_) rfl (fun K a=>?_) (AllReadyH.nil))
        · obtain⟨u0,u1,u2,u3,_⟩:=A0 HW8d.out.cells;go_simp
          try go_wp2_with fail
          refine a.out _ _ (l.out _ HX8.out HO8.out) (fun hHeld6=>?_);clear a K hHeld1;(try simp only [Act.put,T_,C_,E_])
          refine rY 5 rfl fun K a=>?_;go_simp
          (with_reducible refine(HRT.out _).mono ?_);rintro e y1 ⟨rfl,c1⟩
          have C1:=D_ (HD.out.trans (c1.mono HD.out.size));have q_:=D_ (B0 C1.out HX8.out);have U:=D_ (B0 C1.out HO8.out);have HM9:=D_ (HM8.out.below C1.out);have o_:=D_ (B0 C1.out HQ8.out);have HW9:=D_ (HW8.out.below C1.out);have HG9:=D_ (HG8.out.trans (RGo.of_below (r:=r) (v:=vk) C1.out (N_ hlt8)));have hs9:=C1.out.size;clear c1;try go_wp2_with fail
          refine a.out _ _ (l.out _ q_.out U.out) (fun hHeld7=>?_);clear a K hHeld6;(try simp only [Act.put,T_,C_,E_])
          refine rY 6 rfl fun K a=>?_;go_simp
          (with_reducible refine(HT.out _ _ HM9.out).mono ?_);rintro e y2 ⟨u9,tk2,nk2,er2,at2,v2,ad2,cap2,rfl,f_,c,g_,e_⟩
          have A:=D_ f_;have l_:=D_ (HG9.out.trans c);have H:=D_ e_;have y:=D_ (c.at q_.out c_.1 c_.2);have s:=D_ (c.at U.out b_.1 b_.2);have m_:=D_ (c.at o_.out X.1 V.out);have i:=D_ (HW9.out.go (by omega) (by omega) c);have Y:=D_ (c.ne (Array.getElem?_eq_some_iff.1 o_.out).1 V.out);have hs10:=c.below.size;have p_:Hid (TmP y2 (fun b=>w.heap.size+1<=b/\some b≠v2.ownBlock/\b≠T) u9 ad2 cap2):=D_ (TmP.kept g_ (fun _ _ _=>rfl) (fun b j _=>⟨by have:=j.1;omega,j.2,by have:=j.1;omega⟩));clear f_ c g_ e_;unfold tmv;try go_wp2_with fail
          refine a.out _ _ (l.out _ y.out s.out) (fun hHeld8=>?_);clear a K hHeld7;(try simp only [Act.put,T_,C_,E_])
          refine rY 7 rfl fun K a=>?_;go_simp
          try go_wp2_with fail
          refine a.out _ _ (l.out _ (N0 y.out _) (N0 s.out _)) (fun hHeld9=>?_);clear a K hHeld8;(try simp only [Act.put,T_,C_,E_])
          have O:=A.out.ltv;have i_:Hid (M0 (y2.alloc (.cells #[.int .i64 t.kind,.string t.name,.int .i64 t.n,.slice ad t.args.length cap,.int .i64 u9.kind,.string u9.name,.int .i64 u9.n,.slice ad2 u9.args.length cap2] 26)) (fun b=>w.heap.size+1<=b/\some b≠v2.ownBlock/\b≠T) (some ⟨y2.heap.size,0,none⟩) [t,u9]):=D_ (Yq ⟨by omega,fun e=>by have:=O _ e.symm;omega,by omega⟩ i.out.tm p_.out);refine rY 8 rfl fun K a=>?_;go_simp
          (with_reducible refine(j6 _ _ _ _ _).mono ?_);rintro e y3 ⟨rfl,c3⟩
          have d:Below y2.heap.size y2 y3:=((F_ y2.heap.size y2).alloc (R_ _) (.cells #[.int .i64 t.kind,.string t.name,.int .i64 t.n,.slice ad t.args.length cap,.int .i64 u9.kind,.string u9.name,.int .i64 u9.n,.slice ad2 u9.args.length cap2] 26)).trans (c3.mono (by simp));have z:=D_ d;have N:=D_ (B0 d y.out);have J:=D_ (B0 d s.out);have M:=D_ (B0 d i.out.cells);have j_:=D_ (M0.kept i_.out (w':=y3) (Q:=fun b=>w.heap.size+1<=b/\some b≠v2.ownBlock/\b≠T) (fun b _ hb=>c3.block b hb) (fun _ j _=>j));obtain⟨d0,d1,d2,d3,e0,e1,e2,e3⟩:=A0 M.out;clear d c3;try go_wp2_with fail
          refine a.out _ _ (l.out _ N.out J.out) (fun hHeld10=>?_);clear a K hHeld9;(try simp only [Act.put,T_,C_,E_])
          refine rY 9 rfl fun K a=>?_;go_simp
          try go_wp2_with fail
          refine a.out _ _ (l.out _ ((I6 hneX _ _ _ _).trans N.out) ((I6 hneO _ _ _ _).trans J.out)) (fun hHeld11=>?_);clear a K hHeld10;(try simp only [Act.put,T_,C_,E_])
          refine wpAnyH_done (by kernel_rfl) ?_ _;try go_wp2_with fail
          obtain⟨n1,n2,n3,n4⟩:=T7.put (t:=X0 xl [t,u9]) (l_.out.trans (RGo.of_below (r:=r) (v:=v2) z.out (N_ A.out.lt))) z_ (by omega) i.out.own M.out (bJ (by omega) (R_ 2) (by unfold maxLen;decide) j_.out) _ rfl;have h_:(X0 xl [t,u9]).name=xt:=HXT.out;rw [h_]at n1 n2 n3 n4;have I:=D_ ((A.out.below z.out).put z_ i.out.own n3);have n_:=D_ ((n3 _ hneQ).trans (B0 z.out m_.out));go_roundw
          case rel=>exact⟨o9.p,X0 xl [t,u9],_,_,tk2,nk2,er2,at2,v2,rfl,D_ (zq w_.out v_.out t_ (by omega) (by omega) HMG.out H.out),I,D_ n1,D_ n2,n_,Y⟩
          case measure=>exact Nat.lt_of_le_of_lt (Nat.le_of_eq I.out.fLen) (by rw [HLEN.out];exact fless w_.out v_.out t_ (by omega) (by omega) H.out)
        · go_simp
          (with_reducible refine(HRT.out _).mono ?_);rintro e y1 ⟨rfl,c1⟩
          have C1:=D_ (HD.out.trans (c1.mono HD.out.size));have q_:=D_ (B0 C1.out HX8.out);have U:=D_ (B0 C1.out HO8.out);have HM9:=D_ (HM8.out.below C1.out);have o_:=D_ (B0 C1.out HQ8.out);have HW9:=D_ (HW8.out.below C1.out);have HG9:=D_ (HG8.out.trans (RGo.of_below (r:=r) (v:=vk) C1.out (N_ hlt8)));have hs9:=C1.out.size;clear c1;try go_wp2_with fail
          refine a.out _ _ (l.out _ q_.out U.out) (fun x_=>?_);clear a K hHeld1;(try simp only [Act.put,T_,C_,E_])
          refine wpAnyH_ready (rs:= [2,6]) (by kernel_rfl) (by simp) ?_;refine AllReadyH.cons (o:=_) rfl (fun K a=>?_) (AllReadyH.cons (o:=_) rfl (fun K a=>?_) (AllReadyH.nil))
          · obtain⟨u0,u1,u2,u3,_⟩:=A0 HW9.out.cells;go_simp
            try go_wp2_with fail
            refine a.out _ _ (l.out _ q_.out U.out) (fun hHeld13=>?_);clear a K x_;(try simp only [Act.put,T_,C_,E_])
            refine rY 6 rfl fun K a=>?_;go_simp
            (with_reducible refine(HT.out _ _ HM9.out).mono ?_);rintro e y2 ⟨u9,tk2,nk2,er2,at2,v2,ad2,cap2,rfl,f_,c,g_,e_⟩
            have A:=D_ f_;have l_:=D_ (HG9.out.trans c);have H:=D_ e_;have y:=D_ (c.at q_.out c_.1 c_.2);have s:=D_ (c.at U.out b_.1 b_.2);have m_:=D_ (c.at o_.out X.1 V.out);have i:=D_ (HW9.out.go (by omega) (by omega) c);have Y:=D_ (c.ne (Array.getElem?_eq_some_iff.1 o_.out).1 V.out);have hs10:=c.below.size;have p_:Hid (TmP y2 (fun b=>w.heap.size+1<=b/\some b≠v2.ownBlock/\b≠T) u9 ad2 cap2):=D_ (TmP.kept g_ (fun _ _ _=>rfl) (fun b j _=>⟨by have:=j.1;omega,j.2,by have:=j.1;omega⟩));clear f_ c g_ e_;unfold tmv;try go_wp2_with fail
            refine a.out _ _ (l.out _ y.out s.out) (fun hHeld14=>?_);clear a K hHeld13;(try simp only [Act.put,T_,C_,E_])
            refine rY 7 rfl fun K a=>?_;go_simp
            try go_wp2_with fail
            refine a.out _ _ (l.out _ (N0 y.out _) (N0 s.out _)) (fun hHeld15=>?_);clear a K hHeld14;(try simp only [Act.put,T_,C_,E_])
            have O:=A.out.ltv;have i_:Hid (M0 (y2.alloc (.cells #[.int .i64 t.kind,.string t.name,.int .i64 t.n,.slice ad t.args.length cap,.int .i64 u9.kind,.string u9.name,.int .i64 u9.n,.slice ad2 u9.args.length cap2] 26)) (fun b=>w.heap.size+1<=b/\some b≠v2.ownBlock/\b≠T) (some ⟨y2.heap.size,0,none⟩) [t,u9]):=D_ (Yq ⟨by omega,fun e=>by have:=O _ e.symm;omega,by omega⟩ i.out.tm p_.out);refine rY 8 rfl fun K a=>?_;go_simp
            (with_reducible refine(j6 _ _ _ _ _).mono ?_);rintro e y3 ⟨rfl,c3⟩
            have d:Below y2.heap.size y2 y3:=((F_ y2.heap.size y2).alloc (R_ _) (.cells #[.int .i64 t.kind,.string t.name,.int .i64 t.n,.slice ad t.args.length cap,.int .i64 u9.kind,.string u9.name,.int .i64 u9.n,.slice ad2 u9.args.length cap2] 26)).trans (c3.mono (by simp));have z:=D_ d;have N:=D_ (B0 d y.out);have J:=D_ (B0 d s.out);have M:=D_ (B0 d i.out.cells);have j_:=D_ (M0.kept i_.out (w':=y3) (Q:=fun b=>w.heap.size+1<=b/\some b≠v2.ownBlock/\b≠T) (fun b _ hb=>c3.block b hb) (fun _ j _=>j));obtain⟨d0,d1,d2,d3,e0,e1,e2,e3⟩:=A0 M.out;clear d c3;try go_wp2_with fail
            refine a.out _ _ (l.out _ N.out J.out) (fun hHeld16=>?_);clear a K hHeld15;(try simp only [Act.put,T_,C_,E_])
            refine rY 9 rfl fun K a=>?_;go_simp
            try go_wp2_with fail
            refine a.out _ _ (l.out _ ((I6 hneX _ _ _ _).trans N.out) ((I6 hneO _ _ _ _).trans J.out)) (fun hHeld17=>?_);clear a K hHeld16;(try simp only [Act.put,T_,C_,E_])
            refine wpAnyH_done (by kernel_rfl) ?_ _;try go_wp2_with fail
            obtain⟨n1,n2,n3,n4⟩:=T7.put (t:=X0 xl [t,u9]) (l_.out.trans (RGo.of_below (r:=r) (v:=v2) z.out (N_ A.out.lt))) z_ (by omega) i.out.own M.out (bJ (by omega) (R_ 2) (by unfold maxLen;decide) j_.out) _ rfl;have h_:(X0 xl [t,u9]).name=xt:=HXT.out;rw [h_]at n1 n2 n3 n4;have I:=D_ ((A.out.below z.out).put z_ i.out.own n3);have n_:=D_ ((n3 _ hneQ).trans (B0 z.out m_.out));go_roundw
            case rel=>exact⟨o9.p,X0 xl [t,u9],_,_,tk2,nk2,er2,at2,v2,rfl,D_ (zq w_.out v_.out t_ (by omega) (by omega) HMG.out H.out),I,D_ n1,D_ n2,n_,Y⟩
            case measure=>exact Nat.lt_of_le_of_lt (Nat.le_of_eq I.out.fLen) (by rw [HLEN.out];exact fless w_.out v_.out t_ (by omega) (by omega) H.out)
          · go_simp
            (with_reducible refine(HT.out _ _ HM9.out).mono ?_);rintro e y2 ⟨u9,tk2,nk2,er2,at2,v2,ad2,cap2,rfl,f_,c,g_,e_⟩
            have A:=D_ f_;have l_:=D_ (HG9.out.trans c);have H:=D_ e_;have y:=D_ (c.at q_.out c_.1 c_.2);have s:=D_ (c.at U.out b_.1 b_.2);have m_:=D_ (c.at o_.out X.1 V.out);have i:=D_ (HW9.out.go (by omega) (by omega) c);have Y:=D_ (c.ne (Array.getElem?_eq_some_iff.1 o_.out).1 V.out);have hs10:=c.below.size;have p_:Hid (TmP y2 (fun b=>w.heap.size+1<=b/\some b≠v2.ownBlock/\b≠T) u9 ad2 cap2):=D_ (TmP.kept g_ (fun _ _ _=>rfl) (fun b j _=>⟨by have:=j.1;omega,j.2,by have:=j.1;omega⟩));clear f_ c g_ e_;unfold tmv;try go_wp2_with fail
            refine a.out _ _ (l.out _ y.out s.out) (fun hHeld18=>?_);clear a K x_;(try simp only [Act.put,T_,C_,E_])
            refine rY 2 rfl fun K a=>?_;obtain⟨u0,u1,u2,u3,_⟩:=A0 i.out.cells;go_simp
            try go_wp2_with fail
            refine a.out _ _ (l.out _ y.out s.out) (fun hHeld19=>?_);clear a K hHeld18;(try simp only [Act.put,T_,C_,E_])
            refine rY 7 rfl fun K a=>?_;go_simp
            try go_wp2_with fail
            refine a.out _ _ (l.out _ (N0 y.out _) (N0 s.out _)) (fun hHeld20=>?_);clear a K hHeld19;(try simp only [Act.put,T_,C_,E_])
            have O:=A.out.ltv;have i_:Hid (M0 (y2.alloc (.cells #[.int .i64 t.kind,.string t.name,.int .i64 t.n,.slice ad t.args.length cap,.int .i64 u9.kind,.string u9.name,.int .i64 u9.n,.slice ad2 u9.args.length cap2] 26)) (fun b=>w.heap.size+1<=b/\some b≠v2.ownBlock/\b≠T) (some ⟨y2.heap.size,0,none⟩) [t,u9]):=D_ (Yq ⟨by omega,fun e=>by have:=O _ e.symm;omega,by omega⟩ i.out.tm p_.out);refine rY 8 rfl fun K a=>?_;go_simp
            (with_reducible refine(j6 _ _ _ _ _).mono ?_);rintro e y3 ⟨rfl,c3⟩
            have d:Below y2.heap.size y2 y3:=((F_ y2.heap.size y2).alloc (R_ _) (.cells #[.int .i64 t.kind,.string t.name,.int .i64 t.n,.slice ad t.args.length cap,.int .i64 u9.kind,.string u9.name,.int .i64 u9.n,.slice ad2 u9.args.length cap2] 26)).trans (c3.mono (by simp));have z:=D_ d;have N:=D_ (B0 d y.out);have J:=D_ (B0 d s.out);have M:=D_ (B0 d i.out.cells);have j_:=D_ (M0.kept i_.out (w':=y3) (Q:=fun b=>w.heap.size+1<=b/\some b≠v2.ownBlock/\b≠T) (fun b _ hb=>c3.block b hb) (fun _ j _=>j));obtain⟨d0,d1,d2,d3,e0,e1,e2,e3⟩:=A0 M.out;clear d c3;try go_wp2_with fail
            refine a.out _ _ (l.out _ N.out J.out) (fun hHeld21=>?_);clear a K hHeld20;(try simp only [Act.put,T_,C_,E_])
            refine rY 9 rfl fun K a=>?_;go_simp
            try go_wp2_with fail
            refine a.out _ _ (l.out _ ((I6 hneX _ _ _ _).trans N.out) ((I6 hneO _ _ _ _).trans J.out)) (fun hHeld22=>?_);clear a K hHeld21;(try simp only [Act.put,T_,C_,E_])
            refine wpAnyH_done (by kernel_rfl) ?_ _;try go_wp2_with fail
            obtain⟨n1,n2,n3,n4⟩:=T7.put (t:=X0 xl [t,u9]) (l_.out.trans (RGo.of_below (r:=r) (v:=v2) z.out (N_ A.out.lt))) z_ (by omega) i.out.own M.out (bJ (by omega) (R_ 2) (by unfold maxLen;decide) j_.out) _ rfl;have h_:(X0 xl [t,u9]).name=xt:=HXT.out;rw [h_]at n1 n2 n3 n4;have I:=D_ ((A.out.below z.out).put z_ i.out.own n3);have n_:=D_ ((n3 _ hneQ).trans (B0 z.out m_.out));go_roundw
            case rel=>exact⟨o9.p,X0 xl [t,u9],_,_,tk2,nk2,er2,at2,v2,rfl,D_ (zq w_.out v_.out t_ (by omega) (by omega) HMG.out H.out),I,D_ n1,D_ n2,n_,Y⟩
            case measure=>exact Nat.lt_of_le_of_lt (Nat.le_of_eq I.out.fLen) (by rw [HLEN.out];exact fless w_.out v_.out t_ (by omega) (by omega) H.out)
  · obtain⟨o,hEo,h60,hato⟩:=HS.out.resolve_left (fun h9=>he h9.1);have HFI:Hid (FIs at_ E t tk nk er atk):=D_ (by rw [hEo];exact⟨h60,hato⟩);rw [beq_eq_false_iff_ne.2 he]at hG;have HG0:=D_ hG;clear hG HS hEo h60 hato;go_wp2_with fail;refine HG0.out.mono ?_;rintro e w3 ⟨rfl,G⟩;have D:=D_ (D.out.trans (RGo.of_below (r:=r) (v:=vk) G (N_ g.out.lt)));have g:=D_ (g.out.below G);have q:=D_ (q.out.below G);have F:=D_ (B0 G F.out);clear G HG0;obtain⟨u0,u1,u2,u3,_⟩:=A0 q.out.cells;obtain⟨d0,d1,d2,d3,e0,e1,e2,e3⟩:=A0 F.out;go_wp2_with fail;refine B_ (v:=tmv t ad cap) (by simp [results,Tryz.results85,go_sem,d0,d1,d2,d3,tmv]) rfl ?_;exact I7.fin (x:=E) (a0:=at_) (t:=t) (B:=w.heap.size+1) rfl g.out D.out (TmP.kept q.out.tm (fun _ _ _=>rfl) (fun b j _=>⟨j.1,j.2.1⟩)) HFI.out hlt (R_ _) (Nat.lt_succ_self _) V.out _ _ _ _
theorem iX: ∀m:Nat,m<=4098->N6 m (O7 m)
 |0,_=>fun p ts ns w r v at_ b a _ _=>absurd a.pos (by omega)
 |m+1,h=>fun p ts ns w r v at_ b a d c=>rf_term (j5 m) (iX m (by omega)) (by omega) p ts ns w r v at_ b a d c
def gz (must:Bool) (x:Rd Tm):Rd Tm:=x.bind fun t ts ns=>if(j0 ts).kind=8 then .ok t ts.tail ns else if must=true then .bad (j0 ts).pos else .ok t ts ns
theorem wholeR_end (must:Bool) (ts:List Tok):g6 must ts=match gz must (O7 ts.length 1200 ts [])with
 | .bad o=>.syn o
 | .ok t ts' ns=>if 60<t.deep then .deep (j0 ts).pos else .ok t ts' ns:=by
 unfold g6 gz;cases O7 ts.length 1200 ts []with
 |bad o=>rfl
 |ok t ts' ns=>
  rw [Rd.bind_ok];dsimp only;by_cases a:(j0 ts').kind=8
  · rw [I_ (fun h=>h.1 a),J_ a,J_ a]
  · rw [I_ a,I_ a];cases must with
    |true=>rw [J_ ⟨a,rfl⟩,J_ rfl]
    |false=>simp
def WIs (a0:Int) (x:Wh) (t:Tm) (ts:List Tok) (ns:Nms) (er at_:Int):Prop:=
 match x with
 | .syn o=>er=60/\at_=(o:Nat)
 | .deep o=>er=3/\at_=(o:Nat)
 | .ok t0 ts0 ns0=>t=t0/\ts=ts0/\ns=ns0/\er=0/\at_=a0
def VQ (r:Nat) (w:World) (a0:Int) (x:Wh) (e:Ending) (w':World):Prop:=
 ∃t ts ns er at_ v' ad cap,e=.returned (tmv t ad cap)/\Z0 w' r v' ts ns er at_/\WGo r w v' w'/\TmB w.heap.size w' v' t ad cap/\WIs a0 x t ts ns er at_
theorem VQ.fin {r q B:Nat} {v':Value} {w w3:World} {a0:Int} {x:Wh} {t:Tm} {ts:List Tok} {ns:Nms} {er at_:Int} {ad:Option Addr} {cap:Nat} {e:Ending} (c:e=.returned (tmv t ad cap)) (h:Z0 w3 r v' ts ns er at_) (d:WGo r w v' w3) (i:TmB B w3 v' t ad cap) (g:WIs a0 x t ts ns er at_) (k:r<w.heap.size) (b:w.heap.size<=q) (a:q<B) (j:some q≠v'.ownBlock) (u0 u1 u2 u3:Value):
 VQ r w a0 x e ((((w3.setCell ⟨q,0,none⟩ u0).setCell ⟨q,1,none⟩ u1).setCell ⟨q,2,none⟩ u2).setCell ⟨q,3,none⟩ u3):=
 ⟨t,ts,ns,er,at_,v',ad,cap,c,h.set4 (by omega) j _ _ _ _,(((d.set b (by omega) u0).set b (by omega) u1).set b (by omega) u2).set b (by omega) u3,((((i.set a u0).set a u1).set a u2).set a u3).mono (by omega),g⟩
theorem Z0.nil {w:World} {r:Nat} {v:Value} {ts:List Tok} {ns:Nms} {er at_:Int} (h:Z0 w r v ts ns er at_):Z0 (w.setCell ⟨r,1,none⟩ (.slice none 0 0)) r (.slice none 0 0) ts [] er at_:=by
 obtain⟨g,k,cap,b,d,c,hc,j⟩:=h.ex;have a:=H_ (i:=1) d (.slice none 0 0);refine⟨⟨g,k,cap,b,?_,c,hc,j.kept (fun _=>S_ _ _ _ _ (show g≠r by omega))⟩,O_ _ _ _ _⟩;rw [a];rfl
theorem Z0.err {w:World} {r:Nat} {v:Value} {ts:List Tok} {ns:Nms} {er at_:Int} (h:Z0 w r v ts ns er at_) (e a:Int):Z0 ((w.setCell ⟨r,2,none⟩ (.int .i64 e)).setCell ⟨r,3,none⟩ (.int .i64 a)) r v ts ns e a/\RGo r v w v ((w.setCell ⟨r,2,none⟩ (.int .i64 e)).setCell ⟨r,3,none⟩ (.int .i64 a)):=by
 obtain⟨g,k,cap,m,o,n,hc,q⟩:=h.ex;have d: ∀b,b≠r->((w.setCell ⟨r,2,none⟩ (.int .i64 e)).setCell ⟨r,3,none⟩ (.int .i64 a)).heap[b]?=w.heap[b]?:=fun b c=>(S_ _ _ _ _ (show b≠r from c)).trans (S_ _ _ _ _ (show b≠r from c));have l:=H_ (i:=3) (H_ (i:=2) o (.int .i64 e)) (.int .i64 a);refine⟨⟨⟨g,k,cap,m,by simpa using l,n,hc,q.kept (fun _=>d g (by omega))⟩,h.names.kept (fun b c _=>d b (by have:=(h.names.lt b c).1;omega))⟩,⟨((F_ _ _).setCell (p:=⟨r,2,none⟩) (R_ _) _).setCell (p:=⟨r,3,none⟩) (R_ _) _,fun b c j _=>d b j,.inl rfl⟩⟩
set_option maxRecDepth 100000 in
theorem rf_whole (must:Bool) (ts:List Tok) (ns:Nms) (w:World) (r:Nat) (v:Value) (at_:Int) (hm:ts.length<=4098) (hf:T0 ts) (h:Z0 w r v ts ns 0 at_) (hT: ∀W',Below r w W'->Tabs W'):
 Calls Tryz.prog 71 #[.pointer (some ⟨r,0,none⟩),.bool must] w fun e w'=>VQ r w at_ (g6 must ts) e w':=by
 have u_:=h.lt;have f3:=ox;have f0:=X9;have q_:=D_ ((F_ w.heap.size w).alloc (R_ _) (.cells #[.int .i64 0,.string ⟨#[]⟩,.int .i64 0,.slice none 0 0] 26));have HQ0:=D_ (U0 w (.cells #[.int .i64 0,.string ⟨#[]⟩,.int .i64 0,.slice none 0 0] 26));have HH:=D_ h;have hfp:=hf.pos;have HTT:=D_ hT;obtain⟨E,hE⟩: ∃E,g6 must ts=E:=⟨_,rfl⟩;rw [hE];have HE:Hid (E=match gz must (O7 ts.length 1200 ts [])with
  | .bad o=>.syn o
  | .ok t ts' ns=>if 60<t.deep then .deep (j0 ts).pos else .ok t ts' ns):=D_ (by rw [<-hE,wholeR_end])
 have HTE:=D_ (fun W' hm'=>iX ts.length hm 1200 ts [] W' r (.slice none 0 0) at_ (R_ _) hf (by simp) hm');have O:=D_ (fun t ts' ns' hx=>j5 ts.length 1200 ts [] t ts' ns' (R_ _) hf (by simp) hx);have o_:=D_ (fun t ts' ns' hx=>Oq ts.length 1200 ts [] t ts' ns' (R_ _) hf (by simp) hx);have HN:=D_ (fun W' hm'=>F4 W' r v ts ns 0 at_ hm' hfp);obtain⟨X,hX⟩: ∃X,O7 ts.length 1200 ts []=X:=⟨_,rfl⟩;rw [hX]at HE HTE;have b_:=D_ hX;clear h hT hE hf hX;unfold Y1 at HN;generalize (⟨(j0 ts).text.toArray⟩:ByteArray)=tx at*;generalize (j0 ts).kind=tk at*;generalize (j0 ts).n=tn at*;generalize (j0 ts).pos=tp at*;go_enter Tryz.func71,Tryz.ntmps71;go_wp2_with fail;refine(HN.out _ (HH.out.below q_.out)).mono ?_;rintro e w1 ⟨rfl,s_⟩;have r_:=D_ (q_.out.trans (s_.mono q_.out.size));have HQ1:=D_ (B0 s_ HQ0.out);have HM1:=D_ (HH.out.below r_.out);have hs1:=s_.size;rw [Z_]at hs1;obtain⟨g1,k1,cap1,_,hr1,_⟩:=HM1.out.ex;obtain⟨_,r1,_,_,_,z1,_⟩:=l5 hr1;clear s_ hr1 HN HQ0 q_ HH;go_upto_region 3 with fail;have HM2:=D_ HM1.out.nil;have D:Hid (Below r w (w1.setCell ⟨r,1,none⟩ (.slice none 0 0))):=D_ ((r_.out.mono (N_ u_)).setCell (p:=⟨r,1,none⟩) (R_ _) _);have y_:Hid (∀b,b<w.heap.size->b≠r->(w1.setCell ⟨r,1,none⟩ (.slice none 0 0)).heap[b]?=w.heap[b]?):=D_ (fun b s hr=>(S_ _ _ _ _ (show b≠r from hr)).trans (r_.out.block b s));have HQ2:Hid ((w1.setCell ⟨r,1,none⟩ (.slice none 0 0)).heap[w.heap.size]?=some (.cells #[.int .i64 0,.string ⟨#[]⟩,.int .i64 0,.slice none 0 0] 26 (0,0))):=D_ (qQ HQ1.out (by omega) _);have hs2:(w1.setCell ⟨r,1,none⟩ (.slice none 0 0)).heap.size=w1.heap.size:=by simp [World.setCell]
 generalize w1.setCell ⟨r,1,none⟩ (.slice none 0 0)=w3 at*;clear HM1 HQ1 r_ r1 z1;have w_:w.heap.size≠r:=by omega
 have hqv:some w.heap.size≠(Value.slice none 0 0).ownBlock:=by intro e;cases e
 go_wp2_with fail;refine(HTE.out _ HM2.out).mono ?_;rintro e w4 ⟨t2,ts2,ns2,er2,at2,v2,ad2,cap2,rfl,v_,l_,ht4,hi4⟩;have HG4:=D_ l_;have HQ4:=D_ (l_.at HQ2.out w_ hqv);have a_:=D_ (l_.ne (b:=w.heap.size) (by omega) hqv);have q:=D_ hi4;have c_:=v_.new_ne (b:=w4.heap.size) (R_ _);have hlt4:=v_.lt;have hs4:=l_.below.size;unfold tmv;go_upto_region 4 with fail;have d_:Below w4.heap.size w4 (w4.alloc (.cells #[.int .i64 t2.kind,.string t2.name,.int .i64 t2.n,.slice ad2 t2.args.length cap2] 26)):=(F_ _ _).alloc (R_ _) _;have HN5:=D_ (U0 w4 (.cells #[.int .i64 t2.kind,.string t2.name,.int .i64 t2.n,.slice ad2 t2.args.length cap2] 26));generalize w4.alloc (.cells #[.int .i64 t2.kind,.string t2.name,.int .i64 t2.n,.slice ad2 t2.args.length cap2] 26)=w5 at*;have g_:=D_ (v_.below d_);have HG5:=D_ (HG4.out.trans (RGo.of_below (r:=r) (v:=v2) d_ (N_ hlt4)));have HQ5:=D_ (B0 d_ HQ4.out);have HT5:=D_ (ht4.below d_);have hs5:=d_.size;clear v_ l_ ht4 hi4 d_ HG4 HQ4 HQ2 HM2 HTE;go_cut [22] (fun s22 wx=> ∃b,s22=.bool b/\Hid (b=((er2==0)&&((j0 ts2).kind==8)))/\Hid (Below w5.heap.size w5 wx))
 case first=>
  cases C:(er2==0)with
  |false=>
   have A:=D_ (X3 w5 r v2 ts2 ns2 er2 at2 g_.out);rw [C]at A;have z_:=D_ C;clear C;go_wp2_with fail;refine A.out.mono ?_;rintro e w6 ⟨rfl,d⟩;have k:=D_ d;clear d;go_wp2_with fail;go_meet;exact⟨false,rfl,D_ (by rw [z_.out];rfl),k⟩
  |true=>
   have A:=D_ (X3 w5 r v2 ts2 ns2 er2 at2 g_.out);rw [C]at A;have l:er2=0:=by simpa using C
   obtain⟨i,_⟩:=q.out.good l;rw [<-b_.out]at i;have p_:=(O.out _ _ _ i).1.pos;have HNX:=D_ (fun W s=>F4 W r v2 ts2 ns2 er2 at2 (g_.out.below s) p_);have z_:=D_ C;clear i l C;unfold Y1 at HNX;generalize (⟨(j0 ts2).text.toArray⟩:ByteArray)=ux at*;generalize hk2:(j0 ts2).kind=k2 at*;have HK2:=D_ hk2;clear hk2;generalize (j0 ts2).n=n2 at*;generalize (j0 ts2).pos=p2 at*;go_wp2_with fail;refine A.out.mono ?_;rintro e w6 ⟨rfl,d⟩;have k:=D_ d;clear d;go_wp2_with fail;refine(HNX.out _ k.out).mono ?_;rintro e w7 ⟨rfl,m⟩;have HB7:=D_ (k.out.trans (m.mono k.out.size));clear m;go_wp2_with fail;go_meet;exact⟨(k2==8),rfl,D_ (by rw [z_.out];rfl),HB7⟩
 case rest=>
  obtain⟨b,rfl,F,G⟩:=hcut;go_upto_if 22 with fail;have hsc:=G.out.size;have I:=D_ (g_.out.below G.out);have R:=D_ (HG5.out.trans (RGo.of_below (r:=r) (v:=v2) G.out (by omega)));have Y:=D_ (B0 G.out HQ5.out);have U:=D_ (B0 G.out HN5.out);have Z:=D_ (HT5.out.below G.out);clear g_ HG5 HQ5 HN5 HT5 G;go_cut [] (fun wx=> ∃ts3 er3 at3,Hid (Z0 wx r v2 ts3 ns2 er3 at3)/\Hid (RGo r (.slice none 0 0) w3 v2 wx)/\Hid (wx.heap[w.heap.size]?=some (.cells #[.int .i64 0,.string ⟨#[]⟩,.int .i64 0,.slice none 0 0] 26 (0,0)))/\Hid (wx.heap[w4.heap.size]?=some (.cells #[.int .i64 t2.kind,.string t2.name,.int .i64 t2.n,.slice ad2 t2.args.length cap2] 26 (0,0)))/\Hid (TmB w3.heap.size wx v2 t2 ad2 cap2)/\Hid (FIs at_ (gz must X) t2 ts3 ns2 er3 at3)/\w5.heap.size<=wx.heap.size)
  case first=>
   cases b with
   |true=>
    have s:=F.out;have hb2:=Bool.and_eq_true_iff.1 s.symm;have l:er2=0:=by simpa using hb2.1
    have y:(j0 ts2).kind=8:=by simpa using hb2.2
    obtain⟨i,rfl⟩:=q.out.good l;have z:=i;rw [<-b_.out]at z;have h2l:=(O.out _ _ _ z).1.two (by rw [y];decide);have u:Hid (FIs at2 (gz must X) t2 ts2.tail ns2 0 at2):=D_ (by unfold gz;rw [i,Rd.bind_ok,J_ y];exact⟨rfl,rfl,rfl,rfl,rfl⟩);subst l;clear s hb2 y i z F q;go_wp2_with fail;refine(G3 _ r v2 ts2 ns2 at2 I.out h2l).mono ?_;rintro e w6 ⟨rfl,m_,g⟩;have T:=D_ m_;have H:=D_ (R.out.trans g);have V:=D_ (g.at Y.out w_ a_.out);have J:=D_ (g.at U.out c_.1 c_.2);have M:=D_ (Z.out.go (by have:=D.out.size;omega) g);have hs6:=g.below.size;clear m_ g;go_wp2_with fail;go_meet;exact⟨ts2.tail,0,at2,T,H,V,J,M,u,by omega⟩
   |false=>
    by_cases l:er2=0
    · obtain⟨i,rfl⟩:=q.out.good l;have s:=F.out;rw [l]at s;have y: ¬(j0 ts2).kind=8:=by simpa using s.symm
      have z:=i;rw [<-b_.out]at z;have p_:=(O.out _ _ _ z).1.pos;subst l;cases must with
      |true=>
       have u:Hid (FIs at2 (gz true X) t2 ts2 ns2 60 ((j0 ts2).pos:Nat)):=D_ (by unfold gz;rw [i,Rd.bind_ok,I_ y,J_ rfl];exact⟨rfl,rfl⟩);clear s y i z F q;go_wp2_with fail;refine(M8 _ r v2 ts2 ns2 at2 I.out p_).mono ?_;rintro e w6 ⟨rfl,m_,g⟩;have T:=D_ m_;have H:=D_ (R.out.trans g);have V:=D_ (g.at Y.out w_ a_.out);have J:=D_ (g.at U.out c_.1 c_.2);have M:=D_ (Z.out.go (by have:=D.out.size;omega) g);have hs6:=g.below.size;clear m_ g;go_wp2_with fail;go_meet;exact⟨ts2,60,_,T,H,V,J,M,u,by omega⟩
      |false=>
       have u:Hid (FIs at2 (gz false X) t2 ts2 ns2 0 at2):=D_ (by unfold gz;rw [i,Rd.bind_ok,I_ y,I_ (by decide)];exact⟨rfl,rfl,rfl,rfl,rfl⟩);clear s y i z F q;go_wp2_with fail;go_meet;exact⟨ts2,0,at2,I,R,Y,U,Z,u,hsc⟩
    · obtain⟨o,n_,j,N⟩:=q.out.broken l;have u:Hid (FIs at_ (gz must X) t2 ts2 ns2 er2 at2):=D_ (by unfold gz;rw [n_];exact⟨j,N⟩);clear n_ j N F q;cases must with
      |true=>
       go_wp2_with fail;refine(rf_failed _ r v2 ts2 ns2 er2 at2 I.out l).mono ?_;rintro e w6 ⟨rfl,d⟩;have k:=D_ d;have hs6:=d.size;clear d;go_wp2_with fail;go_meet;exact⟨ts2,er2,at2,D_ (I.out.below k.out),D_ (R.out.trans (RGo.of_below (r:=r) (v:=v2) k.out (by omega))),D_ (B0 k.out Y.out),D_ (B0 k.out U.out),D_ (Z.out.below k.out),u,by omega⟩
      |false=>
       go_wp2_with fail;go_meet;exact⟨ts2,er2,at2,I,R,Y,U,Z,u,hsc⟩
  case rest=>
   obtain⟨ts3,er3,at3,HM,HG,HQ,i_,HT,HI,hsx⟩:=hcut;clear I R Y U Z F q;by_cases C:er3=0
   · obtain⟨hx,rfl⟩:=HI.out.good C;have hye: ∃ts0,X=.ok t2 ts0 ns2:=by
      have h9:=hx;unfold gz at h9;obtain⟨t0,ts0,ns0,h1,h2⟩:=Rd.bind_is h9;split at h2
      · injection h2 with a b c;subst a c;exact⟨ts0,h1⟩
      · split at h2
        · cases h2
        · injection h2 with a b c;subst a c;exact⟨ts0,h1⟩
     obtain⟨ts0,x_⟩:=hye;rw [<-b_.out]at x_;have hsz:=(O.out _ _ _ x_).used;have hmay:=o_.out _ _ _ x_;have HEX:Hid (E=if 60<t2.deep then .deep tp else .ok t2 ts3 ns2):=D_ (by rw [HE.out,hx]);have hchk:t2.chk=if 60<t2.deep then 3 else 0:=by unfold Tm.chk;rw [hmay];rfl
     have HC:=D_ (fun W s hin=>D6 t2 ad2 cap2 W (by omega) (HTT.out W s) hin);rw [hchk]at HC;subst C;clear hx x_ hmay hchk O o_ HE b_ HTT;obtain⟨c0,c1,c2,c3,_⟩:=A0 i_.out;have A:=D_ (X3 _ r v2 ts3 ns2 0 at3 HM.out);go_wp2_with fail;refine A.out.mono ?_;rintro e w6 ⟨rfl,d⟩;have hb6r:=RGo.of_below (r:=r) (v:=v2) d (by omega);have T:=D_ (HM.out.below d);have H:=D_ (HG.out.trans hb6r);have V:=D_ (B0 d HQ.out);have J:=D_ (B0 d i_.out);have M:=D_ (HT.out.below d);have hs6:=d.size;obtain⟨c0,c1,c2,c3,_⟩:=A0 J.out;clear d hb6r HM HG HQ i_ HT A;go_wp2_with fail;refine(HC.out _ (D.out.trans H.out.below) M.out.toIn).mono ?_;rintro e w7 ⟨rfl,m⟩;have HM7:=D_ (T.out.below m);have HG7:=D_ (H.out.trans (RGo.of_below (r:=r) (v:=v2) m (by omega)));have HQ7:=D_ (B0 m V.out);have HN7:=D_ (B0 m J.out);have HT7:=D_ (M.out.below m);have hs7:=m.size;clear m T H V J M HC;by_cases j:60<t2.deep
     · rw [J_ j];have HEY:Hid (E=.deep tp):=D_ (by rw [HEX.out,J_ j]);clear HEX j;obtain⟨g7,k7,cap7,_,hr7,_⟩:=HM7.out.ex;obtain⟨_,_,r2,r3,_,_,z2,z3⟩:=l5 hr7;have HER:=D_ (HM7.out.err 3 (tp:Nat));have t_:=HER.out.2;have HN8:=D_ (t_.at HN7.out c_.1 c_.2);have HQ8:=D_ (t_.at HQ7.out w_ a_.out);have HT8:=D_ (HT7.out.go (by have:=D.out.size;omega) t_);clear hr7 t_;go_upto_region 11 with fail;generalize (w7.setCell ⟨r,2,none⟩ (.int .i64 3)).setCell ⟨r,3,none⟩ (.int .i64 (tp:Nat))=w8 at*;have h_:=D_ HER.out.1;have e_:=D_ (HG7.out.trans HER.out.2);have j_:=D_ HT8.out;have k_:=D_ a_.out;have f_:Hid (WIs at3 E t2 ts3 ns2 3 (tp:Nat)):=D_ (by rw [HEY.out];exact⟨rfl,rfl⟩);obtain⟨c0,c1,c2,c3,_⟩:=A0 HN8.out;obtain⟨d0,d1,d2,d3,e0,e1,e2,e3⟩:=A0 HQ8.out;clear r2 r3 z2 z3;go_wp2_with fail;refine B_ (v:=tmv t2 ad2 cap2) (by simp [results,Tryz.results71,go_sem,d0,d1,d2,d3,tmv]) rfl ?_;exact VQ.fin (x:=E) (a0:=at3) (t:=t2) (B:=w3.heap.size) rfl h_.out (EQ D.out y_.out e_.out) j_.out f_.out u_ (R_ _) (by omega) k_.out _ _ _ _
     · rw [I_ j];have h_:=D_ HM7.out;have e_:=D_ HG7.out;have j_:=D_ HT7.out;have k_:=D_ a_.out;have f_:Hid (WIs at3 E t2 ts3 ns2 0 at3):=D_ (by rw [HEX.out,I_ j];exact⟨rfl,rfl,rfl,rfl,rfl⟩);obtain⟨c0,c1,c2,c3,_⟩:=A0 HN7.out;obtain⟨d0,d1,d2,d3,e0,e1,e2,e3⟩:=A0 HQ7.out;clear j;go_wp2_with fail;refine B_ (v:=tmv t2 ad2 cap2) (by simp [results,Tryz.results71,go_sem,d0,d1,d2,d3,tmv]) rfl ?_;exact VQ.fin (x:=E) (a0:=at3) (t:=t2) (B:=w3.heap.size) rfl h_.out (EQ D.out y_.out e_.out) j_.out f_.out u_ (R_ _) (by omega) k_.out _ _ _ _
   · obtain⟨o,n_,j,N⟩:=HI.out.broken C;have f_:Hid (WIs at_ E t2 ts3 ns2 er3 at3):=D_ (by rw [HE.out,n_];exact⟨j,N⟩);have A:=X3 _ r v2 ts3 ns2 er3 at3 HM.out;rw [beq_eq_false_iff_ne.2 C]at A;have HG0:=D_ A;clear A n_ j N HE O o_ b_ HTT HI;go_wp2_with fail;refine HG0.out.mono ?_;rintro e w6 ⟨rfl,d⟩;have h_:=D_ (HM.out.below d);have e_:=D_ (HG.out.trans (RGo.of_below (r:=r) (v:=v2) d (by omega)));have j_:=D_ (HT.out.below d);have k_:=D_ a_.out;obtain⟨c0,c1,c2,c3,_⟩:=A0 (B0 d i_.out);obtain⟨d0,d1,d2,d3,e0,e1,e2,e3⟩:=A0 (B0 d HQ.out);clear d HG0 HM HG HT i_ HQ;go_wp2_with fail;refine B_ (v:=tmv t2 ad2 cap2) (by simp [results,Tryz.results71,go_sem,d0,d1,d2,d3,tmv]) rfl ?_;exact VQ.fin (x:=E) (a0:=at_) (t:=t2) (B:=w3.heap.size) rfl h_.out (EQ D.out y_.out e_.out) j_.out f_.out u_ (R_ _) (by omega) k_.out _ _ _ _
theorem rf_cut (s:ByteArray) (w:World) (q:TabsT w):
 Calls Tryz.prog 68 #[.string s] w fun e w'=>(∃o er,(er=2\/er=50)/\e=.returned (.tuple #[.slice none 0 0,.int .i64 (o:Nat),.int .i64 er])/\Below w.heap.size w w'/\(∀(α:Type) (f:List Tok->Pr α),H7 s.data.toList f=.bad o er))\/
  (∃T,nj w T e w'/\T0 T/\T.length<=4097/\(∀(α:Type) (f:List Tok->Pr α),H7 s.data.toList f=f T)):=by
 refine(ref_Cut s w q).mono ?_;rintro e w' ⟨h,b⟩;rcases h with⟨h,a⟩|⟨h,⟨o,hc,a⟩|⟨T,v,hc,a,u⟩⟩
 · exact .inl ⟨0,2,.inl rfl,a,b,fun α f=>by unfold H7;rw [J_ h]⟩
 · exact .inl ⟨o,50,.inr rfl,a,b,fun α f=>by unfold H7;rw [I_ (by omega),hc]⟩
 · have i:=Fx h hc;refine .inr ⟨T,?_,i,by have:=Bj hc;omega,fun α f=>by unfold H7;rw [I_ (by omega),hc]⟩;obtain⟨ad,cap,rfl,n,p,c⟩:=u.view;obtain⟨g,rfl,r,m⟩:=c 0 i.pos;have k:g<w'.heap.size:=L_ w' ⟨g,_,none⟩ m.kind;have l:=Bz (w:=w') (g:=g) T 0 (fun j t=>by
    obtain⟨g2,e,_,d⟩:=c j t;injection e with e;injection e with e _ _;subst e;rw [Nat.zero_add];exact d)
   rw [Nat.zero_mul]at l;exact⟨g,0,cap,a,r,k,n,p,l,b⟩
theorem Z0.start {w:World} {g k cap:Nat} {T:List Tok} (b:g<w.heap.size) (c:T.length<=cap) (hc:cap<=maxLen) (a:S5 w g k T):
 Z0 (w.alloc (.cells #[.slice (some ⟨g,k,none⟩) T.length cap,.slice none 0 0,.int .i64 0,.int .i64 0] 94)) w.heap.size (.slice none 0 0) T [] 0 0:=
 ⟨⟨g,k,cap,b,U0 w _,c,hc,a.kept (fun d=>A_ _ _ _ d)⟩,O_ _ _ _ _⟩
def PState (E:Pr (List Tm)) (l:List Tm) (tk:List Tok) (er atk:Int) (n:Nat):Prop:=
 (er=0/\atk=0/\T0 tk/\tk.length+l.length<=n/\ ∃f,tk.length<=f/\A7 f l tk=E)\/(∃o:Nat,E=.bad o er/\er≠0/\atk=(o:Nat))
theorem MJ {E:Pr (List Tm)} {l:List Tm} {tk tk2:List Tok} {ns2:Nms} {er at2:Int} {n f:Nat} {t:Tm} (c:T0 tk) (h:tk.length+l.length<=n) (g:tk.length<=f) (a:A7 f l tk=E) (d: ¬(j0 tk).kind=9) (b:WIs 0 (g6 true tk) t tk2 ns2 er at2):PState E (l++ [t]) tk2 er at2 n/\(if er=0 then tk2.length+1 else 0)<tk.length+1:=by
 obtain⟨f',rfl⟩: ∃f',f=f'+1:=⟨f-1,by have:=c.pos;omega⟩;rw [show A7 (f'+1) l tk=if(j0 tk).kind=9 then .ok l else
  match g6 true tk with
  | .syn o=>.bad o 60
  | .deep o=>.bad o 3
  | .ok t ts' _=>A7 f' (l++ [t]) ts' from rfl,I_ d]at a
 cases hx:g6 true tk with
 |syn o=>rw [hx]at a b;obtain⟨rfl,rfl⟩:=b;exact⟨.inr ⟨o,a.symm,by decide,rfl⟩,by rw [I_ (by decide)];omega⟩
 |deep o=>rw [hx]at a b;obtain⟨rfl,rfl⟩:=b;exact⟨.inr ⟨o,a.symm,by decide,rfl⟩,by rw [I_ (by decide)];omega⟩
 |ok t0 ts0 ns0=>
  rw [hx]at a b;obtain⟨rfl,rfl,rfl,rfl,rfl⟩:=b;obtain⟨a1,a2,_,_⟩:=Aq c hx;have:=t.size_pos;exact⟨.inl ⟨rfl,rfl,a1,by rw [P_,List.length_singleton];omega,f',by omega,a⟩,by rw [J_ rfl];omega⟩
set_option maxRecDepth 100000 in
theorem rf_Program (s:ByteArray) (w:World) (hT:TabsT w):
 Calls Tryz.prog 49 #[.string s] w fun e w'=>j7 w (q9 s.data.toList) e w':=by
 have HC:=D_ (rf_cut s w hT);have HTT:=D_ hT;have f0:=X9;obtain⟨i0,hi,hz0,hz1,hz2⟩:=J6 Fq;obtain⟨E,hE⟩: ∃E,q9 s.data.toList=E:=⟨_,rfl⟩;rw [hE];unfold q9 at hE;have HE:=D_ hE;clear hT hE;go_enter Tryz.func49,Tryz.ntmps49;go_wp2_with fail;refine HC.out.mono ?_;rintro e w1 (⟨o,er,p_,rfl,A,q⟩|⟨T,⟨g,k,cap,rfl,hg0,hg1,hl,hcm,x,A⟩,hfT,hlT,q⟩)
 · have Y:Hid (E=.bad o er):=D_ (by rw [<-HE.out,q]);have her0:(er==0)=false:=by rcases p_ with rfl|rfl<;>rfl
   have D:=D_ A;clear A q p_;go_wp2_with fail;refine B_ (v:=.tuple #[.slice none 0 0,.int .i64 (o:Nat),.int .i64 er]) (by simp [results,Tryz.results49,go_sem]) rfl ?_;show j7 w E _ _
   rw [Y.out];exact⟨rfl,D.out⟩
 · have Y:Hid (A7 T.length [] T=E):=D_ (by rw [<-HE.out,q];rfl);have D:=D_ A;have hs1:=A.size;have s_:=Z0.start (w:=w1) hg1 hl hcm x;clear A q HE HC;go_wp2_with fail;have n_:Below w1.heap.size w1 (w1.alloc (.cells #[.slice (some ⟨g,k,none⟩) T.length cap,.slice none 0 0,.int .i64 0,.int .i64 0] 94)):=(F_ _ _).alloc (R_ _) _;have e_:(w1.alloc (.cells #[.slice (some ⟨g,k,none⟩) T.length cap,.slice none 0 0,.int .i64 0,.int .i64 0] 94)).heap.size=w1.heap.size+1:=by simp
   generalize w1.alloc (.cells #[.slice (some ⟨g,k,none⟩) T.length cap,.slice none 0 0,.int .i64 0,.int .i64 0] 94)=w2 at*;have X:=D_ (D.out.trans (n_.mono D.out.size));have HM2:=D_ s_;have HFT:=D_ hfT;have hs2a:w2.heap.size<=w1.heap.size+1:=Nat.le_of_eq e_;have hs2b:w1.heap.size+1<=w2.heap.size:=Nat.le_of_eq e_.symm;clear s_ n_ hfT x D e_;generalize w1.heap.size=r at*;have hHID:Hid (Below r w2 w2):=D_ (F_ _ _);go_loopw [9] (fun lv wr=> ∃(l:List Tm) (tk:List Tok) (nk:Nms) (er atk:Int) (vk:Value),Hid (PState E l tk er atk T.length)/\Hid (Z0 wr r vk tk nk er atk)/\Hid (Below r w2 wr)/\Hid (G2 w2.heap.size wr lv (.slice none 0 0) l)/\w2.heap.size<=wr.heap.size/\l.length<=T.length) (fun _ wr=>fLen wr r)
   case atStart=>exact⟨[],T,[],0,0,.slice none 0 0,D_ (.inl ⟨rfl,rfl,HFT.out,by simp,T.length,R_ _,Y.out⟩),HM2,hHID,D_ (G2.empty _ _ _),R_ _,Nat.zero_le _⟩
   case round=>
    obtain⟨l,tk,nk,er,atk,vk,Z,H,J,M,hws,hll⟩:=hrel;have HLEN:=D_ H.out.fLen;have y:=X3 wr r vk tk nk er atk H.out;have hltr:=H.out.lt;by_cases V:er=0
    · obtain⟨_,rfl,B,hlk,f,hff,R⟩:=Z.out.resolve_right (fun ⟨o,_,h2,_⟩=>h2 V);subst V;have HFK:=D_ B;have HPG:=D_ R;have hfp:=B.pos;have p:=D_ y;have z:=D_ (fun W U=>F4 W r vk tk nk 0 0 (H.out.below U) hfp);have a_:=D_ (fun W (U:Below wr.heap.size wr W)=>rf_whole true tk nk W r vk 0 (by omega) B (H.out.below U) (fun W' hb'=>(HTT.out.on (X.out.trans (((J.out.trans (U.mono (by omega))).trans hb').mono (by omega)))).1));obtain⟨ad0,cap0,rfl,_,hcm0,_⟩:=M.out.slice;by_cases C:(j0 tk).kind=9
      · have HEY:Hid (E=.ok l):=D_ (by
         obtain⟨f',rfl⟩: ∃f',f=f'+1:=⟨f-1,by omega⟩;rw [<-HPG.out];show(if _ then _ else _)=_
         rw [J_ C])
        have k9:((j0 tk).kind !=9)=false:=by simp [C]
        clear y Z B R C a_;unfold Y1 at z;generalize (⟨(j0 tk).text.toArray⟩:ByteArray)=ux at*;generalize (j0 tk).kind=k2 at*;generalize (j0 tk).n=n2 at*;generalize (j0 tk).pos=p2 at*;go_wp2_with fail;refine p.out.mono ?_;rintro e w5 ⟨rfl,c⟩;have a:=D_ c;clear c;go_wp2_with fail;refine(z.out _ a.out).mono ?_;rintro e w6 ⟨rfl,G⟩;have m:=D_ (a.out.trans (G.mono a.out.size));clear G;go_wp2_with fail;refine(X3 w6 r vk tk nk 0 0 (H.out.below m.out)).mono ?_;rintro e w7 ⟨rfl,o_⟩;have g_:=D_ (m.out.trans (o_.mono m.out.size));clear o_ z p;go_wp2_with fail;obtain⟨ad,cap1,hee,h1,h2,h3⟩:=(M.out.go (r:=r) (by omega) (RGo.of_below g_.out (by omega))).slice;injection hee with e1 _ e2;subst e1 e2;refine B_ (v:=.tuple #[.slice ad0 l.length cap0,.int .i64 0,.int .i64 0]) (by simp [results,Tryz.results49,go_sem]) rfl ?_;show j7 w E _ _
        rw [HEY.out];exact⟨ad0,cap0,rfl,h1,h2,h3.kept (fun _ _ _=>rfl) (fun b hp _=>by have:=hp.1;omega),X.out.trans ((J.out.trans (g_.out.mono (by omega))).mono (by omega))⟩
      · have k9:((j0 tk).kind !=9)=true:=by simp [C]
        have k_:=D_ (fun t tk2 ns2 er2 at2 hi=>MJ (t:=t) (tk2:=tk2) (ns2:=ns2) (er:=er2) (at2:=at2) B hlk hff R C hi);clear y Z B R C;unfold Y1 at z;generalize (⟨(j0 tk).text.toArray⟩:ByteArray)=ux at*;generalize (j0 tk).kind=k2 at*;generalize (j0 tk).n=n2 at*;generalize (j0 tk).pos=p2 at*;go_wp2_with fail;refine p.out.mono ?_;rintro e w5 ⟨rfl,c⟩;have a:=D_ c;clear c;go_wp2_with fail;refine(z.out _ a.out).mono ?_;rintro e w6 ⟨rfl,G⟩;have m:=D_ (a.out.trans (G.mono a.out.size));clear G;go_wp2_with fail;refine(a_.out _ m.out).mono ?_;rintro e w4 ⟨t,ts1,ns1,er1,at1,v4,ad4,cap4,rfl,t_,N,y_,q_⟩;have I:RGo r (.slice none 0 0) wr (.slice none 0 0) w4:=(RGo.of_below m.out (by omega)).trans N.rgo;have f_:=M.out.go (r:=r) (by omega) I;obtain⟨xs,d_,x⟩:=f_.ex;have HNE:=D_ f_.ne;have i_:=D_ d_.lt;have j_:=D_ (fun k i=>((M.out.ex.choose_spec.1).lt k i).2);have HM4:=D_ t_;have z_:=D_ (J.out.trans I.below);have HOW4:=D_ N.own;have hs46:=N.below.size;have hs66:=m.out.size;have HT4:=D_ y_.bare;have HROW:=D_ x;obtain⟨v_,r_⟩:=k_.out t ts1 ns1 er1 at1 q_;have HP4:=D_ v_;have HL4:=D_ r_;clear t_ N I y_ f_ x q_ v_ r_ a_ z p k_;unfold tmv;go_wp2_with (first
         |(at_builtin;refine wpList_append_lies _ rfl _ _ 24 rfl w2.heap.size 26 i0 (.agg #[.int .i64 0,.string ⟨#[]⟩,.int .i64 0,.slice none 0 0]) 4 56 Tryz.underlying24 hi hz0 hz1 hz2 rfl (by decide) _ _ _ rfl (d_.alloc _) ⟨w4.heap.size,0,none⟩ 1 1 (D0 t ad4 cap4) rfl rfl ?c1 ?c2 (by decide) ?c3 ?c4 ?c5 _ rfl ?_))
        case c1=>
         intro j u h;match j,h with
         |0,h=>simp [D0]at h;subst h;simp [Addr.add]
         |1,h=>simp [D0]at h;subst h;simp [Addr.add]
         |2,h=>simp [D0]at h;subst h;simp [Addr.add]
         |3,h=>simp [D0]at h;subst h;simp [Addr.add]
        case c2=>intro u hu;simp [D0]at hu;rcases hu with rfl|rfl|rfl|rfl<;>rfl
        case c3=>unfold maxLen;omega
        case c4=>omega
        case c5=>simp;omega
        intro g5 cap5 w5 O d m_ hlt5;have u_:=(HM4.out.below ((F_ _ w4).alloc (R_ _) (.cells #[.int .i64 t.kind,.string t.name,.int .i64 t.n,.slice ad4 t.args.length cap4] 26))).grown d (fun k i=>by have:=(i_.out k i).1;omega) (fun k i e=>by
         have h1:=HOW4.out k e.symm;have h2:=j_.out k i;omega)
        have c_:=((z_.out.alloc (by omega) (.cells #[.int .i64 t.kind,.string t.name,.int .i64 t.n,.slice ad4 t.args.length cap4] 26))).grown d (by rw [Z_];omega) (fun k i=>by have:=(i_.out k i).1;omega);have x_:G2 w2.heap.size w5 (.slice (some ⟨g5,0,none⟩) (l.length+1) cap5) (.slice none 0 0) (l++ [t]):=by
         refine G2.snoc (B2:=w6.heap.size) (by omega) (fun k i=>HNE.out k i) (fun k i=>by cases i) (fun k i=>by have:=j_.out k i;omega) (HROW.out.kept (fun b _ U=>A_ _ _ _ U) (fun b hp _=>hp)) (HT4.out.below ((F_ _ w4).alloc (R_ _) _)) O d ?_;rcases m_ with e|e
         · exact .inl e.symm
         · exact .inr ⟨g5,rfl,by rw [Z_];omega⟩
        have hs45:w4.heap.size<=w5.heap.size:=by have:=d.size;rw [Z_]at this;omega
        have F:=D_ u_;have HBB5:=D_ c_;have HS5:=D_ x_;clear u_ c_ x_ O d m_ d_;go_wp2_with fail;go_roundw
        case rel=>
         refine⟨l++ [t],ts1,ns1,er1,at1,v4,HP4,F,HBB5,HS5,by omega,?_⟩;rw [P_,List.length_singleton];omega
        case measure=>exact Nat.lt_of_le_of_lt (Nat.le_of_eq F.out.fLen) (by rw [HLEN.out];exact HL4.out)
    · obtain⟨o,l_,_,rfl⟩:=Z.out.resolve_left (fun h9=>V h9.1);have HEB:=D_ l_;rw [beq_eq_false_iff_ne.2 V]at y;have p:=D_ y;have HH:=D_ V;clear y Z l_ V;go_wp2_with fail;refine p.out.mono ?_;rintro e w5 ⟨rfl,c⟩;have F:=D_ (H.out.below c);have a:=D_ c;have y:=X3 w5 r vk tk nk er (o:Nat) F.out;rw [beq_eq_false_iff_ne.2 HH.out]at y;have h_:=D_ y;clear c y p;go_wp2_with fail;refine h_.out.mono ?_;rintro e w8 ⟨rfl,b_⟩;have HM8:=D_ (F.out.below b_);have HB8:=D_ (a.out.trans (b_.mono a.out.size));obtain⟨gb,kb,capb,_,w_,_⟩:=HM8.out.ex;obtain⟨_,_,r2,r3,_⟩:=l5 w_;clear w_ b_ h_;go_upto_region 9 with fail;go_region
      all_goals
       go_wp2_with fail;refine B_ (v:=.tuple #[.slice none 0 0,.int .i64 (o:Nat),.int .i64 er]) (by simp [results,Tryz.results49,go_sem]) rfl ?_;show j7 w E _ _
       rw [HEB.out];exact⟨rfl,(X.out.trans ((J.out.trans (HB8.out.mono (by omega))).mono (by omega))).drew⟩
end Go.Proofs.YtinefdlkajnomaaGreatDoor
