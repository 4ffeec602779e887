import Derived.Test.YtinefdlkajnomaaGreatDoorMReadFC
import Derived.Test.YtinefdlkajnomaaGreatDoorMReadE
namespace Go.Proofs.YtinefdlkajnomaaGreatDoor
open Go.RowKit
set_option maxHeartbeats 20000000
attribute [-go_sem] sliced
def N6 (m:Nat) (W:Rdr):Prop:= ∀(p:Int) (ts:List Tok) (ns:Nms) (w:World) (r:Nat) (v:Value) (at_:Int),ts.length<=m->T0 ts->ns.length<=200->Z0 w r v ts ns 0 at_->
 Calls Tryz.prog 85 #[.pointer (some ⟨r,0,none⟩),.int .i64 p] w fun e w'=>I7 r v w at_ (W p ts ns) e w'
def FList (r:Nat) (v:Value) (w:World) (a0:Int) (x:Rd (List Tm)) (e:Ending) (w':World):Prop:=
 ∃l ts ns er at_ v' ad cap,e=.returned (.slice ad l.length cap)/\l.length<=cap/\cap<=maxLen/\Z0 w' r v' ts ns er at_/\RGo r v w v' w'/\M0 w' (fun b=>w.heap.size<=b/\some b≠v'.ownBlock) ad l/\FIs a0 x l ts ns er at_
theorem Z0.tokLen {w:World} {r:Nat} {v:Value} {ts:List Tok} {ns:Nms} {er at_:Int} (h:Z0 w r v ts ns er at_):tokLen w r=ts.length:=by
 obtain⟨g,k,cap,_,a,_⟩:=h.ex;unfold Go.Proofs.YtinefdlkajnomaaGreatDoor.tokLen;rw [(l5 a).1]
theorem Z0.grown {w w3:World} {r:Nat} {v:Value} {row:Option Nat} {ts:List Tok} {ns:Nms} {er at_:Int} (h:Z0 w r v ts ns er at_) (c:w.grownBy w3 row) (m: ∀k,row=some k->r<k) (n: ∀k,row=some k->some k≠v.ownBlock):Z0 w3 r v ts ns er at_:=by
 have l:=h.lt;have a: ∀b,b<=r->some b≠row:=fun b i e=>by have:=m b e.symm;omega
 obtain⟨g,k,cap,j,p,o,hc,q⟩:=h.ex;exact⟨⟨g,k,cap,j,(c.block r l (a r (R_ _))).trans p,o,hc,q.kept (fun d=>c.block g d (a g (by omega)))⟩,h.names.kept (fun b i d=>c.block b d (fun e=>n b e.symm (by rw [i])))⟩
theorem G2.empty (B:Nat) (w:World) (v:Value):G2 B w (.slice none 0 0) v []:=⟨⟨[],O_ _ _ _ _,.nil⟩,fun _ h=>by cases h⟩
def M9 (W:Rdr) (most:Nat) (g:List Tok->Nat) (l:List Tm) (ts:List Tok) (ns:Nms):Rd (List Tm):=
 if l.length=most then .bad (j0 ts).pos else(W 999 ts ns).bind fun t ts' ns'=>t7 W most (g ts') (l++ [t]) ts' ns'
theorem manyR_at (W:Rdr) (most:Nat) (h:0<most) (ts:List Tok) (ns:Nms):Y3 W most ts ns=M9 W most List.length [] ts ns:=by
 unfold Y3 M9;rw [I_ (by simp;omega)];rfl
theorem nz (W:Rdr) (most f:Nat) (l:List Tm) (ts:List Tok) (ns:Nms):t7 W most (f+1) l ts ns=if(j0 ts).isP [44]=true then M9 W most (fun _=>f) l ts.tail ns else .ok l ts ns:=rfl
set_option maxRecDepth 100000 in
theorem rf_many {m:Nat} {W:Rdr} (hW:R2 W m) (hC:N6 m W) (hM:m<=10000) (most:Nat) (hmo:0<most) (ts:List Tok) (ns:Nms) (w:World) (r:Nat) (v:Value) (at_:Int) (hm:ts.length<=m) (hf:T0 ts) (hn:ns.length<=200) (h:Z0 w r v ts ns 0 at_):
 Calls Tryz.prog 159 #[.pointer (some ⟨r,0,none⟩),.int .i64 most] w fun e w'=>FList r v w at_ (Y3 W most ts ns) e w':=by
 have p:=h.lt;obtain⟨E,hE⟩: ∃E,Y3 W most ts ns=E:=⟨_,rfl⟩;rw [hE];rw [manyR_at W most hmo]at hE;have HE:=D_ hE;obtain⟨i0,hi,hz0,hz1,hz2⟩:=J6 Fq;have HH:=D_ h;have HF:=D_ hf;have t_:=D_ hC;have HWW:=D_ hW;clear h hf hC hW hE;go_enter Tryz.func159,Tryz.ntmps159;go_wp2_with fail;go_loopw [5] (fun lv wr=> ∃(g:List Tok->Nat) (l:List Tm) (tk:List Tok) (nk:Nms) (vk:Value),Hid (∀t':List Tok,t'.length<=tk.length->t'.length<=g t')/\Hid (T0 tk)/\nk.length<=200/\tk.length+l.length<=ts.length/\l.length<=most/\Hid (M9 W most g l tk nk=E)/\Hid (Z0 wr r vk tk nk 0 at_)/\Hid (RGo r v w vk wr)/\Hid (G2 w.heap.size wr lv vk l)) (fun _ wr=>tokLen wr r)
 case atStart=>exact⟨List.length,[],ts,ns,v,D_ (fun _ _=>R_ _),HF,hn,by simp,Nat.zero_le _,HE,HH,D_ (RGo.refl _ _ _),D_ (G2.empty _ _ _)⟩
 case round=>
  obtain⟨g,l,tk,nk,vk,d_,Z,hnk,hlen,hlm,HK,F,e_,U⟩:=hrel;have HTL:=D_ F.out.tokLen;have hws:=e_.out.below.size;obtain⟨ad0,cap0,rfl,_,hcm0,_⟩:=U.out.slice;have hfp:=Z.out.pos;by_cases B:l.length=most
  · have a:Hid (E=.bad (j0 tk).pos):=D_ (by rw [<-HK.out];unfold M9;rw [J_ B]);have hbq:(most:Int)<=((l.length:Nat):Int):=by omega
    clear B d_ t_ HWW;go_wp2_with fail;refine(X3 wr r vk tk nk 0 at_ F.out).mono ?_;rintro e w1 ⟨rfl,G⟩;have y:=D_ G;clear G;go_wp2_with fail;refine(M8 w1 r vk tk nk at_ (F.out.below y.out) hfp).mono ?_;rintro e w2 ⟨rfl,hm2,hg2⟩;have HM2:=D_ hm2;have u_:=D_ ((RGo.of_below y.out (by omega)).trans hg2);clear hm2 hg2;go_wp2_with fail;go_ret;obtain⟨ad,cap,J,h1,I,h3⟩:=(U.out.go p u_.out).slice;injection J with e1 _ e2;subst e1 e2;exact⟨l,tk,nk,60,_,vk,_,_,rfl,h1,I,HM2.out,e_.out.trans u_.out,h3,by rw [a.out];exact⟨rfl,rfl⟩⟩
  · have hbq: ¬(most:Int)<=((l.length:Nat):Int):=by omega
    have a:Hid ((W 999 tk nk).bind (fun t ts' ns'=>t7 W most (g ts') (l++ [t]) ts' ns')=E):=D_ (by rw [<-HK.out];unfold M9;rw [I_ B]);clear HK;go_wp2_with fail;refine(X3 wr r vk tk nk 0 at_ F.out).mono ?_;rintro e w1 ⟨rfl,G⟩;have y:=D_ G;clear G;go_wp2_with fail;refine(t_.out 999 tk nk w1 r vk at_ (by omega) Z.out hnk (F.out.below y.out)).mono ?_;rintro e w4 ⟨t,ts1,ns1,er,at1,v4,ad4,cap4,rfl,hm4,m_,ht4,hi4⟩;have M:=(RGo.of_below y.out (by omega)).trans m_;have q_:=U.out.go p M;obtain⟨xs,o_,p_⟩:=q_.ex;have g_:=D_ q_.ne;have f_:=D_ o_.lt;have w_:=D_ (fun k i=>((U.out.ex.choose_spec.1).lt k i).2);have T:=D_ hm4;have v_:=D_ (e_.out.trans M);have hs1s:=y.out.size;have hs4s:=m_.below.size;have hltr:=T.out.lt;have z_:=D_ ht4;have i_:=D_ p_;have A:=D_ hi4;clear hm4 m_ M ht4 q_ p_ hi4;unfold tmv;go_wp2_with (first
     |(at_builtin;refine wpList_append_lies _ rfl _ _ 24 rfl w.heap.size 26 i0 (.agg #[.int .i64 0,.string ⟨#[]⟩,.int .i64 0,.slice none 0 0]) 4 56 Tryz.underlying24 hi hz0 hz1 hz2 rfl (by decide) _ _ _ rfl (o_.alloc _) ⟨w4.heap.size,0,none⟩ 1 1 (D0 t ad4 cap4) rfl rfl ?c1 ?c2 (by decide) ?c3 ?c4 ?c5 _ rfl ?_))
    case c1=>
     intro j u d;match j,d with
     |0,d=>simp [D0]at d;subst d;simp [Addr.add]
     |1,d=>simp [D0]at d;subst d;simp [Addr.add]
     |2,d=>simp [D0]at d;subst d;simp [Addr.add]
     |3,d=>simp [D0]at d;subst d;simp [Addr.add]
    case c2=>intro u hu;simp [D0]at hu;rcases hu with rfl|rfl|rfl|rfl<;>rfl
    case c3=>unfold maxLen;omega
    case c4=>omega
    case c5=>simp;omega
    intro g5 cap5 w5 X q hat hlt5;have hm5:=(T.out.below ((F_ _ w4).alloc (R_ _) (.cells #[.int .i64 t.kind,.string t.name,.int .i64 t.n,.slice ad4 t.args.length cap4] 26))).grown q (fun k i=>by have:=(f_.out k i).1;omega) (fun k i=>g_.out k i);have hg5:=(v_.out.alloc p (.cells #[.int .i64 t.kind,.string t.name,.int .i64 t.n,.slice ad4 t.args.length cap4] 26)).grown q p (fun k i=>(f_.out k i).1);have hs5:G2 w.heap.size w5 (.slice (some ⟨g5,0,none⟩) (l.length+1) cap5) v4 (l++ [t]):=by
     refine G2.snoc (B2:=w1.heap.size) (by omega) (fun k i=>g_.out k i) (fun k i=>?_) (fun k i=>by have:=w_.out k i;omega) (i_.out.kept (fun b _ hb=>A_ _ _ _ hb) (fun b x _=>x)) (z_.out.below ((F_ _ w4).alloc (R_ _) _)) X q ?_
     · have:=(T.out.names.lt k i).2;rw [Z_];omega
     · rcases hat with e|e
       · exact .inl e.symm
       · exact .inr ⟨g5,rfl,by rw [Z_];omega⟩
    have C:=D_ hm5;have c_:=D_ hg5;have j_:=D_ hs5;clear hm5 hg5 hs5 X q hat o_ f_ g_ w_ T v_ z_ i_;have V:(l++ [t]).length=l.length+1:=by rw [P_,List.length_singleton]
    have c:=D_ V;clear V;have hlt5r:=C.out.lt;go_wp2_with fail;refine(X3 w5 r v4 ts1 ns1 er at1 C.out).mono ?_;rintro e w6 ⟨rfl,hb6⟩;have s:=D_ hb6;clear hb6;cases hx:W 999 tk nk with
    |bad o=>
     rw [hx]at a A;obtain⟨rfl,rfl⟩:=A.out;have Y:Hid (E=.bad o):=D_ a.out.symm;clear a A hx;go_wp2_with fail;go_ret;obtain⟨ad,cap,J,h1,I,h3⟩:=(j_.out.go p (RGo.of_below s.out (by omega))).slice;rw [c.out]at J;injection J with e1 _ e2;subst e1 e2;exact⟨l++ [t],ts1,ns1,60,_,v4,_,_,by rw [c.out];rfl,h1,I,C.out.below s.out,c_.out.trans (RGo.of_below s.out (by omega)),h3,by rw [Y.out];exact⟨rfl,rfl⟩⟩
    | ok t0 ts0 ns0=>
     rw [hx]at a A;obtain⟨rfl,rfl,rfl,rfl,rfl⟩:=A.out;obtain⟨a1,a2,a3⟩:=HWW.out 999 tk nk t ts1 ns1 (by omega) Z.out hnk hx;have htp:=t.size_pos;have r_:=D_ a1;have b_:=D_ (d_.out ts1 (by omega));clear A hx a1 d_;rw [Rd.bind_ok]at a;have hfp1:=r_.out.pos;have D:=D_ (C.out.below s.out);have h_:=D_ (c_.out.trans (RGo.of_below s.out (by omega)));have y_:=D_ (j_.out.go p (RGo.of_below s.out (by omega)));clear C c_ j_ s;go_wp2_with fail;refine(F4 w6 r v4 ts1 ns1 0 at1 D.out hfp1).mono ?_;rintro e w7 ⟨rfl,hb7⟩;have O:=D_ hb7;have HP:=D_ (fun W=>M5 (j0 ts1) [44] W);clear hb7;obtain⟨f',k_⟩: ∃f',g ts1=f'+1:=⟨g ts1-1,by have:=b_.out;omega⟩;have R:Hid ((if(j0 ts1).isP [44]=true then M9 W most (fun _=>f') (l++ [t]) ts1.tail ns1 else .ok (l++ [t]) ts1 ns1)=E):=D_ (by rw [<-a.out,k_,nz]);have hfg:ts1.length<=f'+1:=by rw [<-k_];exact b_.out
     have a_:=D_ (fun x:(j0 ts1).isP [44]=true=>r_.out.tail (by rw [(U2 x).1];decide));clear k_ b_ a;generalize Y1 (j0 ts1)=tv at*;have s_:Hid ((j0 ts1).isP [44]=(j0 ts1).isP [44]):=D_ rfl;cases x:(j0 ts1).isP [44]with
     |false=>
      have Y:Hid (E=.ok (l++ [t]) ts1 ns1):=D_ (by rw [<-R.out,x];rfl);rw [x]at HP;clear R a_ s_ x;go_wp2_with fail;refine(HP.out _).mono ?_;rintro e w8 ⟨rfl,H⟩;have z:=D_ (O.out.trans (H.mono O.out.size));clear H;go_wp2_with fail;go_ret;have n_:=D.out.lt;obtain⟨ad,cap,J,h1,I,h3⟩:=(y_.out.go p (RGo.of_below z.out (by omega))).slice;rw [c.out]at J;injection J with e1 _ e2;subst e1 e2;exact⟨l++ [t],ts1,ns1,0,at1,v4,_,_,by rw [c.out];rfl,h1,I,D.out.below z.out,h_.out.trans (RGo.of_below z.out (by omega)),h3,by rw [Y.out];exact⟨rfl,rfl,rfl,rfl,rfl⟩⟩
     |true=>
      have HK4:Hid (M9 W most (fun _=>f') (l++ [t]) ts1.tail ns1=E):=D_ (by rw [<-R.out,x];rfl);rw [x]at HP;obtain⟨l_,htl2⟩:=a_.out x;have HFT2:=D_ l_;have I:2<=ts1.length:=by have:=l_.pos;omega
      clear R a_ s_ x l_;go_wp2_with fail;refine(HP.out _).mono ?_;rintro e w8 ⟨rfl,H⟩;have z:=D_ (O.out.trans (H.mono O.out.size));clear H;go_wp2_with fail;have n_:=D.out.lt;refine(G3 w8 r v4 ts1 ns1 at1 (D.out.below z.out) I).mono ?_;rintro e w9 ⟨rfl,hm9,hg9⟩;have N:=(RGo.of_below (v:=v4) z.out (N_ n_)).trans hg9;have x_:=D_ hm9;have HG9:=D_ (h_.out.trans N);have HS9:=D_ (y_.out.go p N);clear hm9 hg9 N;go_wp2_with fail;go_roundw
      case rel=>exact⟨fun _=>f',l++ [t],ts1.tail,ns1,v4,D_ (fun t' ht'=>show t'.length<=f' by omega),HFT2,a3,by rw [c.out];omega,by rw [c.out];omega,HK4,x_,HG9,HS9⟩
      case measure=>rw [x_.out.tokLen,HTL.out];omega
end Go.Proofs.YtinefdlkajnomaaGreatDoor
