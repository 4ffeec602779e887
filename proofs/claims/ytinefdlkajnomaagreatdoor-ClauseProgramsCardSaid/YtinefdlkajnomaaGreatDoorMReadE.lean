import Derived.Test.YtinefdlkajnomaaGreatDoorMReadD
namespace Go.Proofs.YtinefdlkajnomaaGreatDoor
open Go.RowKit
set_option maxHeartbeats 20000000
attribute [-go_sem] sliced
def I5 (m:Nat) (W:Rdr):Prop:= ∀(p:Int) (ts:List Tok) (ns:Nms) (w:World) (r:Nat) (v:Value),ts.length<=m->T0 ts->ns.length<=200->A1 w r v ts ns->
 Calls Tryz.prog 92 #[.pointer (some ⟨r,0,none⟩),.int .i64 p] w fun e w'=>Rq r v w (W p ts ns) e w'
def PZ (r:Nat) (v:Value) (w:World) (x:Rd (List Tm)) (e:Ending) (w':World):Prop:=
 match x with
 | .bad o=>e=eZ o/\Below r w w'
 | .ok l ts ns=> ∃v' ad cap,e=.returned (.slice ad l.length cap)/\l.length<=cap/\cap<=maxLen/\A1 w' r v' ts ns/\RGo r v w v' w'/\M0 w' (fun b=>w.heap.size<=b/\some b≠v'.ownBlock) ad l
def tokLen (w:World) (r:Nat):Nat:=
 match w.cell? ⟨r,0,none⟩with
 |some (.slice _ n _)=>n
 |_=>0
theorem A1.tokLen {w:World} {r:Nat} {v:Value} {ts:List Tok} {ns:Nms} (h:A1 w r v ts ns):tokLen w r=ts.length:=by
 obtain⟨g,k,cap,_,a,_⟩:=h.ex;unfold Go.Proofs.YtinefdlkajnomaaGreatDoor.tokLen;rw [(E0 a).1]
structure G2 (B:Nat) (w:World) (lv v:Value) (l:List Tm):Prop where
 ex: ∃xs,w.ownsRow B 26 4 lv l.length xs/\H4 w (fun b=>B<=b/\some b≠lv.ownBlock/\some b≠v.ownBlock) xs l
 ne: ∀k,lv.ownBlock=some k->some k≠v.ownBlock
theorem F3 {B:Nat} {e:TypeId} {s n:Nat} {w w':World} {v:Value} {xs:List Value} (h:w.ownsRow B e s v n xs) (k: ∀b,v.ownBlock=some b->b<w.heap.size->w'.heap[b]?=w.heap[b]?):w'.ownsRow B e s v n xs:=by
 obtain⟨d,j|⟨g,cap,cur,i,a,c,r⟩⟩:=h
 · exact⟨d,.inl j⟩
 · exact⟨d,.inr ⟨g,cap,cur,i,a,(k g (by rw [i];rfl) (Array.getElem?_eq_some_iff.1 c).1).trans c,r⟩⟩
theorem G2.go {B r:Nat} {w w':World} {lv v v':Value} {l:List Tm} (h:G2 B w lv v l) (o:r<B) (d:RGo r v w v' w'):G2 B w' lv v' l:=by
 obtain⟨xs,i,n⟩:=h.ex;have g:=i.lt;exact⟨⟨xs,F3 i (fun b j c=>d.keep b c (by have:=(g b j).1;omega) (h.ne b j)),n.kept (fun b a c=>d.keep b c (by omega) a.2.2) (fun b a c=>⟨a.1,a.2.1,d.ne c a.2.2⟩)⟩,fun k m=>d.ne (g k m).2 (h.ne k m)⟩
theorem A1.grown {w w3:World} {r:Nat} {v:Value} {row:Option Nat} {ts:List Tok} {ns:Nms} (h:A1 w r v ts ns) (c:w.grownBy w3 row) (m: ∀k,row=some k->r<k) (n: ∀k,row=some k->some k≠v.ownBlock):A1 w3 r v ts ns:=by
 have l:=h.lt;have a: ∀b,b<=r->some b≠row:=fun b i e=>by have:=m b e.symm;omega
 obtain⟨g,k,cap,j,p,o,hc,q⟩:=h.ex;exact⟨⟨g,k,cap,j,(c.block r l (a r (R_ _))).trans p,o,hc,q.kept (fun d=>c.block g d (a g (by omega)))⟩,h.names.kept (fun b i d=>c.block b d (fun e=>n b e.symm (by rw [i])))⟩
theorem RGo.grown {w w1 w3:World} {r:Nat} {v v':Value} {row:Option Nat} (h:RGo r v w v' w1) (c:w1.grownBy w3 row) (l:r<w.heap.size) (a: ∀k,row=some k->w.heap.size<=k):RGo r v w v' w3:=by
 have m:=h.below.size;exact⟨h.below.grown c (by omega) (fun k j=>by have:=a k j;omega),fun b i d g=>(c.block b (by omega) (fun e=>by have:=a b e.symm;omega)).trans (h.keep b i d g),h.own⟩
theorem G2.snoc {B B2:Nat} {w w3:World} {lv lv3 v:Value} {l:List Tm} {t:Tm} {ad:Option Addr} {cap:Nat} {xs:List Value} (y:B<=B2) (s: ∀k,lv.ownBlock=some k->some k≠v.ownBlock) (j: ∀k,v.ownBlock=some k->k<w.heap.size) (r: ∀k,lv.ownBlock=some k->k<B2)
 (n:H4 w (fun b=>B<=b/\some b≠lv.ownBlock/\some b≠v.ownBlock) xs l) (x:TmB B2 w v t ad cap)
 (m:w3.ownsRow B 26 4 lv3 (l.length+1) (xs++D0 t ad cap)) (p:w.grownBy w3 lv.ownBlock) (c:lv3.ownBlock=lv.ownBlock\/ ∃g,lv3.ownBlock=some g/\w.heap.size<=g):G2 B w3 lv3 v (l++ [t]):=by
 have o: ∀b,(B<=b/\some b≠lv.ownBlock/\some b≠v.ownBlock)->b<w.heap.size->(B<=b/\some b≠lv3.ownBlock/\some b≠v.ownBlock):=fun b a d=>by
  refine⟨a.1,?_,a.2.2⟩;rcases c with h|⟨g,h,q⟩
  · rw [h];exact a.2.1
  · rw [h];intro e;have:=Option.some.inj e;omega
 have u:TmP w (fun b=>B<=b/\some b≠lv.ownBlock/\some b≠v.ownBlock) t ad cap:=TmP.kept x (fun _ _ _=>rfl) (fun b a _=>⟨by omega,fun e=>by have:=r b e.symm;omega,a.2⟩);refine⟨⟨xs++D0 t ad cap,by rw [P_];exact m,(n.kept (fun b a d=>p.block b d a.2.1) o).snoc (u.kept (fun b a d=>p.block b d a.2.1) o)⟩,fun k i=>?_⟩;rcases c with h|⟨g,h,q⟩
 · exact s k (h.symm.trans i)
 · rw [h]at i;have e:=Option.some.inj i;intro e2;have:=j k e2.symm;omega
theorem G2.slice {B:Nat} {w:World} {lv v:Value} {l:List Tm} (h:G2 B w lv v l): ∃ad cap,lv=.slice ad l.length cap/\l.length<=cap/\cap<=maxLen/\M0 w (fun b=>B<=b/\some b≠v.ownBlock) ad l:=by
 obtain⟨xs,⟨i,r⟩,s⟩:=h.ex;have k:=h.ne;rcases r with⟨rfl,q⟩|⟨g,cap,cur,rfl,a,u,d,c,o,p⟩
 · cases l with
   |nil=>exact⟨none,0,rfl,R_ _,Nat.zero_le _,.nil _⟩
   |cons t ts=>cases q
 · refine⟨some ⟨g,0,none⟩,cap,rfl,d,c,s.args g ⟨a,k g rfl⟩ (fun b m=>⟨m.1,m.2.2⟩) 0 (fun j x=>?_)⟩;rw [Nat.zero_add];exact World.ownsRow.cellAt (w:=w) (base:=B) (e:=26) (size:=4) (n:=l.length) (xs:=xs) ⟨i,.inr ⟨g,cap,cur,rfl,a,u,d,c,o,p⟩⟩ j (by rw [<-i];exact x)
theorem G2.one {B B2:Nat} {w:World} {v:Value} {t:Tm} {ad:Option Addr} {cap:Nat} (n:B<=B2) (l:B2<=w.heap.size) (a: ∀k,v.ownBlock=some k->k<w.heap.size) (j:TmB B2 w v t ad cap):
 G2 B (w.alloc (.cells (D0 t ad cap).toArray 26)) (.slice (some ⟨w.heap.size,0,none⟩) 1 1) v [t]:=by
 have c:=World.ownsRow_lit (base:=B) (e:=26) (size:=4) w (D0 t ad cap).toArray 1 (by omega) (by unfold maxLen;decide) rfl;have d:H4 (w.alloc (.cells (D0 t ad cap).toArray 26)) (fun b=>B<=b/\some b≠(Value.slice (some ⟨w.heap.size,0,none⟩) 1 1).ownBlock/\some b≠v.ownBlock) (D0 t ad cap++ []) [t]:=
  .cons t ad cap [] [] (TmP.kept j (fun b _ g=>A_ _ _ _ g) (fun b i g=>⟨by omega,fun e=>by have:b=w.heap.size:=Option.some.inj e;omega,i.2⟩)) .nil
 rw [List.append_nil]at d;exact⟨⟨D0 t ad cap,c,d⟩,fun k h e=>by have m:w.heap.size=k:=Option.some.inj h;have:=a k e.symm;omega⟩
theorem Fq:(Tryz.prog.info? 26).map (fun i=>(i.zero,i.size,i.bytes))=some (some (.agg #[.int .i64 0,.string ⟨#[]⟩,.int .i64 0,.slice none 0 0]),4,56):=by kernel_rfl
set_option maxRecDepth 100000 in
theorem Q9 {m:Nat} {W:Rdr} (hW:R2 W m) (hC:I5 m W) (hM:m<=10000) (most:Nat) (ts:List Tok) (ns:Nms) (w:World) (r:Nat) (v:Value) (hm:ts.length<=m) (hf:T0 ts) (hn:ns.length<=200) (h:A1 w r v ts ns):
 Calls Tryz.prog 171 #[.pointer (some ⟨r,0,none⟩),.int .i64 most] w fun e w'=>PZ r v w (Y3 W most ts ns) e w':=by
 have C:=h.lt;have U:=D_ (hC 999 ts ns w r v hm hf hn h);have t:=D_ (hW 999 ts ns);obtain⟨E,D⟩: ∃E,Y3 W most ts ns=E:=⟨_,rfl⟩;rw [D];unfold Y3 at D;obtain⟨i0,hi,hz0,hz1,hz2⟩:=J6 Fq;cases hx:W 999 ts ns with
 |bad o=>
  rw [hx]at U D;rw [Rd.bind_bad]at D;subst D;clear h t;go_enter Tryz.func171,Tryz.ntmps171;go_wp2_with fail;refine U.out.mono ?_;rintro e w1 ⟨rfl,X⟩;exact⟨rfl,rfl,X⟩
 | ok t1 ts1 ns1=>
  rw [hx]at U D;rw [Rd.bind_ok]at D;obtain⟨a1,a2,a3⟩:=t.out t1 ts1 ns1 hm hf hn hx;have HE:=D_ D;have HA1:=D_ a1;have HCC:=D_ hC;have HWW:=D_ hW;clear h t hx D hC hW a1 hf;go_enter Tryz.func171,Tryz.ntmps171;go_wp2_with fail;refine U.out.mono ?_;rintro e w1 ⟨v1,ad1,cap1,rfl,c_,Z,w_⟩;have t_:G2 w.heap.size (w1.alloc (.cells (D0 t1 ad1 cap1).toArray 26)) (.slice (some ⟨w1.heap.size,0,none⟩) 1 1) v1 [t1]:=G2.one (R_ _) Z.below.size (fun k a=>(c_.names.lt k a).2) w_;have p_:=c_.below ((F_ _ w1).alloc (R_ _) (.cells (D0 t1 ad1 cap1).toArray 26));have n_:=Z.alloc C (.cells (D0 t1 ad1 cap1).toArray 26);have I:=D_ t_;have HM:=D_ p_;have t:=D_ n_;clear t_ p_ n_ c_ Z w_ U;unfold tmv;go_wp2_with fail;go_loopw [5] (fun lv wr=> ∃(f:Nat) (l:List Tm) (tk:List Tok) (nk:Nms) (vk:Value),tk.length<=f/\T0 tk/\nk.length<=200/\tk.length+l.length<=ts.length/\Hid (t7 W most f l tk nk=E)/\A1 wr r vk tk nk/\RGo r v w vk wr/\G2 w.heap.size wr lv vk l) (fun _ wr=>tokLen wr r)
  case atStart=>exact⟨ts1.length,[t1],ts1,ns1,v1,R_ _,HA1.out,a3,by have:=t1.size_pos;rw [List.length_singleton];omega,HE,HM.out,t.out,I.out⟩
  case round=>
   obtain⟨f,l,tk,nk,vk,hfl,B,s_,hlen,HK,G,z,s⟩:=hrel;have F:=D_ (x9 wr r vk tk nk [44] ⟨#[44]⟩ rfl G B);have HR:=D_ (fun W' (X:A1 W' r vk tk.tail nk) (h1:1<=tk.tail.length)=>C7 W' r vk tk.tail nk X h1);have T:=G.tokLen;have HTL:=D_ T;have a:=HK.out;have M:=D_ (fun A:(j0 tk).isP [44]=true=>B.tail (by rw [(U2 A).1];decide));have hfp:=B.pos;obtain⟨f',rfl⟩: ∃f',f=f'+1:=⟨f-1,by omega⟩;unfold t7 at a;have hws:=z.below.size;cases A:(j0 tk).isP [44]with
   |false=>
    rw [A]at F a;rw [I_ (by decide)]at F a;have y:=D_ a;have I:=D_ s;have t:=D_ z;clear T a G z s B HK HR M A;go_wp2_with fail;refine F.out.mono ?_;rintro e w3 ⟨rfl,d,c⟩;have u_:=I.out.go C c;obtain⟨ad,cap,rfl,h1,h2,h3⟩:=u_.slice;have q:=D_ d;have p:=D_ (t.out.trans c);have H3:=D_ h3;clear d c u_ h3 I;go_wp2_with fail;go_ret;rw [<-y.out];exact⟨vk,ad,cap,rfl,h1,h2,q.out,p.out,H3.out⟩
   | true =>
    rw [A]at F a;rw [J_ rfl]at F a;obtain⟨N,htl2⟩:=M.out A;have z_:=N.pos;by_cases g:l.length=most
    · rw [J_ g]at a;have y:=D_ a;have hbq:(((l.length:Nat):Int)==(most:Int))=true:=by rw [g];simp
      have I:=D_ s;have t:=D_ z;obtain⟨ad0,cap0,rfl,_,_,_⟩:=s.slice;clear T a G z s B HK M A g;go_wp2_with fail;refine F.out.mono ?_;rintro e w3 ⟨rfl,d,c⟩;have q:=D_ d;have p:=D_ (t.out.trans c);clear d c;go_wp2_with fail;refine(HR.out _ q.out z_).mono ?_;rintro e w4 ⟨rfl,Y⟩;refine⟨rfl,?_⟩;rw [<-y.out];exact⟨rfl,p.out.below.trans (Y.mono (by have:=q.out.lt;omega))⟩
    · rw [I_ g]at a;have hbq:(((l.length:Nat):Int)==(most:Int))=false:=by simp;omega
      obtain⟨ad0,cap0,rfl,_,_,_⟩:=s.slice;have I:=D_ s;have t:=D_ z;have J:=D_ (fun W' (h:A1 W' r vk tk.tail nk)=>HCC.out 999 tk.tail nk W' r vk (by omega) N s_ h);have V:=D_ (HWW.out 999 tk.tail nk);clear T G z s B HK HR M A g;cases H:W 999 tk.tail nk with
      |bad o=>
       rw [H]at J a;rw [Rd.bind_bad]at a;have y:=D_ a;clear a H V;go_wp2_with fail;refine F.out.mono ?_;rintro e w3 ⟨rfl,d,c⟩;have q:=D_ d;have p:=D_ (t.out.trans c);clear d c;go_wp2_with fail;refine(J.out _ q.out).mono ?_;rintro e w4 ⟨rfl,Y⟩;refine⟨rfl,?_⟩;rw [<-y.out];exact⟨rfl,p.out.below.trans Y⟩
      | ok t2 ts2 ns2=>
       rw [H]at J a;rw [Rd.bind_ok]at a;obtain⟨b1,b2,b3⟩:=V.out t2 ts2 ns2 (by omega) N s_ H;have y:=D_ a;have HB1:=D_ b1;have htp:=t2.size_pos;clear a H V b1 N;go_wp2_with fail;refine F.out.mono ?_;rintro e w3 ⟨rfl,d,c⟩;have q:=D_ d;have l_:=D_ (I.out.go C c);have p:=D_ (t.out.trans c);clear d c;go_wp2_with fail;refine(J.out _ q.out).mono ?_;rintro e w4 ⟨v4,ad4,cap4,rfl,q_,O,x_⟩;have g_:=l_.out.go C O;obtain⟨xs,e_,f_⟩:=g_.ex;have d_:=g_.ne;have a_:=e_.lt;have hs3s:=p.out.below.size;have b_:=fun k a=>((l_.out.ex.choose_spec.1).lt k a).2;have i_:=D_ q_;have HG4:=D_ (p.out.trans O);have hs4s:=O.below.size;have HT4:=D_ x_;have y_:=D_ f_;have k_:=D_ d_;have h_:=D_ a_;have HL3:=D_ b_;clear q_ O x_ g_ f_ d_ a_ b_;unfold tmv;go_wp2_with (first
        |(at_builtin;refine wpList_append_lies _ rfl _ _ 24 rfl w.heap.size 26 i0 (.agg #[.int .i64 0,.string ⟨#[]⟩,.int .i64 0,.slice none 0 0]) 4 56 Tryz.underlying24 hi hz0 hz1 hz2 rfl (by decide) _ _ _ rfl (e_.alloc _) ⟨w4.heap.size,0,none⟩ 1 1 (D0 t2 ad4 cap4) rfl rfl ?c1 ?c2 (by decide) ?c3 ?c4 ?c5 _ rfl ?_))
       case c1=>
        intro j u i;match j,i with
        |0,i=>simp [D0]at i;subst i;simp [Addr.add]
        |1,i=>simp [D0]at i;subst i;simp [Addr.add]
        |2,i=>simp [D0]at i;subst i;simp [Addr.add]
        |3,i=>simp [D0]at i;subst i;simp [Addr.add]
       case c2=>intro u hu;simp [D0]at hu;rcases hu with rfl|rfl|rfl|rfl<;>rfl
       case c3=>unfold maxLen;omega
       case c4=>omega
       case c5=>simp;omega
       intro g5 cap5 w5 R x m_ hlt5;have r_:=(i_.out.below ((F_ _ w4).alloc (R_ _) (.cells #[.int .i64 t2.kind,.string t2.name,.int .i64 t2.n,.slice ad4 t2.args.length cap4] 26))).grown x (fun k a=>by have:=(h_.out k a).1;omega) (fun k a=>k_.out k a);have o_:=(HG4.out.alloc C (.cells #[.int .i64 t2.kind,.string t2.name,.int .i64 t2.n,.slice ad4 t2.args.length cap4] 26)).grown x C (fun k a=>(h_.out k a).1);have v_:G2 w.heap.size w5 (.slice (some ⟨g5,0,none⟩) (l.length+1) cap5) v4 (l++ [t2]):=by
        refine G2.snoc (B2:=w3.heap.size) hs3s (fun k a=>k_.out k a) (fun k a=>?_) (fun k a=>HL3.out k a) (y_.out.kept (fun b _ X=>A_ _ _ _ X) (fun b A _=>A)) (HT4.out.below ((F_ _ w4).alloc (R_ _) _)) R x ?_
        · have:=(i_.out.names.lt k a).2;rw [Z_];omega
        · rcases m_ with e|e
          · exact .inl e.symm
          · exact .inr ⟨g5,rfl,by rw [Z_];omega⟩
       have j_:=D_ r_;have HG5:=D_ o_;have HS5:=D_ v_;clear r_ o_ v_ R x m_ e_;go_wp2;go_roundw
       case rel=>exact⟨f',l++ [t2],ts2,ns2,v4,by omega,HB1.out,b3,by rw [P_,List.length_singleton];omega,y,j_.out,HG5.out,HS5.out⟩
       case measure=>
        rw [j_.out.tokLen,HTL.out];omega
end Go.Proofs.YtinefdlkajnomaaGreatDoor
