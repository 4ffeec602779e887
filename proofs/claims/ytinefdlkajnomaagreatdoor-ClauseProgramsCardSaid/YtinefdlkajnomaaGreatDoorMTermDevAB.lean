import Derived.Test.YtinefdlkajnomaaGreatDoorMIterAll
import Derived.Test.YtinefdlkajnomaaGreatDoorMTermMay
import Derived.Test.YtinefdlkajnomaaGreatDoorMCharDevAC
namespace Go.Proofs.YtinefdlkajnomaaGreatDoor
open Go.RowKit
set_option maxHeartbeats 20000000
attribute [local go_sem] Oper.semAt_some
def PartAt (T:Tm) (k:Nat) (x:Nat×Tm×Option Addr×Nat):Prop:=(T.parts 1)[k]?=some (x.1,x.2.1)/\TmOk x.2.1 x.2.2.2/\x.1<=1000000
def partv (x:Nat×Tm×Option Addr×Nat):Array Value:= #[.int .i64 (x.1:Nat),tmv x.2.1 x.2.2.1 x.2.2.2]
structure PIn (T:Tm) (n₀ q:Nat) (J:(Nat->Prop)->Nat->World->Prop) (k:Nat) (R:List Ent) (g cap:Nat) (W:World):Prop where
 own:W.ownsRow (q+1) 24 1 (.slice (some ⟨g,0,none⟩) R.length cap) R.length (R.map Ent.v).reverse
 ok: ∀e∈R,e.Ok W (fun b=>b<n₀\/b=q)
 j:J (two q g) k W
 le:k<=T.size
 rest:(T.parts 1).drop k=uq (R.map Ent.ts)
 depth:R.length<=k+1
 lt:q<W.heap.size
def PInv (T:Tm) (n₀ q:Nat) (J:(Nat->Prop)->Nat->World->Prop) (m:Nat) (p:Value) (W:World):Prop:=
 ∃k R g cap,p=.slice (some ⟨g,0,none⟩) R.length cap/\PIn T n₀ q J k R g cap W/\m=2*(T.size-k)+R.length
theorem PIn.pop {T:Tm} {n₀ q:Nat} {J:(Nat->Prop)->Nat->World->Prop} {k:Nat} {ad:Option Addr} {c:Nat} {R:List Ent} {g cap:Nat} {W:World} (h:PIn T n₀ q J k (⟨[],ad,c⟩::R) g cap W):PIn T n₀ q J k R g cap W:=
 ⟨by have:=h.own;rw [List.map_cons,List.reverse_cons]at this;exact ownsRow_pop this,fun e a=>h.ok e (.tail _ a),h.j,h.le,by have:=h.rest;exact this,by have:=h.depth;rw [List.length_cons]at this;omega,h.lt⟩
theorem row1P {w:World} {n₀:Nat} {T:Tm} {ad:Option Addr} {cap:Nat} (h:TmP w (fun b=>b<n₀) T ad cap):
 M0 (w.alloc (.cells #[.int .i64 T.kind,.string T.name,.int .i64 T.n,.slice ad T.args.length cap] 26)) (fun b=>b<n₀\/b=w.heap.size) (some ⟨w.heap.size,0,none⟩) [T]:=by
 have c:=h.args.kept (w':=w.alloc (.cells #[.int .i64 T.kind,.string T.name,.int .i64 T.n,.slice ad T.args.length cap] 26)) (Q:=fun b=>b<n₀\/b=w.heap.size) (fun b _ a=>A_ _ _ _ a) (fun b d _=>.inl d);rw [T.eta];exact .cons _ _ _ _ _ _ _ ad cap (.inr rfl) (World.cell?_alloc_at _ _ _ _ rfl) (World.cell?_alloc_at _ _ _ _ rfl) (World.cell?_alloc_at _ _ _ _ rfl) (World.cell?_alloc_at _ _ _ _ rfl) h.kind h.n h.name h.len h.cap c (.nil _)
theorem PIn.start {T:Tm} {ad:Option Addr} {cap n₀:Nat} {J:(Nat->Prop)->Nat->World->Prop} {W:World} (o:TmP W (fun b=>b<n₀) T ad cap) (_hn:n₀<=W.heap.size) (l:Q7 J) (k:J (fun _=>False) 0 W):
 PIn T n₀ W.heap.size J 0 [⟨[T],some ⟨W.heap.size,0,none⟩,1⟩] (W.heap.size+1) 1
  ((W.alloc (.cells #[.int .i64 T.kind,.string T.name,.int .i64 T.n,.slice ad T.args.length cap] 26)).alloc (.cells #[.slice (some ⟨W.heap.size,0,none⟩) 1 1] 24)):=by
 have p:=row1P o;generalize i:W.alloc (.cells #[.int .i64 T.kind,.string T.name,.int .i64 T.n,.slice ad T.args.length cap] 26)=W1 at*;have c:W1.heap.size=W.heap.size+1:=by rw [<-i];simp
 refine⟨?_,?_,?_,Nat.zero_le _,?_,R_ _,by simp [c];omega⟩
 · have d:=World.ownsRow_lit (base:=W.heap.size+1) (e:=24) (size:=1) W1 #[.slice (some ⟨W.heap.size,0,none⟩) 1 1] 1 (by omega) (by decide) rfl;rw [c]at d;exact d
 · intro e m;obtain rfl:=List.mem_singleton.1 m;exact⟨R_ _,by show 1<=maxLen;decide,p.kept (fun b _ g=>A_ _ _ _ g) fun _ h _=>h⟩
 · refine l _ _ 0 W _ k ?_ (fun j a=>.inr ?_) (fun j a=>?_)
   · rw [<-i];exact(V0.alloc _ W _).trans (V0.alloc _ _ _)
   · rcases a with rfl|rfl<;>omega
   · rcases a with rfl|rfl<;>simp [c]<;>omega
 · show(T.parts 1).drop 0=Tm.partss [T] 1++ []
   rw [List.drop_zero,List.append_nil,Tm.partss_cons];exact(List.append_nil _).symm
theorem infoTerms:(Tryz.prog.info? 24).map (fun i=>(i.zero,i.size,i.bytes))=some (some (.slice none 0 0),1,24):=by kernel_rfl
set_option maxRecDepth 100000 in
theorem parts_seq (T:Tm) (ad:Option Addr) (cap Bt n₀:Nat) (w:World) (hM:T.size<=1000000) (hB:w.heap[Bt]?=some (.cells #[.int .i64 T.kind,.string T.name,.int .i64 T.n,.slice ad T.args.length cap] 26 (0,0)))
 (hp:TmP w (fun b=>b<n₀) T ad cap) (hn:n₀<=w.heap.size):
 SeqM Tryz.prog 73 #[.pointer (some ⟨Bt,0,none⟩)] partv (PartAt T) T.size n₀ w:=fun l J Jx W hW hJ l_ hY h0=>by
 have HJ:=D_ hJ;have HJX:=D_ l_;have HY:=D_ hY;have HP:=D_ (hp.kept (w':=W) (Q:=fun b=>b<n₀) (fun b _ hlt=>hW.block b hlt) (fun b h _=>h));have g_:=(hW.block Bt (Array.getElem?_eq_some_iff.1 hB).1).trans hB;have hnW:n₀<=W.heap.size:=Nat.le_trans hn hW.size;clear hJ l_ hY hp hB hn hW;obtain⟨i0,hi,hz0,hz1,hz2⟩:=info_parts infoTerms;obtain⟨d0,d1,d2,d3,e0,e1,e2,e3⟩:W.cell? ⟨Bt,0,none⟩=some (.int .i64 T.kind)/\W.cell? ⟨Bt,1,none⟩=some (.string T.name)/\W.cell? ⟨Bt,2,none⟩=some (.int .i64 T.n)/\W.cell? ⟨Bt,3,none⟩=some (.slice ad T.args.length cap)/\
  W.frozen? ⟨Bt,0,none⟩=false/\W.frozen? ⟨Bt,1,none⟩=false/\W.frozen? ⟨Bt,2,none⟩=false/\W.frozen? ⟨Bt,3,none⟩=false:=by
  simp [World.cell?,World.frozen?,g_]
 clear g_;refine(callsIn_wide (n:=4)).1 ?_;refine callsIn_of_wp Tryz.func73 rfl trivial ?_ rfl;simp only [Tryz.ntmps73,List.size_toArray,List.length_cons,List.length_nil,Nat.reduceAdd,Nat.reduceSub,Array.replicate_succ,Array.replicate_zero,List.push_toArray,List.append_toArray,List.nil_append,List.cons_append]
 gi_wp2
 gi_loopw [3] (fun p wr=> ∃m,PInv T n₀ W.heap.size J m p wr) (fun p wr=>Jz fun m=>PInv T n₀ W.heap.size J m p wr)
 case atStart=>
  refine⟨_,0,[⟨[T],some ⟨W.heap.size,0,none⟩,1⟩],W.heap.size+1,1,rfl,?_,rfl⟩;exact PIn.start HP.out hnW HJ.out h0
 case round =>
  obtain⟨m0,s_⟩:=hrel;have hm1:=vJ (R:=fun m=>PInv T n₀ W.heap.size J m u3 wr) s_;generalize q:Jz (fun m=>PInv T n₀ W.heap.size J m u3 wr)=m at*;have d_:=D_ q;clear s_ q;obtain⟨k,R,g,cp,rfl,C,t_⟩:=hm1;have r_:=fun j=>C.own.frozenAt j;obtain⟨hg1,hg2,hnc,hcm⟩:=B6 C.own;have hk1:=C.le;have hdp:=C.depth;have hq:=C.lt;have m_:=D_ t_;have i:=D_ C;clear t_ C;unfold maxLen at hcm;cases R with
  |nil=>
   gi_wp2
   go_end0;have h9:=i.out.rest;have O:=congrArg List.length h9;rw [List.length_drop,Tm.parts_len]at O;have:uq (([]:List Ent).map Ent.ts)= []:=rfl;rw [this]at O;obtain rfl:k=T.size:=by simp at O;omega
   exact⟨⟨_,rfl⟩,.inl ⟨_,i.out.j⟩⟩
  | cons e R =>
   obtain⟨ts,ead,ecap⟩:=e;have I:(Ent.mk ts ead ecap::R).length=R.length+1:=rfl;rw [I]at hnc hdp;have E:=i.out.own;have hce:wr.cell? ⟨g,R.length,none⟩=some (.slice ead ts.length ecap):=by
    rw [E.cellAt R.length (by rw [I];omega)];simp [Ent.v]
   have F:=i.out.ok _ (.head _);have q_:=F.len;have p_:=F.cap;unfold maxLen at p_;dsimp only at q_ p_;have y_:=D_ E;have e_:=D_ F;clear E F;rw [I];generalize hr:R.length=r at*;have s:=D_ hr;clear hr I;cases ts with
   |nil=>
    gi_wp2
    have h9:=PIn.pop i.out;refine⟨⟨_,k,R,g,cp,by rw [s.out],h9,rfl⟩,?_⟩;have q:=d_.out;rw [List.length_cons,s.out]at q;rw [q];refine Nat.lt_of_le_of_lt (Rx (m:=2*(T.size-k)+R.length) ⟨k,R,g,cp,by rw [s.out],h9,rfl⟩) ?_;have:=m_.out;rw [List.length_cons]at this;omega
   | cons t ts=>
    obtain⟨b,o,rfl⟩:=e_.out.args.addr;obtain⟨V,hblt,ad1,cap1,c0,c1,c2,c3,w_,v_,x_⟩:=e_.out.args.head;have hbg:b≠g:=by rcases V with h|h<;>omega
    have x:=i.out.rest;rw [List.map_cons,remain_cons]at x;have Z:(T.parts 1)[k]?=some (r+1,t):=by
     have O:((T.parts 1).drop k)[0]?=(T.parts 1)[k]?:=by rw [List.getElem?_drop,Nat.add_zero]
     rw [<-O,x,List.length_map,s.out];rfl
    have z_:k<T.size:=by
     have:=(List.getElem?_eq_some_iff.1 Z).1;rwa [Tm.parts_len]at this
    have B:(T.parts 1).drop (k+1)=uq (t.args::ts::R.map Ent.ts):=by
     rw [<-List.drop_drop,x];rfl
    have N:Hid (PartAt T k (r+1,t,ad1,cap1)):=⟨Z,w_,by show r+1<=1000000;omega⟩;have HTA:=D_ v_;have HTR:=D_ x_;have c_:=D_ B;have HPB:=D_ V;clear w_ v_ x_ x B Z V;rw [List.length_cons]at hce q_;have hfg:=r_ r;have b_:(ecap=1/\ts= [])\/ ¬ecap=1:=by
     by_cases M:ecap=1
     · exact .inl ⟨M,List.eq_nil_of_length_eq_zero (by omega)⟩
     · exact .inr M
    have hE:Hid (∃E':Ent,E'.v=(if ecap=1 then .slice (some ⟨b,o,none⟩) 0 0 else .slice (some ⟨b,o+4,none⟩) ts.length (ecap-1))/\E'.ts=ts/\E'.Ok wr (fun b=>b<n₀\/b=W.heap.size)):=by
     rcases b_ with⟨rfl,rfl⟩|M
     · exact⟨⟨[],some ⟨b,o,none⟩,0⟩,by rw [J_ rfl];rfl,rfl,R_ _,Nat.zero_le _,.nil _⟩
     · exact⟨⟨ts,some ⟨b,o+4,none⟩,ecap-1⟩,by rw [I_ M];rfl,rfl,by show ts.length<=ecap-1;omega,by unfold maxLen;show ecap-1<=_;omega,HTR.out⟩
    have hfg:=r_ r;have hsp':(ecap=1/\ts= [])\/(Hid (¬ecap=1)/\ ¬ecap=1):=b_.imp id fun h=>⟨h,h⟩;clear b_;rcases hsp' with⟨rfl,rfl⟩|⟨HEC,hec1⟩
    all_goals gi_wp2
    all_goals obtain⟨E',z,h_,i_⟩:=hE.out
    all_goals first|rw [J_ True.intro]at z|rw [I_ HEC.out]at z
    all_goals try rw [List.length_nil]
    all_goals rw [<-z]
    all_goals have HE1:=D_ z
    all_goals clear z
    all_goals have U:J (two W.heap.size g) k (wr.setCell ⟨g,r,none⟩ E'.v):=HJ.out _ _ k _ _ i.out.j (V0.set _ _ (.inr rfl) _) (fun j D=>.inl D) (fun j D=>by rcases D with rfl|rfl<;>simp [World.setCell]<;>omega)
    all_goals obtain⟨fn,tmps,assign,body,hy,hR⟩:=HY.out (two W.heap.size g) k (r+1,t,ad1,cap1) _ U z_ N.out
    all_goals unfold partv tmv at hy
    all_goals dsimp only at hy
    all_goals rw [show(((r+1:Nat)):Int)=(r:Int)+1 from rfl]at hy
    all_goals rw [hy]
    all_goals clear hy
    all_goals gi_wp2
    all_goals
     refine hR.mono ?_;rintro e W3 (⟨rfl,j_,X,A⟩|⟨rfl,hJx3⟩)
     · have keepP: ∀b',(b'<n₀\/b'=W.heap.size)->W3.heap[b']?=wr.heap[b']?:=fun b' d=>by
        have u_:b'≠g:=by rcases d with h|h<;>omega
        rcases d with h|h
        · exact(X.block b' h).trans (S_ _ _ _ _ u_)
        · exact(A.same b' (.inl h)).trans (S_ _ _ _ _ u_)
       have G:W3.ownsRow (W.heap.size+1) 24 1 (.slice (some ⟨g,0,none⟩) (r+1) cp) (r+1) ((R.map Ent.v).reverse++ [E'.v]):=by
        refine I1 ?_ (A.same g (.inr rfl));have h7:=y_.out.stored r E'.v;rw [List.map_cons,List.reverse_cons,List.set_append_right _ _ (by rw [List.length_reverse,List.length_map,s.out];exact R_ _),List.length_reverse,List.length_map,s.out,Nat.sub_self,C_,List.length_cons,s.out]at h7;exact h7.1
       have c3':W3.cell? ⟨b,o+3,none⟩=some (.slice ad1 t.args.length cap1):=(World.cell?_of_block (w:=wr) (a:=⟨b,o+3,none⟩) (keepP b HPB.out)).trans c3;have hs3:wr.heap.size<=W3.heap.size:=Nat.le_trans (by simp [World.setCell]) A.size;have HK:=D_ keepP;have HJ3:=D_ j_;have HB3:=D_ X;have HK3:=D_ A;clear keepP j_ X A hR U;gi_wp2_with (gi_at_builtin;refine append_in rfl _ _ 100 rfl (W.heap.size+1) 24 i0 (.slice none 0 0) 1 24 Tryz.underlying100 hi hz0 hz1 hz2 rfl (by decide) _ (r+1) _ rfl (G.alloc _) ⟨W3.heap.size,0,none⟩ 1 1 [.slice ad1 t.args.length cap1] rfl rfl ?c1 ?c2 (by decide) ?c3 ?c4 ?c5 (W3.heap.size+1) (by simp) ?_)
       case c1=>exact cell_one_new _ _ _
       case c2=>intro u hu;simp at hu;subst hu;rfl
       case c3=>unfold maxLen;omega
       case c4=>omega
       case c5=>simp;omega
       intro g' cap' W4 H c o_ hlt4;have a_: ∀b',(b'<n₀\/b'=W.heap.size)->some b'≠(Value.slice (some ⟨g,0,none⟩) (r+1) cp).ownBlock:=fun b' d e=>by
        have:b'=g:=by simpa [Value.ownBlock]using e
        rcases d with h|h<;>omega
       have hsz4:=c.size;rw [Z_]at hsz4;have keep4: ∀b',(b'<n₀\/b'=W.heap.size)->b'<wr.heap.size->W4.heap[b']?=wr.heap[b']?:=fun b' d hlt'=>
        (c.block b' (by rw [Z_];omega) (a_ b' d)).trans ((A_ _ _ _ (by omega)).trans (HK.out b' d))
       have hg':g'=g\/g'=W3.heap.size+1:=by
        rcases o_ with h|h
        · left;simpa [Value.ownBlock]using h.symm
        · exact .inr h
       have k_:J (two W.heap.size g') (k+1) W4:=by
        refine HJ.out _ _ (k+1) W3 W4 HJ3.out ⟨c.os,c.tape,c.output,by omega,fun b' d hn=>?_⟩ (fun j D=>?_) (fun j D=>?_)
        · exact(c.block b' (by rw [Z_];omega) (fun e=>hn (.inr (by simpa [Value.ownBlock]using e)))).trans (A_ _ _ _ d)
        · rcases D with rfl|rfl
          · exact .inl (.inl rfl)
          · rcases hg' with h|h
            · exact .inl (.inr h)
            · right;omega
        · rcases D with rfl|rfl<;>omega
       have n_:PIn T n₀ W.heap.size J (k+1) (⟨t.args,ad1,cap1⟩::E'::R) g' cap' W4:=by
        refine⟨?_,?_,k_,by omega,?_,by rw [List.length_cons,List.length_cons,s.out];omega,by omega⟩
        · rw [List.length_cons,List.length_cons,s.out,List.map_cons,List.reverse_cons,List.map_cons,List.reverse_cons,List.append_assoc];exact H
        · intro e Y;have M:e.Ok wr (fun b=>b<n₀\/b=W.heap.size):=by
           rcases List.mem_cons.1 Y with rfl|Y
           · exact⟨N.out.2.1.len,N.out.2.1.cap,HTA.out⟩
           · rcases List.mem_cons.1 Y with rfl|Y
             · exact i_
             · exact i.out.ok e (.tail _ Y)
          exact M.kept keep4
        · rw [c_.out,List.map_cons,List.map_cons,h_]
       have f_:=D_ n_;clear H c o_ a_ keep4 k_ n_ G i_ h_ c3';gi_wp2
       have y:(⟨t.args,ad1,cap1⟩::E'::R:List Ent).length=r+1+1:=by rw [List.length_cons,List.length_cons,s.out]
       refine⟨⟨_,k+1,_,g',cap',by rw [y],f_.out,rfl⟩,?_⟩;have q:=d_.out;rw [List.length_cons,s.out]at q;rw [q];refine Nat.lt_of_le_of_lt (Rx (m:=2*(T.size-(k+1))+(r+1+1)) ⟨k+1,_,g',cap',by rw [y],f_.out,by rw [y]⟩) ?_;have:=m_.out;rw [List.length_cons,s.out]at this;omega
     · clear hR U;gi_wp2
       refine B_ (results_none rfl _ _ _) rfl ?_;exact⟨⟨_,rfl⟩,.inr ⟨_,k+1,by omega,hJx3⟩⟩
end Go.Proofs.YtinefdlkajnomaaGreatDoor
namespace Go.Proofs.YtinefdlkajnomaaGreatDoor
open Go.RowKit Go.Shelf
set_option maxHeartbeats 20000000
attribute [local go_sem] Oper.semAt_some
def cq (l:List (Nat×Tm)):Nat:=l.foldl (fun m p=>max m p.1) 0
theorem foldmax (l:List (Nat×Tm)) (m:Nat):l.foldl (fun m p=>max m p.1) m=max m (cq l):=by
 unfold cq;induction l generalizing m with
 |nil=>simp
 |cons p l ih=>rw [List.foldl_cons,List.foldl_cons,ih,ih (max 0 p.1)];omega
theorem mq (a b:List (Nat×Tm)):cq (a++b)=max (cq a) (cq b):=by
 rw [cq,List.foldl_append,foldmax];rfl
theorem oz (p:Nat×Tm) (l:List (Nat×Tm)):cq (p::l)=max p.1 (cq l):=by
 rw [cq,List.foldl_cons,foldmax];omega
theorem dZ (m:Nat): ∀(l:List Tm) (d:Nat),Tm.sizes l<=m->cq (Tm.partss l (d+1))=if l= []then 0 else d+Tm.deeps l:=by
 induction m with
 |zero=>
  intro l d h;cases l with
  |nil=>rfl
  |cons t l=>rw [Tm.sizes_cons]at h;have:=t.size_pos;omega
 | succ m ih=>
  intro l d h;cases l with
  |nil=>rfl
  |cons t l=>
   rw [Tm.sizes_cons]at h;have i:=t.size_eq;have c:=ih t.args (d+1) (by omega);have g:=ih l d (by have:=t.size_pos;omega);rw [Tm.partss_cons,Tm.parts_eq,mq,oz,c,g,I_ (show¬(t::l= [])from nofun)];show max (max (d+1) _) _=d+max t.deep (Tm.deeps l)
   rw [t.deep_eq];have e1:t.args= []->Tm.deeps t.args=0:=fun e=>by rw [e];rfl
   have e2:l= []->Tm.deeps l=0:=fun e=>by rw [e];rfl
   by_cases a:t.args= []<;>by_cases b:l= []
   · rw [J_ a,J_ b];have:=e1 a;have:=e2 b;omega
   · rw [J_ a,I_ b];have:=e1 a;omega
   · rw [I_ a,J_ b];have:=e2 b;omega
   · rw [I_ a,I_ b];omega
theorem Vj (t:Tm):cq (t.parts 1)=t.deep:=by
 rw [Tm.parts_eq,oz,dZ _ t.args 1 (R_ _),t.deep_eq];have e1:t.args= []->Tm.deeps t.args=0:=fun e=>by rw [e];rfl
 split
 · rename_i a;have:=e1 a;show max 1 0=_;omega
 · show max 1 _=_;omega
theorem maxd_step {l:List (Nat×Tm)} {k:Nat} {p:Nat×Tm} (h:l[k]?=some p):cq (l.take (k+1))=max (cq (l.take k)) p.1:=by
 rw [List.take_add_one,h,mq];show max _ (cq [p])=_;rw [oz];show max _ (max p.1 0)=_;omega
theorem maxd_le {T:Tm} {k:Nat} (h:T.size<=1000000):cq ((T.parts 1).take k)<=1000000:=by
 have a:=mq ((T.parts 1).take k) ((T.parts 1).drop k);rw [List.take_append_drop,Vj]at a;have:=T.deep_le_size;omega
theorem new3 (w:World) (o1 o2 o3:Obj):(((w.alloc o1).alloc o2).alloc o3).heap[w.heap.size+2]?=some o3:=by
 have:=heap_alloc_new ((w.alloc o1).alloc o2) o3;rw [Z_,Z_]at this;exact this
theorem old3 (w:World) (o1 o2 o3:Obj) {b:Nat} (h:b<w.heap.size):(((w.alloc o1).alloc o2).alloc o3).heap[b]?=w.heap[b]?:=by
 rw [A_ _ _ _ (by simp;omega),A_ _ _ _ (by simp;omega),A_ _ _ _ h]
theorem stay3 (w:World) (o1 o2 o3:Obj):S7 w.heap.size w [(w.heap.size+1,o2)] (fun _=>False) (((w.alloc o1).alloc o2).alloc o3):=by
 refine⟨(((F_ _ w).alloc (R_ _) _).alloc (by simp) _).alloc (by simp;omega) _,fun _ h=>h.elim,fun p a=>?_⟩;obtain rfl:=List.mem_singleton.1 a;rw [A_ _ _ _ (by simp)];have:=heap_alloc_new (w.alloc o1) o2;rw [Z_]at this;exact this
theorem term_parts (T:Tm) (ad:Option Addr) (cap:Nat) (w:World):
 Calls Tryz.prog 55 #[tmv T ad cap] w fun e w'=>e=.returned (.func (.func 73) #[] #[.pointer (some ⟨w.heap.size,0,none⟩)])/\w.alloc (.cells #[.int .i64 T.kind,.string T.name,.int .i64 T.n,.slice ad T.args.length cap] 26)=w':=by
 unfold tmv;go_enter Tryz.func55,Tryz.ntmps55;go_wp2_with fail;go_ret;exact⟨rfl,rfl⟩
end Go.Proofs.YtinefdlkajnomaaGreatDoor
namespace Go.Proofs.YtinefdlkajnomaaGreatDoor
open Go.RowKit Go.Shelf
set_option maxHeartbeats 20000000
attribute [local go_sem] Oper.semAt_some
def KJ (t:Tm):Bool:=p9 t.kind t.name t.n t.args.length true
theorem Tm.may_own (t:Tm):t.may=(KJ t&&Tm.mays t.args):=by
 rw [t.may_eq];unfold KJ p9;by_cases a:t.args.length=0
 · have:t.args= []:=List.eq_nil_of_length_eq_zero a;rw [this];show _=(_&&true)
   rw [Bool.and_true];rfl
 · by_cases b:t.kind=1
   · rw [J_ b,J_ b,decide_eq_false a];simp
   rw [I_ b,I_ b];by_cases c:t.kind=2
   · rw [J_ c,J_ c,decide_eq_false a];simp
   rw [I_ c,I_ c];by_cases d:t.kind=3
   · rw [J_ d,J_ d,decide_eq_false a];simp
   rw [I_ d,I_ d];by_cases g:t.kind=4
   · rw [J_ g,J_ g];simp [Bool.and_assoc]
   rw [I_ g,I_ g];rfl
theorem yJ (m:Nat): ∀(l:List Tm) (d:Nat),Tm.sizes l<=m->(Tm.partss l d).all (fun p=>KJ p.2)=Tm.mays l:=by
 induction m with
 |zero=>
  intro l d h;cases l with
  |nil=>rfl
  |cons t l=>rw [Tm.sizes_cons]at h;have:=t.size_pos;omega
 | succ m ih=>
  intro l d h;cases l with
  |nil=>rfl
  |cons t l=>
   rw [Tm.sizes_cons]at h;have c:=t.size_eq;have a:=ih t.args (d+1) (by omega);have b:=ih l d (by have:=t.size_pos;omega);rw [Tm.partss_cons,Tm.parts_eq,List.all_append,List.all_cons,a,b];show _=(t.may&&Tm.mays l)
   rw [t.may_own]
theorem Sx (t:Tm):(t.parts 1).all (fun p=>KJ p.2)=t.may:=by
 rw [Tm.parts_eq,List.all_cons,yJ _ _ _ (R_ _),t.may_own]
set_option maxRecDepth 100000 in
theorem UX (k n:Int) (s:ByteArray) (len:Nat) (ad:Option Addr) (cap:Nat) (w:World) (all:Bool) (q:Tabs w) (y:s.size<=maxLen) (h:k≠4):
 Calls Tryz.prog 56 #[.agg #[.int .i64 k,.string s,.int .i64 n,.slice ad len cap]] w fun e w'=>e=.returned (.bool (p9 k s n len all))/\Below w.heap.size w w':=by
 have t:=fun w q=>ax s w y q;have x:=D_ q;unfold p9;obtain⟨b0,f0⟩: ∃b,s.toList.isEmpty=b:=⟨_,rfl⟩;rw [<-iJ s,f0];obtain⟨ck,p⟩: ∃c,K2 s.data.toList=c:=⟨_,rfl⟩;rw [p]at t;rw [p];have v:=D_ t;clear t q p y;have r: ∀o:Obj,Below w.heap.size w (w.alloc o):=fun o=>(F_ _ w).alloc (R_ _) _;have a:=D_ r;clear r;by_cases j:k=1
 · rw [J_ j];subst j;clear h;by_cases i:0<=n
   · rw [decide_eq_true i];by_cases g:len=0
     · subst g;cases b0
       all_goals
        go_enter Tryz.func56,Tryz.ntmps56;go_wp2_with fail;go_ret;exact⟨rfl,a.out _⟩
     · rw [decide_eq_false g];have ez:((len:Int)==0)=false:=by simp;omega
       clear g;cases b0
       all_goals
        go_enter Tryz.func56,Tryz.ntmps56;go_wp2_with fail;go_ret;exact⟨rfl,a.out _⟩
   · rw [decide_eq_false i];have A:n<0:=by omega
     clear i f0;go_enter Tryz.func56,Tryz.ntmps56;go_wp2_with fail;go_ret;exact⟨rfl,a.out _⟩
 rw [I_ j];have e1:(k==1)=false:=by simpa using j
 by_cases l:k=2
 · rw [J_ l];subst l;clear h j f0;by_cases i:n=0
   · rw [decide_eq_true i];subst i;by_cases g:len=0
     · subst g;cases ck
       all_goals
        go_enter Tryz.func56,Tryz.ntmps56;go_wp2_with fail;refine(v.out _ (x.out.on (a.out _))).mono ?_;rintro e w2 ⟨rfl,d⟩;have u:=(a.out _).trans (d.mono (by simp));obtain⟨hc,z⟩:=S1 d;clear d;go_wp2_with fail;go_ret;exact⟨rfl,u⟩
     · rw [decide_eq_false g];have ez:((len:Int)==0)=false:=by simp;omega
       clear g;cases ck
       all_goals
        go_enter Tryz.func56,Tryz.ntmps56;go_wp2_with fail;refine(v.out _ (x.out.on (a.out _))).mono ?_;rintro e w2 ⟨rfl,d⟩;have u:=(a.out _).trans (d.mono (by simp));obtain⟨hc,z⟩:=S1 d;clear d;go_wp2_with fail;go_ret;exact⟨rfl,u⟩
   · rw [decide_eq_false i];have en:(n==0)=false:=by simpa using i
     clear i;go_enter Tryz.func56,Tryz.ntmps56;go_wp2_with fail;go_ret;exact⟨rfl,a.out _⟩
 rw [I_ l];have e2:(k==2)=false:=by simpa using l
 by_cases m:k=3
 · rw [J_ m];subst m;clear h j l;by_cases g:len=0
   · subst g;cases b0
     all_goals
      go_enter Tryz.func56,Tryz.ntmps56;go_wp2_with fail;go_ret;exact⟨rfl,a.out _⟩
   · rw [decide_eq_false g];have ez:((len:Int)==0)=false:=by simp;omega
     clear g;cases b0
     all_goals
      go_enter Tryz.func56,Tryz.ntmps56;go_wp2_with fail;go_ret;exact⟨rfl,a.out _⟩
 rw [I_ m,I_ h];have e3:(k==3)=false:=by simpa using m
 have e4:(k==4)=false:=by simpa using h
 clear j l m h f0;go_enter Tryz.func56,Tryz.ntmps56;go_wp2_with fail;go_ret;exact⟨rfl,a.out _⟩
set_option maxRecDepth 100000 in
theorem TX (n:Int) (s:ByteArray) (len:Nat) (ad:Option Addr) (cap:Nat) (w:World) (l:Tabs w) (u:s.size<=maxLen):
 Calls Tryz.prog 56 #[.agg #[.int .i64 4,.string s,.int .i64 n,.slice ad len cap]] w fun e w'=>e=.returned (.bool (decide (n=0)&&(K2 s.data.toList&&(decide (1<=len)&&(decide (len<=16)&&true)))))/\Below w.heap.size w w':=by
 have q:=fun w l=>ax s w u l;have j:=D_ l;obtain⟨ck,g⟩: ∃c,K2 s.data.toList=c:=⟨_,rfl⟩;rw [g]at q;rw [g];have i:=D_ q;clear q l g u;have m: ∀o:Obj,Below w.heap.size w (w.alloc o):=fun o=>(F_ _ w).alloc (R_ _) _;have b:=D_ m;clear m;by_cases h:n=0
 · rw [decide_eq_true h];subst h;cases ck
   · go_enter Tryz.func56,Tryz.ntmps56;go_wp2_with fail;refine(i.out _ (j.out.on (b.out _))).mono ?_;rintro e w2 ⟨rfl,a⟩;have d:=(b.out _).trans (a.mono (by simp));clear a;go_wp2_with fail;go_ret;exact⟨rfl,d⟩
   · by_cases k:1<=len
     · by_cases p:len<=16
       · rw [decide_eq_true k,decide_eq_true p];have r:(1:Int)<=(len:Int):=by omega
         have t:(len:Int)<=16:=by omega
         go_enter Tryz.func56,Tryz.ntmps56;go_wp2_with fail;refine(i.out _ (j.out.on (b.out _))).mono ?_;rintro e w2 ⟨rfl,a⟩;have d:=(b.out _).trans (a.mono (by simp));clear a;go_wp2_with fail;go_ret;exact⟨rfl,d⟩
       · rw [decide_eq_true k,decide_eq_false p];have r:(1:Int)<=(len:Int):=by omega
         have t:(16:Int)<(len:Int):=by omega
         clear p;go_enter Tryz.func56,Tryz.ntmps56;go_wp2_with fail;refine(i.out _ (j.out.on (b.out _))).mono ?_;rintro e w2 ⟨rfl,a⟩;have d:=(b.out _).trans (a.mono (by simp));clear a;go_wp2_with fail;go_ret;exact⟨by show Ending.returned (.bool (decide ((len:Int)<=16)))=_;rw [decide_eq_false (by omega)];rfl,d⟩
     · rw [decide_eq_false k];obtain rfl:len=0:=by omega
       clear k;go_enter Tryz.func56,Tryz.ntmps56;go_wp2_with fail;refine(i.out _ (j.out.on (b.out _))).mono ?_;rintro e w2 ⟨rfl,a⟩;have d:=(b.out _).trans (a.mono (by simp));clear a;go_wp2_with fail;go_ret;exact⟨rfl,d⟩
 · rw [decide_eq_false h];have en:(n==0)=false:=by simpa using h
   clear h;go_enter Tryz.func56,Tryz.ntmps56;go_wp2_with fail;go_ret;exact⟨rfl,b.out _⟩
theorem dev_mayBe (T:Tm) (ad:Option Addr) (cap:Nat) (w:World) (b:Tabs w) (c:T.name.size<=maxLen):
 Calls Tryz.prog 56 #[tmv T ad cap] w fun e w'=>e=.returned (.bool (KJ T))/\Below w.heap.size w w':=by
 unfold tmv KJ;by_cases a:T.kind=4
 · have h:=TX T.n T.name T.args.length ad cap w b c;unfold p9;rw [I_ (by omega),I_ (by omega),I_ (by omega),J_ a,a];exact h
 · exact UX T.kind T.n T.name T.args.length ad cap w true b c a
theorem size4 (w:World) (o1 o2 o3 o4:Obj):((((w.alloc o1).alloc o2).alloc o3).alloc o4).heap.size=w.heap.size+4:=by simp
theorem new4 (w:World) (o1 o2 o3 o4:Obj):((((w.alloc o1).alloc o2).alloc o3).alloc o4).heap[w.heap.size+3]?=some o4:=by
 have:=heap_alloc_new (((w.alloc o1).alloc o2).alloc o3) o4;rw [Z_,Z_,Z_]at this;exact this
theorem old4 (w:World) (o1 o2 o3 o4:Obj) {b:Nat} (h:b<w.heap.size):((((w.alloc o1).alloc o2).alloc o3).alloc o4).heap[b]?=w.heap[b]?:=by
 rw [A_ _ _ _ (by simp;omega),old3 _ _ _ _ h]
theorem stay4 (w:World) (o1 o2 o3 o4:Obj):S7 w.heap.size w [(w.heap.size+1,o2),(w.heap.size+2,o3)] (fun _=>False) ((((w.alloc o1).alloc o2).alloc o3).alloc o4):=by
 refine⟨((((F_ _ w).alloc (R_ _) _).alloc (by simp) _).alloc (by simp;omega) _).alloc (by simp;omega) _,fun _ h=>h.elim,fun p a=>?_⟩;rcases List.mem_cons.1 a with rfl|a
 · have:=(stay3 w o1 o2 o3).has _ (.head _);exact(A_ _ _ _ (by simp)).trans this
 · obtain rfl:=List.mem_singleton.1 a;exact(A_ _ _ _ (by simp)).trans (new3 w o1 o2 o3)
def OwnUpto (T:Tm) (k:Nat):Prop:=((T.parts 1).take k).all (fun p=>KJ p.2)=true
theorem cell4 {W:World} {q t:Nat} {v0 v1 v2 v3:Value} (h:W.heap[q]?=some (.cells #[v0,v1,v2,v3] t (0,0))):W.cell? ⟨q,0,none⟩=some v0/\W.cell? ⟨q,1,none⟩=some v1/\W.cell? ⟨q,2,none⟩=some v2/\W.cell? ⟨q,3,none⟩=some v3:=by
 simp [World.cell?,h]
theorem all_step {l:List (Nat×Tm)} {k:Nat} {p:Nat×Tm} {f:Nat×Tm->Bool} (h:l[k]?=some p) (a:(l.take k).all f=true) (b:f p=true):(l.take (k+1)).all f=true:=by
 rw [List.take_add_one,h,List.all_append,a];show(true&&(f p&&true))=true;rw [b];rfl
theorem all_hit {l:List (Nat×Tm)} {k:Nat} {p:Nat×Tm} {f:Nat×Tm->Bool} (h:l[k]?=some p) (a:f p=false):l.all f=false:=by
 rw [List.all_eq_false];exact⟨p,List.mem_of_getElem? h,by rw [a];simp⟩
set_option maxRecDepth 100000 in
theorem uQ (T:Tm) (ad:Option Addr) (cap:Nat) (w:World) (hM:T.size<=1000000) (hT:Tabs w) (X:G6 w T ad cap):
 Calls Tryz.prog 37 #[tmv T ad cap] w fun e w'=>e=.returned (.int .i64 T.chk)/\Below w.heap.size w w':=by
 have HP:=D_ X.inP;have d_:=D_ hT;clear X hT;have B:=D_ (fun w=>term_parts T ad cap w);unfold tmv at*;refine(callsIn_wide (n:=4)).1 ?_;refine callsIn_of_wp_marks Tryz.func37 rfl trivial ?_ rfl;simp only [Tryz.ntmps37,List.size_toArray,List.length_cons,List.length_nil,Nat.reduceAdd,Nat.reduceSub,Array.replicate_succ,Array.replicate_zero,List.push_toArray,List.append_toArray,List.nil_append,List.cons_append]
 gi_wp2_with ((refine⟨trivial,?_⟩;gi_at_call 55;refine(callsIn_wide.2 (B.out _)).mono ?_;rintro e w' ⟨rfl,rfl⟩))
 have s:=parts_seq T ad cap (w.heap.size+3) w.heap.size ((((w.alloc (.cells #[.int .i64 T.kind,.string T.name,.int .i64 T.n,.slice ad T.args.length cap] 26)).alloc (.cells #[.int .i64 0] 31)).alloc (.cells #[.int .i64 0] 3)).alloc (.cells #[.int .i64 T.kind,.string T.name,.int .i64 T.n,.slice ad T.args.length cap] 26)) hM (new4 w _ _ _ _) (HP.out.kept (fun b _ j_=>old4 w _ _ _ _ j_) (fun b h _=>h)) (by simp;omega);have E:=stay4 w (.cells #[.int .i64 T.kind,.string T.name,.int .i64 T.n,.slice ad T.args.length cap] 26) (.cells #[.int .i64 0] 31) (.cells #[.int .i64 0] 3) (.cells #[.int .i64 T.kind,.string T.name,.int .i64 T.n,.slice ad T.args.length cap] 26);have o_:=size4 w (.cells #[.int .i64 T.kind,.string T.name,.int .i64 T.n,.slice ad T.args.length cap] 26) (.cells #[.int .i64 0] 31) (.cells #[.int .i64 0] 3) (.cells #[.int .i64 T.kind,.string T.name,.int .i64 T.n,.slice ad T.args.length cap] 26);generalize (((w.alloc (.cells #[.int .i64 T.kind,.string T.name,.int .i64 T.n,.slice ad T.args.length cap] 26)).alloc (.cells #[.int .i64 0] 31)).alloc (.cells #[.int .i64 0] 3)).alloc (.cells #[.int .i64 T.kind,.string T.name,.int .i64 T.n,.slice ad T.args.length cap] 26)=W0 at*;clear HP B;refine dQ (gf:=73) (lb:= #[.pointer (some ⟨w.heap.size+3,0,none⟩)]) rfl (enters_of Tryz.func73 (by kernel_rfl) rfl) s (F_ _ _) (by omega) (fun _=>rfl)
  (StayI w.heap.size w (fun k (_:Unit)=> [(w.heap.size+1,.cells #[.int .i64 0] 31 (0,0)),(w.heap.size+2,.cells #[.int .i64 (cq ((T.parts 1).take k):Nat)] 3 (0,0))]) (fun k _=>OwnUpto T k))
  (fun c=>StayI w.heap.size w (fun _ (_:Unit)=> [(w.heap.size+1,.cells #[.int .i64 30] 31 (0,0))]) (fun _ _=>c=.ret/\T.may=false))
  (Uz (R_ _) _ _) (fun _=>Uz (R_ _) _ _) ⟨(),E,rfl⟩ ?round ?done ?stop
 case round=>
  rintro l M k ⟨d,t,tad,tcap⟩ W ⟨_,r,a⟩ hk hx V;have R: ∀j,M j->j<W.heap.size:=fun j z=>(V j z).2;have m_:=maxd_le (k:=k) hM;have c_:=D_ (maxd_step hx.1);have b_:=hx.2.2;dsimp only at b_;have Z:=D_ a;have HX:=D_ hx;have u:=D_ r;have F:=D_ R;clear r hx V R E s a;unfold partv tmv;dsimp only;gi_wp2
  obtain⟨a1,a2,a3⟩:=u.out.grow (R_ _) F.out ((F_ W.heap.size W).alloc (R_ _) (.cells #[.int .i64 t.kind,.string t.name,.int .i64 t.n,.slice tad t.args.length tcap] 26));refine⟨a1,a2,fun W₂ ht n_=>?_⟩;have C:=(a3.cons (q:=W.heap.size) (fun j z e=>by have:=F.out j z;omega) (heap_alloc_new W _)).turn (M':=M) (R_ _) ht (fun j z=>.inl z);obtain⟨c0,c1,c2,c3⟩:=cell4 (C.has _ (.head _));have U: ∀j,M j->j<W₂.heap.size:=fun j z=>by have:=F.out j z;omega
  have O:=D_ C;have N:=D_ U;have i:=dev_mayBe t tad tcap W₂ (d_.out.on C.below) HX.out.2.1.name;unfold tmv at i;clear C U ht a1 a2 a3;cases m:KJ t with
  |false=>
   rw [m]at i;have y:=D_ i;have G:=D_ (Sx T▸all_hit HX.out.1 m);clear m i;gi_wp2_with ((refine⟨trivial,?_⟩;gi_at_call 56;refine(CallsIn.inRound l (callsIn_wide.2 y.out)).mono ?_;rintro e W₄ ⟨rfl,x⟩;obtain⟨k4,b4,s4⟩:=O.out.grow (R_ _) N.out x;obtain⟨h_,i_⟩:=I4 (s4.has _ (.tail _ (.head _)));have K4:=D_ k4;have B4:=D_ b4;have S4:=D_ s4;clear k4 b4 s4 x))
   obtain⟨g1,g2,g3⟩:=S4.out.store (.tail _ (.head _)) (by omega) 0 _;refine⟨K4.out.trans g1,(),?_,rfl,G.out⟩;refine g3.less fun p I=>?_;obtain rfl:=List.mem_singleton.1 I;unfold setL;rw [List.map_cons,List.map_cons,J_ rfl];exact .tail _ (.head _)
  |true=>
   rw [m]at i;have y:=D_ i;have a_:=D_ (all_step HX.out.1 Z.out m);clear m i;gi_wp2_with ((refine⟨trivial,?_⟩;gi_at_call 56;refine(CallsIn.inRound l (callsIn_wide.2 y.out)).mono ?_;rintro e W₄ ⟨rfl,x⟩;obtain⟨k4,b4,s4⟩:=O.out.grow (R_ _) N.out x;obtain⟨h_,i_⟩:=I4 (s4.has _ (.tail _ (.tail _ (.head _))));have K4:=D_ k4;have B4:=D_ b4;have S4:=D_ s4;clear k4 b4 s4 x))
   have f_:=u.out.lt (.tail _ (.head _));dsimp only at f_;obtain⟨g1,g2,g3⟩:=S4.out.store (.tail _ (.tail _ (.head _))) (by omega) 0 _;refine⟨K4.out.trans g1,B4.out.trans g2,(),?_,a_.out⟩;dsimp only;rw [c_.out,show((max (cq ((T.parts 1).take k)) d:Nat):Int)=max (cq ((T.parts 1).take k):Int) (d:Int) by omega];refine g3.less fun p I=>?_;simp only [setL,List.map_cons,List.map_nil]
   rw [I_ (by omega),I_ (by omega),J_ trivial];rcases List.mem_cons.1 I with rfl|I
   · exact .tail _ (.head _)
   · obtain rfl:=List.mem_singleton.1 I;exact .tail _ (.tail _ (.head _))
 case done=>
  rintro D M W J _ ⟨_,r,a⟩ H;unfold OwnUpto at a;rw [List.take_of_length_le (by rw [Tm.parts_len];exact R_ _),Sx]at a;obtain⟨hc,hf⟩:=I4 (r.has _ (.head _));obtain⟨g_,l_⟩:=I4 (r.has _ (.tail _ (.head _)));have u:=D_ r;clear r E s;rw [List.take_of_length_le (by rw [Tm.parts_len];exact R_ _),Vj]at g_;have HA:=D_ a;have HD:=D_ J;have HK:=D_ H;have k_:=T.deep_le_size;clear a J H;by_cases h6:60<T.deep
  all_goals
   gi_wp2
   have g:=fun v=>(u.out.store (.head _) (by omega) 0 v).2.2.below;have e_:w.heap.size+4<=D:=by have:=HD.out;omega
   refine⟨by simp,.inl ⟨_,_,rfl,run_takeDeferred ((S_ _ _ _ _ (show D≠w.heap.size+1 by omega)).trans HK.out),?_⟩⟩;have A:=fun v:Value=>(I4 ((World.putObj_heap_other (o:=.deferred none) (show w.heap.size+1≠D by omega)).trans (block_set1 (v:=v) (u.out.has _ (.head _))))).1;refine⟨_,by simp [results,Tryz.results37,go_sem,A];rfl,?_,tj (g _) (by omega)⟩;unfold Tm.chk;rw [J_ HA.out];first|rw [J_ (by omega)]|rw [I_ (by omega)]
 case stop=>
  rintro D c M k W J _ _ ⟨_,r,rfl,Y⟩ H;have u:=D_ r;have G:=D_ Y;have HK:=D_ H;have e_:w.heap.size+4<=D:=by omega
  clear r Y H E s J;gi_wp2
  refine⟨by simp,.inl ⟨_,_,rfl,run_takeDeferred HK.out,?_⟩⟩;have A:=(I4 ((World.putObj_heap_other (o:=.deferred none) (show w.heap.size+1≠D by omega)).trans (u.out.has _ (.head _)))).1;refine⟨_,by simp [results,Tryz.results37,go_sem,A];rfl,?_,tj u.out.below (by omega)⟩;unfold Tm.chk;rw [G.out];rfl
end Go.Proofs.YtinefdlkajnomaaGreatDoor
