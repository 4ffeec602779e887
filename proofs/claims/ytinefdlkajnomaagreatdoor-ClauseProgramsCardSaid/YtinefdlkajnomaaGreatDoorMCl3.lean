import Derived.Test.YtinefdlkajnomaaGreatDoorMClauseF
import Derived.Test.YtinefdlkajnomaaGreatDoorMRdT
namespace Go.Proofs.YtinefdlkajnomaaGreatDoor
open Go.RowKit
set_option maxHeartbeats 20000000
def H9 (c:Cl) (ad:Option Addr) (cap:Nat) (bd:Option Addr) (bc:Nat):List Value:= [.int .i64 c.head.kind,.string c.head.name,.int .i64 c.head.n,.slice ad c.head.args.length cap,.slice bd c.body.length bc,.int .i64 c.vars]
structure ClP (w:World) (P:Nat->Prop) (c:Cl) (ad:Option Addr) (cap:Nat) (bd:Option Addr) (bc:Nat):Prop where
 head:TmP w P c.head ad cap
 blen:c.body.length<=bc
 bcap:bc<=maxLen
 body:M0 w P bd c.body
 vars:In64 c.vars
theorem ClP.kept {w w':World} {P Q:Nat->Prop} {c:Cl} {ad bd:Option Addr} {cap bc:Nat} (h:ClP w P c ad cap bd bc) (d: ∀b,P b->b<w.heap.size->w'.heap[b]?=w.heap[b]?) (a: ∀b,P b->b<w.heap.size->Q b):ClP w' Q c ad cap bd bc:=
 ⟨h.head.kept d a,h.blen,h.bcap,h.body.kept d a,h.vars⟩
theorem ClO.toP {B:Nat} {w:World} {c:Cl} {ad bd:Option Addr} {cap bc:Nat} (h:ClO B w c ad cap bd bc):ClP w (fun b=>B<=b) c ad cap bd bc:=by
 obtain⟨ad',cap',i,a,d,g⟩:=h.body.slice;injection i with e1 _ e3;subst e1 e3;exact⟨h.head,a,d,g,h.vars⟩
def GQ (w:World) (P:Nat->Prop) (xs:List Value) (cs:List Cl):Prop:=xs.length=cs.length*6/\ ∀k (hk:k<cs.length),∃ad cap bd bc,ClP w P cs[k] ad cap bd bc/\ ∀j,j<6->xs[k*6+j]?=(H9 cs[k] ad cap bd bc)[j]?
theorem GQ.nil {w:World} {P:Nat->Prop}:GQ w P [] []:=⟨rfl,fun k a=>by simp at a⟩
theorem GQ.kept {w w':World} {P Q:Nat->Prop} {xs:List Value} {cs:List Cl} (h:GQ w P xs cs) (i: ∀b,P b->b<w.heap.size->w'.heap[b]?=w.heap[b]?) (a: ∀b,P b->b<w.heap.size->Q b):GQ w' Q xs cs:=
 ⟨h.1,fun k c=>by obtain⟨ad,cap,bd,bc,d,g⟩:=h.2 k c;exact⟨ad,cap,bd,bc,d.kept i a,g⟩⟩
theorem GQ.snoc {w:World} {P:Nat->Prop} {xs:List Value} {cs:List Cl} {c:Cl} {ad bd:Option Addr} {cap bc:Nat} (h:GQ w P xs cs) (hc:ClP w P c ad cap bd bc):GQ w P (xs++H9 c ad cap bd bc) (cs++ [c]):=by
 refine⟨by rw [P_,P_,h.1];show _+6=(_+1)*6;omega,fun k i=>?_⟩;by_cases a:k<cs.length
 · obtain⟨ad',cap',bd',bc',d,g⟩:=h.2 k a;have e:(cs++ [c])[k]=cs[k]:=List.getElem_append_left a;rw [e];exact⟨ad',cap',bd',bc',d,fun j b=>by rw [List.getElem?_append_left (by rw [h.1];omega)];exact g j b⟩
 · rw [P_,List.length_singleton]at i;obtain rfl:k=cs.length:=by omega
   have e:(cs++ [c])[cs.length]=c:=by simp
   rw [e];exact⟨ad,cap,bd,bc,hc,fun j b=>by rw [List.getElem?_append_right (by rw [h.1];omega),h.1,Nat.add_sub_cancel_left]⟩
def P3 (B:Nat) (w:World) (v:Value) (cs:List Cl):Prop:= ∃xs,w.ownsRow B 30 6 v cs.length xs/\GQ w (fun b=>B<=b/\some b≠v.ownBlock) xs cs
theorem P3.nil (B:Nat) (w:World):P3 B w (.slice none 0 0) []:=⟨[],O_ _ _ _ _,.nil⟩
theorem P3.below {B:Nat} {w w':World} {v:Value} {cs:List Cl} (h:P3 B w v cs) (c:Below w.heap.size w w'):P3 B w' v cs:=by
 obtain⟨xs,d,i⟩:=h;exact⟨xs,F3 d fun g _ a=>c.block g a,i.kept (fun b _ a=>c.block b a) fun b j _=>j⟩
theorem own_sliceC {w:World} {B n:Nat} {xs:List Value} {v:Value} (h:w.ownsRow B 30 6 v n xs): ∃ad cap,v=.slice ad n cap/\n<=cap/\cap<=maxLen/\ ∀j,j<xs.length-> ∃g,ad=some ⟨g,0,none⟩/\B<=g/\w.cell? ⟨g,j,none⟩=xs[j]?:=by
 have b:=h;obtain⟨d,⟨rfl,rfl⟩|⟨g,cap,cur,rfl,c,l,k,i,_⟩⟩:=h
 · exact⟨_,_,rfl,R_ _,Nat.zero_le _,fun j a=>by omega⟩
 · exact⟨_,_,rfl,k,i,fun j a=>⟨g,rfl,c,b.cellAt j (by rw [<-d];exact a)⟩⟩
def dq (w:World) (P:Nat->Prop) (ad:Option Addr) (cs:List Cl):Prop:= ∀k (hk:k<cs.length),∃b o a1 c1 bd bc,ad=some ⟨b,o,none⟩/\P b/\ClP w P cs[k] a1 c1 bd bc/\
 w.cell? ⟨b,o+k*6,none⟩=some (.int .i64 cs[k].head.kind)/\w.cell? ⟨b,o+k*6+1,none⟩=some (.string cs[k].head.name)/\w.cell? ⟨b,o+k*6+2,none⟩=some (.int .i64 cs[k].head.n)/\
 w.cell? ⟨b,o+k*6+3,none⟩=some (.slice a1 cs[k].head.args.length c1)/\w.cell? ⟨b,o+k*6+4,none⟩=some (.slice bd cs[k].body.length bc)/\w.cell? ⟨b,o+k*6+5,none⟩=some (.int .i64 cs[k].vars)
theorem dq.kept {w w':World} {P Q:Nat->Prop} {ad:Option Addr} {cs:List Cl} (h:dq w P ad cs) (g: ∀b,P b->b<w.heap.size->w'.heap[b]?=w.heap[b]?) (c: ∀b,P b->b<w.heap.size->Q b):dq w' Q ad cs:=fun k j=>by
 obtain⟨b,o,a1,c1,bd,bc,m,l,n,x0,x1,x2,x3,x4,x5⟩:=h k j;have d:b<w.heap.size:=L_ w ⟨b,o+k*6,none⟩ x0;have kc: ∀i,w'.cell? ⟨b,i,none⟩=w.cell? ⟨b,i,none⟩:=fun i=>World.cell?_of_block (a:=⟨b,i,none⟩) (g b l d);exact⟨b,o,a1,c1,bd,bc,m,c b l d,n.kept g c,(kc _).trans x0,(kc _).trans x1,(kc _).trans x2,(kc _).trans x3,(kc _).trans x4,(kc _).trans x5⟩
theorem P3.at {B:Nat} {w:World} {v:Value} {cs:List Cl} (h:P3 B w v cs): ∃ad cap,v=.slice ad cs.length cap/\cs.length<=cap/\cap<=maxLen/\dq w (fun b=>B<=b) ad cs:=by
 obtain⟨xs,l,c⟩:=h;obtain⟨ad,cap,s,m,n,d⟩:=own_sliceC l;refine⟨ad,cap,s,m,n,fun k r=>?_⟩;obtain⟨a1,c1,bd,bc,g1,g2⟩:=c.2 k r;have hx:=c.1;obtain⟨g,i,o,_⟩:=d (k*6) (by omega);have at6: ∀j,j<6->w.cell? ⟨g,0+k*6+j,none⟩=(H9 cs[k] a1 c1 bd bc)[j]?:=fun j q=>by
  obtain⟨g',a,_,hc⟩:=d (k*6+j) (by omega);rw [i]at a;injection a with a;injection a with a;subst a;rw [Nat.zero_add,hc,g2 j q]
 exact⟨g,0,a1,c1,bd,bc,i,o,g1.kept (fun _ _ _=>rfl) fun b p _=>p.1,at6 0 (by omega),at6 1 (by omega),at6 2 (by omega),at6 3 (by omega),at6 4 (by omega),at6 5 (by omega)⟩
theorem infoCl:(Tryz.prog.info? 30).map (fun i=>(i.zero,i.size,i.bytes))=some (some (.agg #[.int .i64 0,.string ⟨#[]⟩,.int .i64 0,.slice none 0 0,.slice none 0 0,.int .i64 0]),6,88):=by kernel_rfl
theorem P3.grown {B:Nat} {w w':World} {v v':Value} {cs:List Cl} {xs:List Value} {c:Cl} {ad bd:Option Addr} {cap bc:Nat} (l:w.ownsRow B 30 6 v cs.length xs) (m:GQ w (fun b=>B<=b/\some b≠v.ownBlock) xs cs)
 (n:w'.ownsRow B 30 6 v' (cs.length+1) (xs++H9 c ad cap bd bc)) (k:w.grownBy w' v.ownBlock) (j:v'.ownBlock=v.ownBlock\/ ∃g,v'.ownBlock=some g/\w.heap.size<=g) (hc:ClP w (fun b=>B<=b/\some b≠v.ownBlock) c ad cap bd bc):P3 B w' v' (cs++ [c]):=by
 have _:=l;refine⟨_,by rw [P_];exact n,?_⟩;have i: ∀b,(B<=b/\some b≠v.ownBlock)->b<w.heap.size->(B<=b/\some b≠v'.ownBlock):=fun b d a=>by
  refine⟨d.1,?_⟩;rcases j with h|⟨g,h,o⟩
  · rw [h];exact d.2
  · rw [h];intro e;have:=Option.some.inj e;omega
 exact(m.kept (fun b d a=>k.block b a d.2) i).snoc (hc.kept (fun b d a=>k.block b a d.2) i)
def q7:List Tm->Nat->List Cl->List Cl×Int×Int
 | [],_,acc=>(acc,0,0)
 |t::l,k,acc=>if t.make.2=0 then q7 l (k+1) (acc++ [t.make.1])else([],(k:Int),80)
def C6 (s:List UInt8):List Cl×Int×Int:=
 match q9 s with
 | .bad o er=>([],(o:Nat),er)
 | .ok l=>q7 l 0 []
theorem mz: ∀(l:List Tm) (k:Nat) (acc:List Cl),(∀j (a:j<l.length),l[j].make.2=0)->q7 l k acc=(acc++l.map (fun t=>t.make.1),0,0)
 | [],k,acc,_=>by simp [q7]
 |t::l,k,acc,h=>by
  show(if t.make.2=0 then q7 l (k+1) (acc++ [t.make.1])else([],(k:Int),80))=_
  rw [J_ (show t.make.2=0 from h 0 (by simp)),mz l (k+1) (acc++ [t.make.1]) (fun j a=>h (j+1) (by simpa using a)),List.append_assoc];rfl
theorem gx: ∀(l:List Tm) (k:Nat) (acc:List Cl) (i:Nat) (a:i<l.length),(∀j (b:j<i),l[j].make.2=0)->l[i].make.2≠0->q7 l k acc=([],((k+i:Nat):Int),80)
 |t::l,k,acc,0,a,_,hb=>by unfold q7;rw [I_ (by simpa using hb)];rfl
 |t::l,k,acc,i+1,a,h,hb=>by
  show(if t.make.2=0 then q7 l (k+1) (acc++ [t.make.1])else([],(k:Int),80))=_
  rw [J_ (show t.make.2=0 from h 0 (by omega)),gx l (k+1) (acc++ [t.make.1]) i (by simpa using a) (fun j b=>h (j+1) (by omega)) (by simpa using hb)];rw [show k+1+i=k+(i+1) by omega]
theorem bQ: ∀(f:Nat) (l:List Tm) (ts:List Tok) (L:List Tm),T0 ts->A7 f l ts=.ok L->Tm.sizes L<=Tm.sizes l+ts.length
 |0,l,ts,L,_,h=>by injection h with h;subst h;omega
 | f +1,l,ts,L,hf,h=>by
  unfold A7 at h;split at h
  · injection h with h;subst h;omega
  · cases a:g6 true ts with
    |syn o=>rw [a]at h;cases h
    |deep o=>rw [a]at h;cases h
    |ok t ts' ns=>
     rw [a]at h;dsimp only at h;obtain⟨a1,a2,_,_⟩:=Aq hf a;have:=bQ f _ _ _ a1 h;rw [Tm.sizes_append,Tm.sizes_cons,show Tm.sizes []=0 from rfl]at this;omega
theorem rq {src:List UInt8} {L:List Tm} (a:q9 src=.ok L):Tm.sizes L<=5000:=by
 unfold q9 H7 at a;split at a
 · cases a
 · cases hc:C5 src 0 false with
   |bad o=>rw [hc]at a;cases a
   |good T=>
    rw [hc]at a;dsimp only at a;have b:=Bj hc;have:=bQ _ _ _ _ (Fx (by omega) hc) a;rw [show Tm.sizes []=0 from rfl]at this;omega
theorem LJ {src:List UInt8} {o:Nat} {er:Int} (h:q9 src=.bad o er):(er !=0)=true:=by
 unfold q9 H7 at h;split at h
 · injection h with h1 h2;subst h2;rfl
 · split at h
   · injection h with h1 h2;subst h2;rfl
   · rcases rX h with rfl|rfl<;>rfl
theorem cells6x {c:Cl} {w:World} {ad bd:Option Addr} {cap bc:Nat}: ∀j u,(H9 c ad cap bd bc)[j]?=some u->(w.alloc (.cells #[.int .i64 c.head.kind,.string c.head.name,.int .i64 c.head.n,.slice ad c.head.args.length cap,.slice bd c.body.length bc,.int .i64 c.vars] 30)).cell? ((⟨w.heap.size,0,none⟩:Addr).add j)=some u:=by
 intro j u a;rw [U8,Nat.zero_add,World.cell?_alloc_at _ _ _ _ rfl,<-a,<-List.getElem?_toArray];rfl
theorem one6 {c:Cl} {ad bd:Option Addr} {cap bc:Nat}: ∀u∈H9 c ad cap bd bc,u.oneCell'=true:=by
 intro u a;simp [H9]at a;rcases a with rfl|rfl|rfl|rfl|rfl|rfl<;>rfl
set_option maxRecDepth 100000 in
theorem bx (s:ByteArray) (w:World) (hT:TabsT w):
 Calls Tryz.prog 21 #[.string s] w fun e w'=> ∃v,e=.returned (.tuple #[v,.int .i64 (C6 s.data.toList).2.1,.int .i64 (C6 s.data.toList).2.2])/\P3 w.heap.size w' v (C6 s.data.toList).1/\Below w.heap.size w w':=by
 have O:=D_ (rd_Program s w hT);have HT:=D_ hT;clear hT;obtain⟨X,z⟩: ∃X,C6 s.data.toList=X:=⟨_,rfl⟩;rw [z];unfold C6 at z;cases J:q9 s.data.toList with
 |bad o er=>
  rw [J]at z O;have her:=LJ J;have HX:=D_ z;clear z J;go_enter Tryz.func21,Tryz.ntmps21;go_wp2_with fail;refine O.out.mono ?_;rintro e w1 ⟨rfl,Z⟩;have HB:=D_ Z;clear Z;go_wp2_with fail;refine B_ (v:=.tuple #[.slice none 0 0,.int .i64 (o:Nat),.int .i64 er]) (by simp [results,Tryz.results21,go_sem]) rfl ?_;rw [<-HX.out];exact⟨_,rfl,P3.nil _ _,HB.out⟩
 | ok l =>
  rw [J]at z O;have hsm:=rq J;have hll:=Tm.length_le_sizes l;have HX:=D_ z;obtain⟨i0,hi,x_,y_,z_⟩:=info_parts infoCl;clear z J;go_enter Tryz.func21,Tryz.ntmps21;go_wp2_with fail;refine O.out.mono ?_;rintro e w1 ⟨ad1,cap1,rfl,hl1,v_,m_,a_⟩;have HA:=D_ m_.all;have M:=D_ a_;have F:=a_.size;unfold maxLen at v_;clear m_ a_ O;go_wp2_with fail;go_loopw [8,25] (fun lv iv wr=> ∃k:Nat,k<=l.length/\iv=.int .i64 k/\Below w1.heap.size w1 wr/\P3 w1.heap.size wr lv ((l.take k).map (fun t=>t.make.1))/\Hid (∀j (B:j<l.length),j<k->l[j].make.2=0)) (fun _ iv _=>l.length-(intOf iv).toNat)
  case atStart=>exact⟨0,Nat.zero_le _,rfl,F_ _ _,P3.nil _ _,D_ (fun j _ h=>by omega)⟩
  case round=>
   obtain⟨k,hk,rfl,a,y,V⟩:=hrel;by_cases C:k<l.length
   · obtain⟨b,o,rfl⟩:=HA.out.addr (by omega);obtain⟨ad2,cap2,c0,c1,c2,c3,c_⟩:=(HA.out.on a).get k C;have o_:=Tm.mem_size (List.getElem_mem C);have G:(l.take (k+1)).map (fun t=>t.make.1)=(l.take k).map (fun t=>t.make.1)++ [l[k].make.1]:=by rw [U_ C,List.map_append];rfl
     have l_:((l.take k).map (fun t=>t.make.1)).length=k:=by rw [List.length_map,List.length_take];omega
     have W:Hid (l[k].make.2≠0->X=([],(k:Int),80)):=D_ (fun h=>by rw [<-HX.out,gx l 0 [] k C (fun j B=>V.out j (by omega) B) h,Nat.zero_add]);have Y:Hid (l[k].make.2=0-> ∀j (B:j<l.length),j<k+1->l[j].make.2=0):=D_ (fun h j B hjk=>by
      by_cases e:j<k
      · exact V.out j B e
      · obtain rfl:j=k:=by omega
        exact h)
     have H:=D_ (cl_Make l[k] ad2 cap2 (wr.alloc (.cells #[.int .i64 l[k].kind,.string l[k].name,.int .i64 l[k].n,.slice ad2 l[k].args.length cap2] 26)) (by omega) (HT.out.on (M.out.trans ((a.alloc a.size _).mono F))).1 (c_.on ((F_ _ wr).alloc (R_ _) _)));have u:=D_ y;have t_:=D_ G;have R:=D_ l_;unfold tmv at H;clear c_ o_ y G l_ V;generalize (l.take k).map (fun t=>t.make.1)=cs at*;generalize l[k]=x at*;by_cases I:x.make.2=0
     · have u_:=D_ (Y.out I);rw [I]at H;clear I Y W;go_wp2_with fail;refine H.out.mono ?_;rintro e w2 ⟨a5,c5,bd5,bc5,rfl,A,p⟩;generalize x.make.1=c at*;have q:Below wr.heap.size wr w2:=((F_ _ wr).alloc (R_ _) _).trans (p.mono (by simp));have p_:=p.size;rw [Z_]at p_ A;have k_:=A.toP;obtain⟨xs,e_,g_⟩:=u.out.below q;rw [R.out]at e_;obtain⟨xs0,f_,_⟩:=u.out;have d_:=f_.lt;clear f_;have q_:=a.size;have T:=D_ g_;have i_:=D_ k_;have j_:=D_ d_;have b_:=a.trans (q.mono q_);have r:=D_ b_;clear g_ k_ d_ p c0 c1 c2 c3 q A b_ a u H;unfold clv;have N:=D_ (e_.alloc (.cells #[.int .i64 c.head.kind,.string c.head.name,.int .i64 c.head.n,.slice a5 c.head.args.length c5,.slice bd5 c.body.length bc5,.int .i64 c.vars] 30));go_wp2_with (first
        |(at_builtin;refine wpList_append_lies _ rfl _ _ 40 rfl w1.heap.size 30 i0 (.agg #[.int .i64 0,.string ⟨#[]⟩,.int .i64 0,.slice none 0 0,.slice none 0 0,.int .i64 0]) 6 88 Tryz.underlying40 hi x_ y_ z_ rfl (by decide) _ _ _ rfl (N.out.alloc _) ⟨w2.heap.size+1,0,none⟩ 1 1 (H9 c a5 c5 bd5 bc5) rfl rfl ?c1 one6 (by decide) ?c3 ?c4 ?c5 _ rfl ?_))
       case c1=>
        have:=cells6x (w:=w2.alloc (.cells #[.int .i64 c.head.kind,.string c.head.name,.int .i64 c.head.n,.slice a5 c.head.args.length c5,.slice bd5 c.body.length bc5,.int .i64 c.vars] 30)) (c:=c) (ad:=a5) (cap:=c5) (bd:=bd5) (bc:=bc5);rw [Z_]at this;exact this
       case c3=>unfold maxLen;omega
       case c4=>omega
       case c5=>simp;omega
       intro g cap3 w3 D d m hlt3;have w_:=d.size;simp only [Z_]at w_
       have E:P3 w1.heap.size w3 (.slice (some ⟨g,0,none⟩) (k+1) cap3) (cs++ [c]):=by
        refine P3.grown (by rw [R.out];exact N.out.alloc _) (T.out.kept (fun b _ hl=>(A_ _ _ _ (by simp;omega)).trans (A_ _ _ _ hl)) fun _ h _=>h) (by rw [R.out];exact D) d ?_ (i_.out.kept (fun b _ hl=>(A_ _ _ _ (by simp;omega)).trans (A_ _ _ _ hl)) fun b Z _=>⟨by omega,fun e=>by have:=(j_.out b e.symm).2;omega⟩);rcases m with m|m
        · exact .inl m.symm
        · exact .inr ⟨g,rfl,by rw [m];simp⟩
       have n_:Below w1.heap.size w1 w3:=((r.out.alloc r.out.size _).alloc (by simp;have:=r.out.size;omega) _).grown d (by simp;have:=r.out.size;omega) (fun i hi=>(j_.out i hi).1);have s_:=D_ E;clear D d m E e_ N T i_;go_wp2;go_roundw
       case rel=>exact⟨k+1,by omega,by go_num,n_,by rw [t_.out];exact s_.out,u_⟩
       case measure=>simp [intOf];omega
     · have hne:(x.make.2 !=0)=true:=bne_iff_ne.2 I;have U:=D_ (W.out I);clear I Y W;generalize x.make.2=er at*;go_wp2_with fail;refine H.out.mono ?_;rintro e w2 ⟨a5,c5,bd5,bc5,rfl,A,p⟩;have q:Below wr.heap.size wr w2:=((F_ _ wr).alloc (R_ _) _).trans (p.mono (by simp));have h_:=D_ (M.out.trans ((a.trans (q.mono a.size)).mono F));clear c0 c1 c2 c3 p q A a u H;unfold clv;go_wp2_with fail;refine B_ (v:=.tuple #[.slice none 0 0,.int .i64 k,.int .i64 80]) (by simp [results,Tryz.results21,go_sem]) rfl ?_;rw [U.out];exact⟨_,rfl,P3.nil _ _,h_.out.alloc h_.out.size _⟩
   · obtain rfl:k=l.length:=by omega
     have U:Hid (X=(l.map (fun t=>t.make.1),0,0)):=D_ (by rw [<-HX.out,mz l 0 [] (fun j B=>V.out j B B)];rfl);rw [List.take_of_length_le (R_ _)]at y;obtain⟨xs,h1,h2⟩:=y;have HO:Hid (P3 w.heap.size wr u8 (l.map (fun t=>t.make.1))):=D_ ⟨xs,Z3 h1 F,h2.kept (fun _ _ _=>rfl) fun b Z _=>⟨by omega,Z.2⟩⟩;have r_:=D_ (M.out.trans (a.mono F));clear h1 h2 a V;go_wp2_with fail;refine B_ (v:=.tuple #[u8,.int .i64 0,.int .i64 0]) (by simp [results,Tryz.results21,go_sem]) rfl ?_;rw [U.out];exact⟨_,rfl,HO.out,r_.out⟩
def bq (B:Nat) (w:World) (v:Value) (l:List Int):Prop:=w.ownsRow B 3 1 v l.length (qq l)
theorem bq.nil (B:Nat) (w:World):bq B w (.slice none 0 0) []:=O_ _ _ _ _
theorem infoIs:(Tryz.prog.info? 3).map (fun i=>(i.zero,i.size,i.bytes))=some (some (.int .i64 0),1,8):=by kernel_rfl
theorem bq.below {B:Nat} {w w':World} {v:Value} {l:List Int} (h:bq B w v l) (a:Below w.heap.size w w'):bq B w' v l:=F3 h fun g _ b=>a.block g b
def T6 (s:ByteArray) (n:Int) (cs:List Cl):Nat->List Int
 |0=> []
 |k+1=>match cs[k]? with
  |some c=>if c.head.name=s/\(c.head.args.length:Int)=n then T6 s n cs k++ [(k:Int)]else T6 s n cs k
  |none=>T6 s n cs k
theorem findL_step (s:ByteArray) (n:Int) (cs:List Cl) (k:Nat) (a:k<cs.length):T6 s n cs (k+1)=if cs[k].head.name=s/\(cs[k].head.args.length:Int)=n then T6 s n cs k++ [(k:Int)]else T6 s n cs k:=by
 show(match cs[k]? with|some c=>_|none=>_)=_
 rw [List.getElem?_eq_getElem a]
theorem fX (s:ByteArray) (n:Int) (cs:List Cl): ∀k,(T6 s n cs k).length<=k
 |0=>R_ 0
 |k+1=>by
  have h:=fX s n cs k;show(match cs[k]? with|some c=>_|none=>_:List Int).length<=_
  split
  · split
    · rw [P_,List.length_singleton];omega
    · omega
  · omega
set_option maxRecDepth 100000 in
theorem cl_Find (cs:List Cl) (s:ByteArray) (n:Int) (ad:Option Addr) (cap:Nat) (w:World) (P:Nat->Prop) (I: ∀b,P b->b<w.heap.size) (_hl:cs.length<=cap) (_hc:cap<=maxLen) (W:cs.length<=10000000000000) (h:dq w P ad cs):
 Calls Tryz.prog 27 #[.slice ad cs.length cap,.string s,.int .i64 n] w fun e w'=> ∃v,e=.returned v/\bq w.heap.size w' v (T6 s n cs cs.length)/\Below w.heap.size w w':=by
 obtain⟨i0,A,O,R,T⟩:=info_parts infoIs;have H:=D_ h;have F:=D_ I;clear h I;go_enter Tryz.func27,Tryz.ntmps27;go_wp2_with fail;go_loopw [7,12] (fun lv iv wr=> ∃k:Nat,k<=cs.length/\iv=.int .i64 k/\Below w.heap.size w wr/\bq w.heap.size wr lv (T6 s n cs k)) (fun _ iv _=>cs.length-(intOf iv).toNat)
 case atStart=>exact⟨0,Nat.zero_le _,rfl,F_ _ _,bq.nil _ _⟩
 case round=>
  obtain⟨k,hk,rfl,d,l⟩:=hrel;have X:=d.size;by_cases x:k<cs.length
  · obtain⟨b,o,a1,c1,bd,bc,rfl,Y,J,x0,x1,x2,x3,x4,x5⟩:=(H.out.kept (w':=wr) (Q:=fun b=>b<w.heap.size) (fun b C _=>d.block b (F.out b C)) (fun b C _=>F.out b C)) k x;have r:=D_ (findL_step s n cs k x);have Z:=fX s n cs k;clear J;generalize cs[k]=c at*;have y:=D_ l;have a:(wr.alloc (.cells #[.int .i64 c.head.kind,.string c.head.name,.int .i64 c.head.n,.slice a1 c.head.args.length c1,.slice bd c.body.length bc,.int .i64 c.vars] 30)).ownsRow w.heap.size 3 1 u7 (T6 s n cs k).length (qq (T6 s n cs k)):=World.ownsRow.alloc (show wr.ownsRow w.heap.size 3 1 u7 (T6 s n cs k).length (qq (T6 s n cs k))from l) _;clear l;by_cases g:c.head.name=s/\(c.head.args.length:Int)=n
    · have G:(c.head.name.toList==s.toList)=true:=by rw [g.1];exact beq_self_eq_true _
      have V:((c.head.args.length:Int)==n)=true:=by rw [g.2];exact beq_self_eq_true _
      have q:Hid (T6 s n cs (k+1)=T6 s n cs k++ [(k:Int)]):=D_ (by rw [r.out,J_ g]);have B:=a.lt;clear g r;generalize T6 s n cs k=fl at*;have E:=D_ (World.ownsRow.alloc a (.cells #[.int .i64 (k:Int)] 3));go_wp2_with (first
       |(at_builtin;refine wpList_append_own _ rfl _ _ 47 rfl w.heap.size 3 i0 (.int .i64 0) 1 8 Tryz.underlying47 A O R T rfl (by decide) _ _ _ rfl E.out ⟨wr.heap.size+1,0,none⟩ 1 1 [.int .i64 (k:Int)] rfl rfl ?c1 ?c2 ?c3 ?c4 ?c5 ?_))
      case c1=>
       intro j u t;match j,t with
       |0,t=>simp at t;subst t;simp [Addr.add]
      case c2=>intro u N;simp at N;subst N;rfl
      case c3=>unfold maxLen;omega
      case c4=>omega
      case c5=>simp;omega
      intro v3 w3 p m _;have z:Below w.heap.size w w3:=((d.alloc d.size _).alloc (by simp;omega) _).grown m (by simp;omega) (fun i A=>(B i A).1);have D:Hid (bq w.heap.size w3 v3 (fl++ [(k:Int)])):=D_ (by
       unfold bq;rw [Mz,P_];exact p)
      clear p m a x0 x1 x2 x3 x4 x5;go_wp2;go_roundw
      case rel=>exact⟨k+1,by omega,by go_num,z,by rw [q.out];exact D.out⟩
      case measure=>simp [intOf];omega
    · have q:Hid (T6 s n cs (k+1)=T6 s n cs k):=D_ (by rw [r.out,I_ g]);have M:((c.head.name.toList==s.toList)=true/\((c.head.args.length:Int)==n)=false)\/(c.head.name.toList==s.toList)=false:=by
       by_cases e:c.head.name=s
       · exact .inl ⟨by rw [e];exact beq_self_eq_true _,beq_eq_false_iff_ne.2 fun e2=>g ⟨e,e2⟩⟩
       · exact .inr (beq_eq_false_iff_ne.2 fun e2=>e (by rw [ByteArray.toList_eq,ByteArray.toList_eq]at e2;exact ByteArray.ext (Array.toList_inj.1 e2)))
      clear g r a;rcases M with⟨G,V⟩|G
      all_goals
       go_wp2_with fail;go_roundw
       case rel=>exact⟨k+1,by omega,by go_num,d.alloc d.size _,by rw [q.out];exact bq.below y.out ((F_ _ wr).alloc (R_ _) _)⟩
       case measure=>simp [intOf];omega
  · obtain rfl:k=cs.length:=by omega
    have U:=D_ l;clear l;go_wp2_with fail;go_ret;exact⟨_,rfl,U.out,d⟩
noncomputable def Cl.same (A B:Cl):Bool:=A.head.same B.head&&((Tm.mk 0 ⟨#[]⟩ 0 A.body).same (Tm.mk 0 ⟨#[]⟩ 0 B.body)&&A.vars==B.vars)
theorem Cl.same_true (A:Cl):A.same A=true:=by unfold Cl.same;rw [Tm.same_true rfl,Tm.same_true rfl];simp
set_option maxRecDepth 100000 in
theorem rc_Same (A B:Cl) (a1 b1 a2 b2:Option Addr) (c1 d1 c2 d2:Nat) (w:World) (P Q:Nat->Prop) (g:ClP w P A a1 c1 b1 d1) (h:ClP w Q B a2 c2 b2 d2) (s:A.head.size<=1000000) (t:Tm.sizes A.body<=100000):
 Calls Tryz.prog 18 #[clv A a1 c1 b1 d1,clv B a2 c2 b2 d2] w fun e w'=>e=.returned (.bool (A.same B))/\Below w.heap.size w w':=by
 have c:=D_ (fun o1 o2:Obj=>((F_ w.heap.size w).alloc (R_ _) o1).alloc (by simp) o2);have l:=D_ (fun W (a:Below w.heap.size w W)=>ZJ A.head.size A.head B.head a1 a2 c1 c2 W (R_ _) s (g.head.toIn.on a) (h.head.toIn.on a));have p:=D_ (fun W (a:Below w.heap.size w W)=>ref_SameAll A.body B.body b1 b2 d1 d2 W t g.blen g.bcap h.blen h.bcap (g.body.all.on a) (h.body.all.on a));clear g h;unfold Cl.same clv;unfold tmv at l;generalize A.head.same B.head=x at*;generalize (Tm.mk 0 ⟨#[]⟩ 0 A.body).same (Tm.mk 0 ⟨#[]⟩ 0 B.body)=y at*;obtain⟨z,o⟩: ∃z,(A.vars==B.vars)=z:=⟨_,rfl⟩;rw [o];have m:=D_ (fun o1 o2:Obj=>And.intro ((A_ (w.alloc o1) o2 _ (by simp)).trans (H2 w o1)) (J5 w o1 o2));have k: ∀o1 o2:Obj,((w.alloc o1).alloc o2).heap.size=w.heap.size+2:=fun _ _=>by simp
 cases x with
 |false=>
  clear o;go_enter Tryz.func18,Tryz.ntmps18;go_wp2_with fail;refine(l.out _ (c.out _ _)).mono ?_;rintro e w1 ⟨rfl,a⟩;have b:=D_ ((c.out _ _).trans (a.mono (by rw [k];omega)));clear a;go_wp2_with fail;go_ret;exact⟨rfl,b.out⟩
 | true=>
  cases y with
  |false=>
   clear o;go_enter Tryz.func18,Tryz.ntmps18;go_wp2_with fail;obtain⟨a1q,a2q⟩:=m.out (.cells #[.int .i64 A.head.kind,.string A.head.name,.int .i64 A.head.n,.slice a1 A.head.args.length c1,.slice b1 A.body.length d1,.int .i64 A.vars] 30) (.cells #[.int .i64 B.head.kind,.string B.head.name,.int .i64 B.head.n,.slice a2 B.head.args.length c2,.slice b2 B.body.length d2,.int .i64 B.vars] 30);refine(l.out _ (c.out _ _)).mono ?_;rintro e w1 ⟨rfl,a⟩;have b:=D_ ((c.out _ _).trans (a.mono (by rw [k];omega)));obtain⟨x0,x1,x2,x3,x4,x5,_⟩:=J2 (B0 a a1q);obtain⟨y0,y1,y2,y3,y4,y5,_⟩:=J2 (B0 a a2q);clear a a1q a2q;go_wp2_with fail;refine(p.out _ b.out).mono ?_;rintro e w2 ⟨rfl,a⟩;have d:=D_ (b.out.trans (a.mono b.out.size));clear a;go_wp2_with fail;go_ret;exact⟨rfl,d.out⟩
  | true=>
   cases z
   all_goals
    go_enter Tryz.func18,Tryz.ntmps18;go_wp2_with fail;obtain⟨a1q,a2q⟩:=m.out (.cells #[.int .i64 A.head.kind,.string A.head.name,.int .i64 A.head.n,.slice a1 A.head.args.length c1,.slice b1 A.body.length d1,.int .i64 A.vars] 30) (.cells #[.int .i64 B.head.kind,.string B.head.name,.int .i64 B.head.n,.slice a2 B.head.args.length c2,.slice b2 B.body.length d2,.int .i64 B.vars] 30);refine(l.out _ (c.out _ _)).mono ?_;rintro e w1 ⟨rfl,a⟩;have b:=D_ ((c.out _ _).trans (a.mono (by rw [k];omega)));have i:=B0 a a1q;have j:=B0 a a2q;obtain⟨x0,x1,x2,x3,x4,x5,_⟩:=J2 i;obtain⟨y0,y1,y2,y3,y4,y5,_⟩:=J2 j;have q:=D_ i;have r:=D_ j;clear a a1q a2q i j;go_wp2_with fail;refine(p.out _ b.out).mono ?_;rintro e w2 ⟨rfl,a⟩;have d:=D_ (b.out.trans (a.mono b.out.size));clear x0 x1 x2 x3 x4 x5 y0 y1 y2 y3 y4 y5;obtain⟨x0,x1,x2,x3,x4,x5,_⟩:=J2 (B0 a q.out);obtain⟨y0,y1,y2,y3,y4,y5,_⟩:=J2 (B0 a r.out);clear a;go_wp2_with fail;go_ret;exact⟨rfl,d.out⟩
theorem ex_cl1:C6 [112,40,88,41,32,58,45,32,113,40,88,44,32,89,41,44,32,33,46]=([⟨X0 [112] [A8 0],[X0 [113] [A8 0,A8 1],R1 [33]],2⟩],0,0):=by kernel_rfl
theorem ex_cl2:C6 [97,46,32,88,32,61,32,89,46]=([],1,80):=by kernel_rfl
def exQ:Tm:=X0 [113] [A8 0,A8 1]
def exC:Cl:=⟨X0 [112] [A8 0],[exQ,R1 [33]],2⟩
theorem var_in (w:World) (n:Nat) (h:n<=1000):G6 w (A8 n) none 0:=leafI w (D1 (by decide) (by decide)) ⟨by omega,by omega⟩ (Nat.zero_le _)
set_option maxRecDepth 100000 in
theorem cl_live (w:World) (hT:TabsT w):
 Calls Tryz.prog 9 #[] w fun e w'=>e=.returned (.bool true)/\Below w.heap.size w w':=by
 have O:=D_ (bx ⟨#[112,40,88,41,32,58,45,32,113,40,88,44,32,89,41,44,32,33,46]⟩ w hT);have R:=D_ (fun W (a:Below w.heap.size w W)=>bx ⟨#[97,46,32,88,32,61,32,89,46]⟩ W (hT.on a));rw [show C6 (⟨#[112,40,88,41,32,58,45,32,113,40,88,44,32,89,41,44,32,33,46]⟩:ByteArray).data.toList=([exC],0,0)from ex_cl1]at O;rw [show C6 (⟨#[97,46,32,88,32,61,32,89,46]⟩:ByteArray).data.toList=([],1,80)from ex_cl2]at R;have i_:=D_ (fun W=>vj ⟨#[105,115]⟩ 2 W);rw [show m4 (⟨#[105,115]⟩:ByteArray).data.toList 2=true from rfl]at i_;clear hT;go_enter Tryz.func9,Tryz.ntmps9;go_wp2_with fail;refine O.out.mono ?_;rintro e w1 ⟨v1,rfl,p_,m_⟩;obtain⟨ad1,cap1,rfl,o_,w_,Y⟩:=p_.at;have N:=D_ Y;have y:=D_ m_;rw [show [exC].length=1 from rfl]at o_⊢;clear p_ Y m_ O;go_wp2_with fail;refine(R.out _ y.out).mono ?_;rintro e w2 ⟨v2,rfl,x_,z⟩;have h_:=D_ (y.out.trans (z.mono y.out.size));have r:Hid (dq w2 (fun b=>b<w2.heap.size) ad1 [exC]):=D_ (N.out.kept (fun b _ hl=>z.block b hl) fun b _ hl=>Nat.lt_of_lt_of_le hl z.size);clear x_ z R N y;go_wp2_with fail;refine(A9 _ _).mono ?_;rintro e w3 ⟨rfl,n_⟩;have F:=D_ n_;clear n_;go_wp2_with fail;generalize c:w3.alloc (.cells #[.int .i64 1,.string ⟨#[]⟩,.int .i64 0,.slice none 0 0] 26)=w3a;have HA:Hid (E5 w3a (some ⟨w3.heap.size,0,none⟩) [A8 0]):=D_ (by rw [<-c];exact row1L (var_in w3 0 (by omega)) _ rfl);have l:Hid (Below w2.heap.size w2 w3a):=D_ (by rw [<-c];exact F.out.alloc F.out.size _);clear c F;refine(j6 _ _ _ _ _).mono ?_;rintro e w4 ⟨rfl,U⟩;have c_:=D_ (HA.out.on U);have G:=D_ (l.out.trans (U.mono l.out.size));clear U HA l;go_wp2_with fail;refine(A9 _ _).mono ?_;rintro e w5 ⟨rfl,V⟩;have d_:=D_ (c_.out.on V);have H:=D_ (G.out.trans (V.mono G.out.size));clear V c_ G;go_wp2_with fail;refine(A9 _ _).mono ?_;rintro e w6 ⟨rfl,X⟩;have e_:=D_ (d_.out.on X);have I:=D_ (H.out.trans (X.mono H.out.size));clear X d_ H;go_wp2_with fail;generalize c:w6.alloc (.cells #[.int .i64 1,.string ⟨#[]⟩,.int .i64 0,.slice none 0 0,.int .i64 1,.string ⟨#[]⟩,.int .i64 1,.slice none 0 0] 26)=w6a;have HQ:Hid (E5 w6a (some ⟨w6.heap.size,0,none⟩) [A8 0,A8 1]):=D_ (by rw [<-c];exact row2L (var_in w6 0 (by omega)) (var_in w6 1 (by omega)) _ rfl);have t:Below w6.heap.size w6 w6a:=by rw [<-c];exact(F_ _ _).alloc (R_ _) _
 have D:=D_ (e_.out.on t);have m:=D_ (I.out.trans (t.mono I.out.size));clear c t e_ I;refine(j6 _ _ _ _ _).mono ?_;rintro e w7 ⟨rfl,A⟩;have f_:=D_ (D.out.on A);have j_:=D_ (HQ.out.on A);have J:=D_ (m.out.trans (A.mono m.out.size));clear A D m HQ;go_wp2_with fail;refine(m8 _ _).mono ?_;rintro e w8 ⟨rfl,B⟩;have g_:=D_ (f_.out.on B);have k_:=D_ (j_.out.on B);have M:=D_ (J.out.trans (B.mono J.out.size));clear B f_ j_ J;go_upto_region 6 with fail;generalize c:w8.alloc (.cells #[.int .i64 4,.string ⟨#[113]⟩,.int .i64 0,.slice (some ⟨w6.heap.size,0,none⟩) 2 2,.int .i64 2,.string ⟨#[33]⟩,.int .i64 0,.slice none 0 0] 26)=w8a;have u:Below w8.heap.size w8 w8a:=by rw [<-c];exact(F_ _ _).alloc (R_ _) _
 have T:Hid (E5 w8a (some ⟨w8.heap.size,0,none⟩) [exQ,R1 [33]]):=D_ (by rw [<-c];exact row2L (compI (s:= [113]) (cap:=2) (by decide) (by decide) (by decide) k_.out) (atomI w8 33) _ rfl);have t_:w8a.heap.size=w8.heap.size+1:=by rw [<-c];exact Z_ _ _
 have E:=D_ (g_.out.on u);have q:=D_ (M.out.trans (u.mono M.out.size));clear c u g_ M k_;generalize c:w8a.alloc (.cells #[.int .i64 4,.string ⟨#[112]⟩,.int .i64 0,.slice (some ⟨w3.heap.size,0,none⟩) 1 1,.slice (some ⟨w8.heap.size,0,none⟩) 2 2,.int .i64 2] 30)=w9;have C:Below w8a.heap.size w8a w9:=by rw [<-c];exact(F_ _ _).alloc (R_ _) _
 have a_:w9.heap[w8a.heap.size]?=some (.cells #[.int .i64 4,.string ⟨#[112]⟩,.int .i64 0,.slice (some ⟨w3.heap.size,0,none⟩) 1 1,.slice (some ⟨w8.heap.size,0,none⟩) 2 2,.int .i64 2] 30 (0,0)):=by rw [<-c];exact H2 w8a _
 have j:=D_ (q.out.trans (C.mono q.out.size));have hC:ClP w9 (fun b=>b<w9.heap.size) exC (some ⟨w3.heap.size,0,none⟩) 1 (some ⟨w8.heap.size,0,none⟩) 2:=
  ⟨(compI (s:= [112]) (cap:=1) (by decide) (by decide) (by decide) (E.out.on C)).inP,by decide,by decide,(T.out.on C).inP,D1 (x:=2) (by decide) (by decide)⟩
 obtain⟨b,o,a1,c1,bd,bc,rfl,y_,Z,x0,x1,x2,x3,x4,x5⟩:=(r.out.kept (w':=w9) (Q:=fun b=>b<w9.heap.size) (fun b a _=>j.out.block b a) (fun b a _=>Nat.lt_of_lt_of_le a j.out.size)) 0 (by simp);rw [show [exC][0]=exC from rfl]at Z x0 x1 x2 x3 x4 x5;rw [show exC.head.kind=4 from rfl,Nat.zero_mul,Nat.add_zero]at x0;rw [show exC.head.name=⟨#[112]⟩from rfl,Nat.zero_mul,Nat.add_zero]at x1;rw [show exC.head.n=0 from rfl,Nat.zero_mul,Nat.add_zero]at x2;rw [show exC.head.args.length=1 from rfl,Nat.zero_mul,Nat.add_zero]at x3;rw [show exC.body.length=2 from rfl,Nat.zero_mul,Nat.add_zero]at x4;rw [show exC.vars=2 from rfl,Nat.zero_mul,Nat.add_zero]at x5;have b_:=fun W (a:Below w9.heap.size w9 W)=>rc_Same exC exC a1 bd (some ⟨w3.heap.size,0,none⟩) (some ⟨w8.heap.size,0,none⟩) c1 bc 1 2 W (fun b=>b<w9.heap.size) (fun b=>b<w9.heap.size) (Z.kept (fun b d _=>a.block b d) fun _ h _=>h) (hC.kept (fun b d _=>a.block b d) fun _ h _=>h) (by decide+kernel) (by decide+kernel);simp only [Cl.same_true]at b_
 have l_:=D_ b_;clear b_;have u_:=D_ (fun W (a:Below w9.heap.size w9 W)=>cl_Find [exC] ⟨#[112]⟩ 1 (some ⟨b,o,none⟩) cap1 W (fun b=>b<w9.heap.size) (fun b d=>Nat.lt_of_lt_of_le d a.size) o_ w_ (by decide)
  ((r.out.kept (w':=w9) (Q:=fun b=>b<w9.heap.size) (fun b a _=>j.out.block b a) (fun b a _=>Nat.lt_of_lt_of_le a j.out.size)).kept (fun b d _=>a.block b d) fun _ h _=>h))
 rw [t_]at a_;have v_:b<w9.heap.size:=L_ w9 ⟨b,o,none⟩ x0;have k:Hid (∀W,Below w9.heap.size w9 W->W.cell? ⟨b,o,none⟩=some (.int .i64 4)/\W.cell? ⟨b,o+1,none⟩=some (.string ⟨#[112]⟩)/\W.cell? ⟨b,o+2,none⟩=some (.int .i64 0)/\W.cell? ⟨b,o+3,none⟩=some (.slice a1 1 c1)/\W.cell? ⟨b,o+4,none⟩=some (.slice bd 2 bc)/\W.cell? ⟨b,o+5,none⟩=some (.int .i64 2)/\W.cell? ⟨w8.heap.size+1,0,none⟩=some (.int .i64 4)/\W.cell? ⟨w8.heap.size+1,1,none⟩=some (.string ⟨#[112]⟩)/\W.cell? ⟨w8.heap.size+1,2,none⟩=some (.int .i64 0)/\W.cell? ⟨w8.heap.size+1,3,none⟩=some (.slice (some ⟨w3.heap.size,0,none⟩) 1 1)/\W.cell? ⟨w8.heap.size+1,4,none⟩=some (.slice (some ⟨w8.heap.size,0,none⟩) 2 2)/\W.cell? ⟨w8.heap.size+1,5,none⟩=some (.int .i64 2)):=D_ (fun W a=>by
  obtain⟨y0,y1,y2,y3,y4,y5,_⟩:=J2 (B0 a a_);have kc: ∀i,W.cell? ⟨b,i,none⟩=w9.cell? ⟨b,i,none⟩:=fun i=>a.cell (p:=⟨b,i,none⟩) v_;exact⟨(kc _).trans x0,(kc _).trans x1,(kc _).trans x2,(kc _).trans x3,(kc _).trans x4,(kc _).trans x5,y0,y1,y2,y3,y4,y5⟩)
 clear c C a_ hC Z E T q r x0 x1 x2 x3 x4 x5;unfold clv at l_;have bD:Below w9.heap.size w9 w9.drew:=(F_ _ w9).drew;have HV:Hid (∀v w,bq w9.heap.size w v (T6 ⟨#[112]⟩ 1 [exC] 1)-> ∃ad cap,v=.slice ad 1 cap):=D_ (fun v w hv=>by
  obtain⟨_,⟨rfl,h0⟩|⟨g,cap,cur,rfl,_⟩⟩:=hv
  · exact absurd h0 (by decide+kernel)
  · exact⟨_,_,rfl⟩)
 go_region_held3 (fun W=>W.cell? ⟨b,o,none⟩=some (.int .i64 4)/\W.cell? ⟨b,o+1,none⟩=some (.string ⟨#[112]⟩)/\W.cell? ⟨b,o+2,none⟩=some (.int .i64 0)/\W.cell? ⟨b,o+3,none⟩=some (.slice a1 1 c1)/\W.cell? ⟨b,o+4,none⟩=some (.slice bd 2 bc)/\W.cell? ⟨b,o+5,none⟩=some (.int .i64 2)/\W.cell? ⟨w8.heap.size+1,0,none⟩=some (.int .i64 4)/\W.cell? ⟨w8.heap.size+1,1,none⟩=some (.string ⟨#[112]⟩)/\W.cell? ⟨w8.heap.size+1,2,none⟩=some (.int .i64 0)/\W.cell? ⟨w8.heap.size+1,3,none⟩=some (.slice (some ⟨w3.heap.size,0,none⟩) 1 1)/\W.cell? ⟨w8.heap.size+1,4,none⟩=some (.slice (some ⟨w8.heap.size,0,none⟩) 2 2)/\W.cell? ⟨w8.heap.size+1,5,none⟩=some (.int .i64 2))
  (first|with_reducible exact k.out _ b12|with_reducible exact k.out _ b10|with_reducible exact k.out _ bD)
  (first
    |(go_at_call 27;(refine(u_.out _ b10).mono ?_);rintro e w12 ⟨v,rfl,hv,s_⟩;have b12:=b10.trans (s_.mono b10.size);obtain⟨vad,vcap,rfl⟩:=HV.out v w12 (Z3 hv b10.size);clear hv)
    |(go_at_call 10;(refine(i_.out _).mono ?_);rintro e w11 ⟨rfl,rfl⟩)
    |(go_at_call 18;(refine(l_.out _ bD).mono ?_);rintro e w10 ⟨rfl,r_⟩;have b10:=bD.trans r_))
 have q_:=D_ (h_.out.trans ((j.out.trans (b12.mono j.out.size)).mono h_.out.size));go_wp2_with fail;go_ret;exact⟨rfl,q_.out⟩
end Go.Proofs.YtinefdlkajnomaaGreatDoor
