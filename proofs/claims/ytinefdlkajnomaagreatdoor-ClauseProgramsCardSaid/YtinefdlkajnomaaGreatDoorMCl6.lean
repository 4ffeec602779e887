import Derived.Test.YtinefdlkajnomaaGreatDoorMClauseF
import Derived.Test.YtinefdlkajnomaaGreatDoorMTermMk
import Derived.Test.YtinefdlkajnomaaGreatDoorMTermVs
import Derived.Test.YtinefdlkajnomaaGreatDoorMTermMay
import Derived.Deep.AppendLies
import Derived.Test.YtinefdlkajnomaaGreatDoorMCl1
import Derived.Test.YtinefdlkajnomaaGreatDoorMCl2
namespace Go.Proofs.YtinefdlkajnomaaGreatDoor
open Go.RowKit
set_option maxHeartbeats 20000000
theorem rc_place (l:List Int) (n:Int) (v:Value) (B:Nat) (w:World) (h:N1 B w v l) (u:l.length<=1000000000):
 Calls Tryz.prog 63 #[v,.int .i64 n] w fun e w'=>e=.returned (.int .i64 (S3 l n))/\w=w':=by
 obtain⟨ad,cap,rfl,A,_,b⟩:=h.view;obtain⟨E,m⟩: ∃E,S3 l n=E:=⟨_,rfl⟩;rw [m];have p:=D_ m;have r:=D_ b;clear h m b;go_enter Tryz.func63,Tryz.ntmps63;go_wp2_with fail;go_loop [9] (fun iv=> ∃k:Nat,k<=l.length/\iv=.int .i64 k/\Hid (∀j (a:j<l.length),j<k->l[j]≠n)) (fun iv=>l.length-(intOf iv).toNat)
 case atStart=>exact⟨0,Nat.zero_le _,rfl,D_ fun j _ a=>by cases a⟩
 case round=>
  obtain⟨k,C,rfl,c⟩:=hrel;by_cases d:k<l.length
  · obtain⟨g,rfl,c0⟩:=r.out k d;have o:=D_ (fun e=>qX l n k d e fun j a=>c.out j (by omega) a);have q:Hid (l[k]≠n-> ∀j (a:j<l.length),j<k+1->l[j]≠n):=D_ (fun t j a z=>by
     by_cases e:j<k
     · exact c.out j a e
     · obtain rfl:j=k:=by omega
       exact t)
    generalize l[k]=x at*;cases hx:(x==n)with
    |true=>
     have i:Hid ((k:Int)=E):=D_ ((o.out (by simpa using hx)).symm.trans p.out);go_wp2_with fail;go_ret;exact⟨ret_i i.out,rfl⟩
    |false=>
     have s:=D_ (q.out (by simpa using hx));go_wp2_with fail;go_round
     case rel=>exact⟨k+1,by omega,by go_num,s⟩
     case measure=>simp [intOf];omega
  · have i:Hid ((0:Int)=E):=D_ (by
     rw [<-p.out];unfold S3;rw [I_ fun y=>by
      obtain⟨j,a,e⟩:=List.mem_iff_getElem.1 y;exact c.out j a (by omega) e])
    clear c;go_wp2_with fail;go_ret;exact⟨ret_i i.out,rfl⟩
set_option maxRecDepth 100000 in
theorem Pz (L:List Int) (hL:L.length<=1000000000) (v:Value) (B:Nat) (m:Nat): ∀(T:Tm) (ad:Option Addr) (cap:Nat) (w:World),T.size<=m->T.size<=1000000->T.may=true->N1 B w v L->G6 w T ad cap->
 Calls Tryz.prog 43 #[tmv T ad cap,v] w (zx w.heap.size w (T.numT L)):=by
 induction m with
 |zero=>intro T ad cap w h;have:=T.size_pos;omega
 | succ m ih=>
  intro T ad cap w hm hM M u_ q;have k_:=D_ u_;have HMA:=D_ (fun a (ha:a∈T.args)=>Tm.may_arg M ha);have HMY:=D_ M;clear M u_;have IH:=D_ ih;clear ih;have HI:=D_ q;have hlen:=Tm.length_le_sizes T.args;have x_:=T.size_eq;have hl:T.args.length<=1000000:=by omega
  have hcapl:=q.len;have h_:=q.cap;unfold maxLen at h_;have q_:=D_ x_;obtain⟨i0,hi,hz0,hz1,hz2⟩:=info_parts Qx;have F:=q.kind;have t_:=q.name;have N:=q.n;clear x_ hlen q;by_cases r:T.kind=1
  · have t:T.name=⟨#[]⟩/\T.args= []:=by
     have h9:=HMY.out;rw [Tm.may_eq]at h9;unfold p9 at h9;rw [J_ r,Bool.and_eq_true,Bool.and_eq_true]at h9;obtain⟨_,h1,h2⟩:=h9;exact⟨ByteArray.ext (Array.toList_inj.1 (of_decide_eq_true h1)),List.eq_nil_of_length_eq_zero (of_decide_eq_true h2)⟩
    have G:T.numT L=.mk 1 ⟨#[]⟩ (S3 L T.n) []:=by rw [Tm.numT_eq,J_ r,r,t.1,t.2];rfl
    have HNT:=D_ G;have l_:=D_ (fun W (z:Below w.heap.size w W)=>rc_place L T.n v B W (k_.out.below z) hL);have d:=fun (o1 o2:Obj)=>(((F_ w.heap.size w).alloc (R_ _) o1).alloc (by simp) o2);have n_:=D_ (fun o1 o2:Obj=>And.intro ((A_ (w.alloc o1) o2 _ (by simp)).trans (H2 w o1)) (J5 w o1 o2));have hp64:In64 (S3 L T.n):=by have:=mx L T.n;exact⟨by omega,by omega⟩
    unfold tmv;rw [r];clear t G F N t_;go_enter Tryz.func43,Tryz.ntmps43;go_wp2_with fail;obtain⟨_,H⟩:=n_.out (.cells #[.int .i64 1,.string T.name,.int .i64 T.n,.slice ad T.args.length cap] 26) (.cells #[.int .i64 0,.string ⟨#[]⟩,.int .i64 0,.slice none 0 0] 26);refine(l_.out _ (d _ _)).mono ?_;rintro e w9 ⟨rfl,rfl⟩;go_wp2_with fail;refine(A9 _ _).mono ?_;rintro e w2 ⟨rfl,l⟩;have HB2:=D_ ((d _ _).trans (l.mono (by simp;omega)));have m_:=D_ (B0 l H);obtain⟨z0,z1,z2,z3,f0,f1,f2,f3⟩:=P1 m_.out;clear l H n_ l_ d;go_wp2_with fail;have hn:w.heap.size<=w.heap.size+1:=Nat.le_succ _;have g4:=t8 m_.out (.int .i64 1) (.string ⟨#[]⟩) (.int .i64 (S3 L T.n)) (.slice none 0 0);obtain⟨y0,y1,y2,y3,_⟩:=P1 g4;refine B_ (v:=.agg #[.int .i64 1,.string ⟨#[]⟩,.int .i64 (S3 L T.n),.slice none 0 0]) (by simp [results,Tryz.results43,go_sem,y0,y1,y2,y3]) rfl ?_;rw [HNT.out];exact⟨none,0,rfl,⟨D1 (x:=1) (by decide) (by decide),hp64,Nat.zero_le _,R_ _,Nat.zero_le _,.nil _⟩,(((HB2.out.setCell (p:=⟨w.heap.size+1,0,none⟩) hn _).setCell (p:=⟨w.heap.size+1,1,none⟩) hn _).setCell (p:=⟨w.heap.size+1,2,none⟩) hn _).setCell (p:=⟨w.heap.size+1,3,none⟩) hn _⟩
  have hkf:(T.kind==1)=false:=by simpa using r
  have G:T.numT L=.mk T.kind T.name T.n (T.args.map (Tm.numT L)):=by rw [Tm.numT_eq,I_ r]
  have p_:=D_ G;have O:Hid (In64 T.kind/\In64 T.n):=D_ ⟨F,N⟩;clear G r F N;unfold tmv;generalize F:T.kind=kd at*;generalize hnn:T.n=n' at*;clear F hnn;go_enter Tryz.func43,Tryz.ntmps43;go_wp2_with fail;have d:=fun (o1 o2:Obj)=>(((F_ w.heap.size w).alloc (R_ _) o1).alloc (by simp) o2);generalize I:(w.alloc _).alloc _=w0;have hw0b:Below w.heap.size w w0:=by rw [<-I];exact d _ _
  have hw0s:w0.heap.size=w.heap.size+2:=by rw [<-I];simp
  have v_:w0.heap[w.heap.size]?=some (.cells #[.int .i64 kd,.string T.name,.int .i64 n',.slice ad T.args.length cap] 26 (0,0)):=by
   rw [<-I,A_ _ _ _ (by simp)];exact H2 _ _
  have H:w0.heap[w.heap.size+1]?=some (.cells #[.int .i64 0,.string ⟨#[]⟩,.int .i64 0,.slice none 0 0] 26 (0,0)):=by
   rw [<-I];exact J5 _ _ _
  clear I d;go_loopw [5,19] (fun lv iv wr=> ∃k:Nat,k<=T.args.length/\iv=.int .i64 k/\Below (w.heap.size+2) w0 wr/\Q1 (w.heap.size+2) wr lv ((T.args.take k).map (Tm.numT L))) (fun _ iv _=>T.args.length-(intOf iv).toNat)
  case atStart=>exact⟨0,Nat.zero_le _,rfl,F_ _ _,Q1.nil _ _⟩
  case round=>
   obtain⟨k,hk,rfl,E,s⟩:=hrel;have J:Below w.heap.size w wr:=hw0b.trans (E.mono (by omega));have hwrs:=E.size;by_cases U:k<T.args.length
   · obtain⟨b,o,rfl⟩:=HI.out.args.addr (by omega);obtain⟨ad1,cap1,c0,c1,c2,c3,a_⟩:=(HI.out.args.on J).get k U;have hmem:=Tm.mem_size (List.getElem_mem U);have hxa:=List.getElem_mem U;have i_:=D_ (map_step (Tm.numT L) T.args k U);have w_:((T.args.take k).map (Tm.numT L)).length=k:=by rw [List.length_map,List.length_take];omega
     generalize T.args[k]=x at*;have hxm:x.size<=m:=by have:=q_.out;omega
     have hxM:x.size<=1000000:=by have:=q_.out;omega
     have HC:=D_ (IH.out x ad1 cap1 (wr.alloc (.cells #[.int .i64 x.kind,.string x.name,.int .i64 x.n,.slice ad1 x.args.length cap1] 26)) hxm hxM (HMA.out x hxa) (k_.out.below (J.trans ((((F_ _ wr).alloc (R_ _) _)).mono J.size))) (a_.on ((F_ _ wr).alloc (R_ _) _)));have Y:=D_ s;have o_:=D_ w_;clear s w_ a_ hmem;generalize (T.args.take k).map (Tm.numT L)=rs at*;generalize x.numT L=y at*;unfold tmv at HC;go_wp2_with fail;refine HC.out.mono ?_;rintro e w2 ⟨ad2,cap2,rfl,y_,l⟩;have Z:Below wr.heap.size wr w2:=((F_ _ wr).alloc (R_ _) _).trans (l.mono (by simp));have hw2s:=l.size;obtain⟨xs,c_,f_⟩:=Y.out.below Z;have b_:=Y.out.lt;rw [o_.out]at c_;have z_:=D_ f_;have HTP:=D_ y_;have j_:=D_ b_;have hbw2:=E.trans (Z.mono (by omega));clear f_ y_ b_ l c0 c1 c2 c3 Z;unfold tmv;rw [Z_]at hw2s;go_wp2_with (first
      |(at_builtin;refine wpList_append_lies _ rfl _ _ 24 rfl (w.heap.size+2) 26 i0 (.agg #[.int .i64 0,.string ⟨#[]⟩,.int .i64 0,.slice none 0 0]) 4 56 Tryz.underlying24 hi hz0 hz1 hz2 rfl (by decide) _ _ _ rfl (c_.alloc _) ⟨w2.heap.size,0,none⟩ 1 1 (D0 y ad2 cap2) rfl rfl ?c1 ?c2 (by decide) ?c3 ?c4 ?c5 _ rfl ?_))
     case c1=>
      intro j u c;match j,c with
      |0,c=>simp [D0]at c;subst c;simp [Addr.add]
      |1,c=>simp [D0]at c;subst c;simp [Addr.add]
      |2,c=>simp [D0]at c;subst c;simp [Addr.add]
      |3,c=>simp [D0]at c;subst c;simp [Addr.add]
     case c2=>intro u hu;simp [D0]at hu;rcases hu with rfl|rfl|rfl|rfl<;>rfl
     case c3=>unfold maxLen;omega
     case c4=>omega
     case c5=>simp;omega
     intro g cap3 w3 V A D hlt3;have r_: ∀b,w2.heap.size+1>b->wr.heap.size+1<=b->(w.heap.size+2<=b/\some b≠u5.ownBlock):=fun b _ z=>⟨by omega,fun e=>by have:=(j_.out b e.symm).2;omega⟩;have C: ∀(o:Obj) (b:Nat),b<w2.heap.size->(w2.alloc o).heap[b]?=w2.heap[b]?:=fun o b z=>A_ w2 o b z;have X:Q1 (w.heap.size+2) w3 (.slice (some ⟨g,0,none⟩) (k+1) cap3) (rs++ [y]):=by
      refine Q1.grown (z_.out.kept (fun b _ z=>C _ b z) (fun b hp _=>hp)) (by rw [o_.out];exact V) A ?_ (HTP.out.kept (fun b _ z=>C _ b z) (fun b hp z=>r_ b (by omega) (by simpa using hp)));rcases D with D|D
      · exact .inl D.symm
      · exact .inr ⟨g,rfl,by rw [Z_];omega⟩
     have hbw3:Below (w.heap.size+2) w0 w3:=(hbw2.alloc (by omega) _).grown A (by simp;omega) (fun i hi=>(j_.out i hi).1);have HO4:=D_ X;clear V A D r_ C X c_;go_wp2;go_roundw
     case rel=>exact⟨k+1,by omega,by go_num,hbw3,by rw [i_.out];exact HO4.out⟩
     case measure=>simp [intOf];omega
   · obtain rfl:k=T.args.length:=by omega
     rw [List.take_of_length_le (R_ _)]at s;obtain⟨ad',cap',rfl,s_,hcm,R⟩:=s.slice;rw [List.length_map]at s_;rw [List.length_map];have d_:=(E.block w.heap.size (by omega)).trans v_;have e_:=(E.block (w.heap.size+1) (by omega)).trans H;obtain⟨d0,d1,d2,d3,e0,e1,e2,e3⟩:=P1 d_;obtain⟨g0,g1,g2,g3,k0,k1,k2,k3⟩:=P1 e_;have g_:=D_ R;clear R s d_ e_ v_ H;have hWR:=D_ J;clear J;go_wp2_with fail;refine B_ (v:=.agg #[.int .i64 kd,.string T.name,.int .i64 n',.slice ad' T.args.length cap']) (by simp [results,Tryz.results43,go_sem,g0,g1,g2,g3]) rfl ⟨ad',cap',?_,?_,?_⟩
     · rw [p_.out];unfold tmv;rw [show(Tm.mk kd T.name n' (T.args.map (Tm.numT L))).args.length=T.args.length from List.length_map _];rfl
     · rw [p_.out];refine⟨O.out.1,O.out.2,t_,by show(T.args.map (Tm.numT L)).length<=cap';rw [List.length_map];exact s_,hcm,g_.out.kept (fun b hp _=>?_) (fun b hp _=>by omega)⟩;rw [S_ _ _ _ _ (show b≠w.heap.size+1 by omega),S_ _ _ _ _ (show b≠w.heap.size+1 by omega),S_ _ _ _ _ (show b≠w.heap.size+1 by omega),S_ _ _ _ _ (show b≠w.heap.size+1 by omega),S_ _ _ _ _ (show b≠w.heap.size by omega)]
     · exact((((hWR.out.setCell (R_ _) _).setCell (Nat.le_succ _) _).setCell (Nat.le_succ _) _).setCell (Nat.le_succ _) _).setCell (Nat.le_succ _) _
def T8 (P:Nat->Prop) (B:Nat) (w:World) (v:Value) (l:List Tm):Prop:= ∃g cap xs,v=.slice (some ⟨g,0,none⟩) l.length cap/\w.ownsRow B 26 4 v l.length xs/\H4 w P xs l
theorem trow_app {w:World} {P:Nat->Prop} {xs ys:List Value} {l m:List Tm} (h:H4 w P xs l) (k:H4 w P ys m):H4 w P (xs++ys) (l++m):=by
 induction h with
 |nil=>exact k
 |cons t ad cap xs ts ht _ ih=>rw [List.append_assoc];exact .cons t ad cap _ _ ht ih
theorem trow_one {w:World} {P:Nat->Prop} {xs:List Value} {l:List Tm} (h:H4 w P xs l): ∀u∈xs,u.oneCell'=true:=by
 induction h with
 |nil=>intro u a;cases a
 |cons t ad cap xs ts _ _ ih=>
  intro u a;rcases List.mem_append.1 a with a|a
  · simp [D0]at a
    rcases a with rfl|rfl|rfl|rfl<;>rfl
  · exact ih u a
set_option maxRecDepth 100000 in
theorem rc_body (P:Nat->Prop) (n₀:Nat) (j: ∀b,P b->b<n₀) (m:Nat): ∀(T:Tm) (ad:Option Addr) (cap:Nat) (w:World),T.size<=m->T.size<=1000000->n₀<=w.heap.size->TmP w P T ad cap->
 Calls Tryz.prog 47 #[tmv T ad cap] w fun e w'=> ∃v,e=.returned v/\T8 P w.heap.size w' v T.body/\Below w.heap.size w w':=by
 induction m with
 |zero=>intro T ad cap w h;have:=T.size_pos;omega
 | succ m ih=>
  intro T ad cap w hm hM hn hp;have IH:=D_ ih;have HP:=D_ hp;have k:=D_ (fun W=>rc_IsC T.kind T.n T.name ad T.args.length cap W);have E:=D_ (fun o:Obj=>(F_ w.heap.size w).alloc (R_ _) o);clear ih hp;cases t:T.two [44]with
  |false=>
   rw [show D9 [44] T.kind T.name.data.toList T.args.length=false from t]at k;rw [Tm.body_one t];clear t;unfold tmv;go_enter Tryz.func47,Tryz.ntmps47;go_wp2_with fail;have q1:=H2 w (.cells #[.int .i64 T.kind,.string T.name,.int .i64 T.n,.slice ad T.args.length cap] 26);refine(k.out _).mono ?_;rintro e w1 ⟨rfl,c⟩;obtain⟨c0,c1,c2,c3,_⟩:=P1 (B0 c q1);have d:=(E.out _).trans (c.mono (by simp));clear c q1;go_wp2_with fail;go_ret;have q:=d.size;refine⟨_,rfl,⟨w1.heap.size,1,D0 T ad cap++ [],rfl,?_,.cons T ad cap _ _ (HP.out.kept (fun b h Z=>(A_ _ _ _ (by have:=j b h;omega)).trans (d.block b Z)) fun _ h _=>h) .nil⟩,d.alloc q _⟩;rw [List.append_nil];exact Z3 (World.ownsRow_lit (base:=w1.heap.size) (e:=26) (size:=4) w1 #[.int .i64 T.kind,.string T.name,.int .i64 T.n,.slice ad T.args.length cap] 1 (R_ _) (by decide) rfl) q
  | true=>
   obtain⟨a,b,l⟩:=Tm.two_args t;rw [show D9 [44] T.kind T.name.data.toList T.args.length=true from t]at k;rw [Tm.body_two t l];have p_:T.size=1+(a.size+(b.size+0)):=by rw [T.size_eq,l];rfl
   have s:T.args.length=2:=by rw [l];rfl
   have r:=HP.out.args;rw [l]at r;obtain⟨b0,o,rfl⟩:=r.addr2 (by simp);have C:=D_ (r.getP 0 (by simp));have D:=D_ (r.getP 1 (by simp));have n_:=a.body_length;have o_:=b.body_length;have j_:=b.body_pos;clear t r l;unfold tmv;rw [s]at k⊢;go_enter Tryz.func47,Tryz.ntmps47;go_wp2_with fail;have q1:=H2 w (.cells #[.int .i64 T.kind,.string T.name,.int .i64 T.n,.slice (some ⟨b0,o,none⟩) 2 cap] 26);refine(k.out _).mono ?_;rintro e w1 ⟨rfl,c⟩;have V:=B0 c q1;have d:=(E.out _).trans (c.mono (by simp));obtain⟨aad,acap,i_,x0,x1,x2,x3,z⟩:=C.out;have m_:=j _ i_;obtain⟨bad,bcap,_,z0,z1,z2,z3,A⟩:=D.out;simp only [Nat.zero_mul,Nat.one_mul,Nat.add_zero,List.getElem_cons_zero,List.getElem_cons_succ]at x0 x1 x2 x3 z0 z1 z2 z3 z A
   have B:Hid (∀W,Below w1.heap.size w1 W->W.cell? ⟨w.heap.size,3,none⟩=some (.slice (some ⟨b0,o,none⟩) 2 cap)/\W.cell? ⟨b0,o,none⟩=some (.int .i64 a.kind)/\W.cell? ⟨b0,o+1,none⟩=some (.string a.name)/\W.cell? ⟨b0,o+2,none⟩=some (.int .i64 a.n)/\W.cell? ⟨b0,o+3,none⟩=some (.slice aad a.args.length acap)/\W.cell? ⟨b0,o+4,none⟩=some (.int .i64 b.kind)/\W.cell? ⟨b0,o+4+1,none⟩=some (.string b.name)/\W.cell? ⟨b0,o+4+2,none⟩=some (.int .i64 b.n)/\W.cell? ⟨b0,o+4+3,none⟩=some (.slice bad b.args.length bcap)):=D_ (fun W h=>by
    have kb: ∀i,W.cell? ⟨b0,i,none⟩=w.cell? ⟨b0,i,none⟩:=fun i=>(h.cell (p:=⟨b0,i,none⟩) (show b0<w1.heap.size by have:=d.size;omega)).trans (d.cell (p:=⟨b0,i,none⟩) (show b0<w.heap.size by omega));exact⟨(P1 (B0 h V)).2.2.2.1,(kb _).trans x0,(kb _).trans x1,(kb _).trans x2,(kb _).trans x3,(kb _).trans z0,(kb _).trans z1,(kb _).trans z2,(kb _).trans z3⟩)
   have c_:=D_ d;have q:=d.size;have F:=D_ (fun W (h:Below w1.heap.size w1 W)=>IH.out a aad acap W (by omega) (by omega) (by have:=h.size;omega) (z.kept (fun b c _=>(h.block b (by have:=j b c;omega)).trans (d.block b (by have:=j b c;omega))) fun _ h _=>h));have G:=D_ (fun W (h:Below w1.heap.size w1 W)=>IH.out b bad bcap W (by omega) (by omega) (by have:=h.size;omega) (A.kept (fun b c _=>(h.block b (by have:=j b c;omega)).trans (d.block b (by have:=j b c;omega))) fun _ h _=>h));unfold tmv at F G;have bD:Below w1.heap.size w1 w1.drew:=(F_ _ w1).drew;clear c q1 V d x0 x1 x2 x3 z0 z1 z2 z3 z A C D;go_upto_region 2 with fail;go_region_held3 (fun W=>W.cell? ⟨w.heap.size,3,none⟩=some (.slice (some ⟨b0,o,none⟩) 2 cap)/\W.cell? ⟨b0,o,none⟩=some (.int .i64 a.kind)/\W.cell? ⟨b0,o+1,none⟩=some (.string a.name)/\W.cell? ⟨b0,o+2,none⟩=some (.int .i64 a.n)/\W.cell? ⟨b0,o+3,none⟩=some (.slice aad a.args.length acap)/\W.cell? ⟨b0,o+4,none⟩=some (.int .i64 b.kind)/\W.cell? ⟨b0,o+4+1,none⟩=some (.string b.name)/\W.cell? ⟨b0,o+4+2,none⟩=some (.int .i64 b.n)/\W.cell? ⟨b0,o+4+3,none⟩=some (.slice bad b.args.length bcap))
    (first|with_reducible exact B.out _ bD|with_reducible exact B.out _ b2|with_reducible exact B.out _ b3|with_reducible exact B.out _ b9)
    (first
      |(go_at_call 47;(with_reducible refine(F.out _ bD).mono ?_);rintro e w2 ⟨v2,rfl,⟨g2,cap2,xa,rfl,R,X⟩,h_⟩;have b2:=bD.trans (h_.mono bD.size);have H:=D_ R;have f_:=D_ X;clear R X)
      |(go_at_call 47;(with_reducible refine(G.out _ b2).mono ?_);rintro e w3 ⟨v3,rfl,⟨g3,cap3,xb,rfl,x,Y⟩,M⟩;have b3:=b2.trans (M.mono b2.size);have U:=F3 H.out fun g _ Z=>M.block g Z;have a_:=x.1;have s:=H.out.lt;have O:=World.ownsRow.cells x (g:=g3) rfl;have l_:=D_ x;have I:=D_ Y;clear x Y)
      |(refine O3 (by rfl) (.tmp 9) (.tmp 14) (by rfl) (by rfl) U (by rfl) a_ O (trow_one I.out) j_ (by omega) (show w1.drew.heap.size<=w3.heap.size from b3.size) ?_;intro g9 cap9 w9 y u g_ k_;have b9:Below w1.heap.size w1 w9:=b3.grown u (by have:=b3.size;omega) (fun i hi=>(s i hi).1)))
   have J:H4 w9 P xa a.body:=f_.out.kept (fun b c _=>(b9.block b (by have:=j b c;omega)).trans (b2.block b (by have:=j b c;omega)).symm) fun _ h _=>h;have N:H4 w9 P xb b.body:=I.out.kept (fun b c _=>(b9.block b (by have:=j b c;omega)).trans (b3.block b (by have:=j b c;omega)).symm) fun _ h _=>h;have b_:=D_ (trow_app J N);have e_:=D_ y;have d_:=D_ (c_.out.trans (b9.mono q));clear J N y u g_ U O;go_wp2_with fail;go_ret;refine⟨.slice (some ⟨g9,0,none⟩) (a.body.length+b.body.length) cap9,rfl,⟨g9,cap9,xa++xb,by rw [P_],?_,b_.out⟩,d_.out⟩;rw [P_];exact Z3 e_.out q
theorem T8.below {P:Nat->Prop} {B:Nat} {w w':World} {v:Value} {l:List Tm} (h:T8 P B w v l) (c:Below w.heap.size w w'):T8 P B w' v l:=by
 obtain⟨g,cap,xs,j,d,i⟩:=h;exact⟨g,cap,xs,j,F3 d fun g _ a=>c.block g a,i.kept (fun b _ a=>c.block b a) fun _ h _=>h⟩
theorem T8.row {P:Nat->Prop} {B:Nat} {w:World} {v:Value} {l:List Tm} (h:T8 P B w v l): ∃g cap,v=.slice (some ⟨g,0,none⟩) l.length cap/\l.length<=cap/\cap<=maxLen/\E5 w (some ⟨g,0,none⟩) l:=by
 obtain⟨g,cap,xs,rfl,a,d⟩:=h;obtain⟨k,m,c,b⟩:=B6 a;refine⟨g,cap,rfl,c,b,(d.args (Q:=fun _=>True) g trivial (fun _ _=>trivial) 0 (fun j i=>?_)).all⟩;rw [Nat.zero_add];exact World.ownsRow.cellAt (w:=w) (base:=B) (e:=26) (size:=4) (n:=l.length) (xs:=xs) a j (by rw [<-a.1];exact i)
set_option maxRecDepth 100000 in
theorem rc_Goals (P:Nat->Prop) (n₀:Nat) (hP: ∀b,P b->b<n₀) (T:Tm) (ad:Option Addr) (cap:Nat) (w:World) (Y:T.size<=1000000) (Z:Tabs w) (hn:n₀<=w.heap.size) (O:TmP w P T ad cap):
 Calls Tryz.prog 17 #[tmv T ad cap] w fun e w'=> ∃v,e=.returned (.tuple #[v,.int .i64 T.goalsE.2])/\((T.goalsE.2=0/\T.goalsE.1=T.body/\T8 P w.heap.size w' v T.body)\/(T.goalsE.2≠0/\T.goalsE.1= []/\v=.slice none 0 0))/\Below w.heap.size w w':=by
 have r: ∀o:Obj,Below w.heap.size w (w.alloc o):=fun o=>(F_ _ w).alloc (R_ _) o;have J:=D_ (fun o=>D6 T ad cap (w.alloc o) Y (Z.on (r o)) (O.toIn.on (r o)));have D:=D_ r;have HG:=D_ (fun W (d:Below w.heap.size w W)=>rc_body P n₀ hP T.size T ad cap W (R_ _) Y (by have:=d.size;omega) (O.kept (fun b _ hl=>d.block b hl) fun _ h _=>h));have c_:=T.body_length;obtain⟨G,M⟩: ∃G,T.goalsE=G:=⟨_,rfl⟩;rw [M];have z:=D_ M;clear Z O r M;unfold tmv at*;by_cases hc:T.chk=0
 · have X:=D_ (show T.goalsE=if T.body.all Tm.goal=true then(T.body,(0:Int))else([],80) by unfold Tm.goalsE;rw [I_ (by simpa using hc)]);rw [hc]at J;clear hc;generalize T.body=L at*;go_enter Tryz.func17,Tryz.ntmps17;go_wp2_with fail;have q1:=H2 w (.cells #[.int .i64 T.kind,.string T.name,.int .i64 T.n,.slice ad T.args.length cap] 26);refine(J.out _).mono ?_;rintro e w1 ⟨rfl,d⟩;have u:=D_ ((D.out _).trans (d.mono (by simp)));obtain⟨c0,c1,c2,c3,_⟩:=P1 (B0 d q1);clear d q1;go_wp2_with fail;refine(HG.out _ u.out).mono ?_;rintro e w2 ⟨v,rfl,R,F⟩;have m:=D_ (u.out.trans (F.mono u.out.size));obtain⟨g,cp,rfl,e_,a_,_⟩:=R.row;unfold maxLen at a_;have HV:=D_ R;have b_:=u.out.size;clear R F c0 c1 c2 c3;go_wp2_with fail;go_loopw [17] (fun iv wr=> ∃k:Nat,k<=L.length/\iv=.int .i64 k/\Below w2.heap.size w2 wr/\Hid ((L.take k).all Tm.goal=true)) (fun iv _=>L.length-(intOf iv).toNat)
   case atStart=>exact⟨0,Nat.zero_le _,rfl,F_ _ _,D_ rfl⟩
   case round=>
    obtain⟨k,hk,rfl,t,I⟩:=hrel;have s:=m.out.trans (t.mono m.out.size);have q:=HV.out.below t;by_cases C:k<L.length
    · obtain⟨g',cp',e,_,_,H⟩:=q.row;injection e with e1 _ e3;injection e1 with e1;injection e1 with e1 _ _;subst e1 e3;obtain⟨ad1,cap1,c0,c1,c2,c3,N⟩:=H.get k C;rw [Nat.zero_add]at c0 c1 c2 c3;have B:Hid (L[k].goal=true->(L.take (k+1)).all Tm.goal=true):=D_ (fun c=>by
       rw [U_ C,List.all_append,I.out];simp [c])
      have A:Hid (L[k].goal=false->L.all Tm.goal=false):=D_ (fun c=>List.all_eq_false.2 ⟨L[k],List.getElem_mem C,by rw [c];decide⟩);clear N H;generalize L[k]=x at*;have p:=D_ (fun W=>uz x.kind x.n x.name ad1 x.args.length cap1 W);have E:=D_ s;have a: ∀o:Obj,Below w2.heap.size w2 (wr.alloc o):=fun o=>t.alloc t.size _;clear q s;cases c:x.goal with
      |false=>
       rw [show V7 x.kind x.name.data.toList x.args.length=false from c]at p;have i:=D_ (show G=([],80) by rw [<-z.out,X.out,I_ (by rw [A.out c];nofun)]);clear c A B;go_wp2_with fail;refine(p.out _).mono ?_;rintro e w3 ⟨rfl,j⟩;have y:=D_ (m.out.trans (((a _).trans (j.mono (a _).size)).mono m.out.size));clear j a c0 c1 c2 c3;go_wp2_with fail;refine B_ (v:=.tuple #[.slice none 0 0,.int .i64 80]) (by simp [results,Tryz.results17,go_sem]) rfl ?_;obtain rfl:=i.out;exact⟨_,rfl,.inr ⟨by decide,rfl,rfl⟩,y.out⟩
      |true=>
       rw [show V7 x.kind x.name.data.toList x.args.length=true from c]at p;have HN:=D_ (B.out c);clear c A B;go_wp2_with fail;refine(p.out _).mono ?_;rintro e w3 ⟨rfl,j⟩;have y:=D_ ((a _).trans (j.mono (a _).size));clear j a c0 c1 c2 c3;go_wp2_with fail;go_roundw
       case rel=>exact⟨k+1,by omega,by go_num,y.out,HN⟩
       case measure=>simp [intOf];omega
    · obtain rfl:k=L.length:=by omega
      have l:=I.out;rw [List.take_of_length_le (R_ _)]at l;have i:=D_ (show G=(L,0) by rw [<-z.out,X.out,J_ l]);have V:=D_ q;have E:=D_ s;clear q s l I;go_wp2_with fail;refine B_ (v:=.tuple #[.slice (some ⟨g,0,none⟩) L.length cp,.int .i64 0]) (by simp [results,Tryz.results17,go_sem]) rfl ?_;obtain rfl:=i.out;obtain⟨g',c',xs,e,h1,h2⟩:=V.out;exact⟨_,rfl,.inl ⟨rfl,rfl,g',c',xs,e,Z3 h1 b_,h2⟩,E.out⟩
 · have i:=D_ (show G=([],T.chk) by rw [<-z.out];unfold Tm.goalsE;rw [J_ (by simpa using hc)]);have d_:(T.chk !=0)=true:=bne_iff_ne.2 hc;have U:=D_ hc;generalize T.chk=ck at*;clear hc;go_enter Tryz.func17,Tryz.ntmps17;go_wp2_with fail;refine(J.out _).mono ?_;rintro e w1 ⟨rfl,d⟩;have u:=D_ ((D.out _).trans (d.mono (by simp)));clear d;go_wp2_with fail;refine B_ (v:=.tuple #[.slice none 0 0,.int .i64 ck]) (by simp [results,Tryz.results17,go_sem]) rfl ?_;obtain rfl:=i.out;exact⟨_,rfl,.inr ⟨U.out,rfl,rfl⟩,u.out⟩
end Go.Proofs.YtinefdlkajnomaaGreatDoor
