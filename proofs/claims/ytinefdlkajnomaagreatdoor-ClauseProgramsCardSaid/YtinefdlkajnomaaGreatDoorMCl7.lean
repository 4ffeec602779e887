import Derived.Test.YtinefdlkajnomaaGreatDoorMCl6
import Derived.Test.YtinefdlkajnomaaGreatDoorMCl3
import Derived.Test.YtinefdlkajnomaaGreatDoorMRdG
namespace Go.Proofs.YtinefdlkajnomaaGreatDoor
open Go.RowKit
set_option maxHeartbeats 20000000
def QZ (w:World) (c:Cl) (er:Int) (e:Ending) (w':World):Prop:= ∃a1 c1 bd bc,e=.returned (.tuple #[clv c a1 c1 bd bc,.int .i64 er])/\ClP w' (fun b=>w.heap.size<=b) c a1 c1 bd bc/\Below w.heap.size w w'
theorem E7 {w w':World} {er:Int} (a:Below w.heap.size w w'):QZ w Cl.none er (.returned (.tuple #[.agg #[.int .i64 0,.string ⟨#[]⟩,.int .i64 0,.slice none 0 0,.slice none 0 0,.int .i64 0],.int .i64 er])) w':=
 ⟨none,0,none,0,rfl,⟨zero_tm,R_ _,Nat.zero_le _,.nil _,D1 (x:=0) (by decide) (by decide)⟩,a⟩
set_option maxRecDepth 100000 in
theorem rc_MakeBad (T:Tm) (ad:Option Addr) (cap:Nat) (w:World) (m:T.size<=1000000) (j:Tabs w) (b:G6 w T ad cap) (hc:T.chk≠0):
 Calls Tryz.prog 15 #[tmv T ad cap] w (QZ w T.make.1 T.make.2):=by
 have a: ∀o1 o2:Obj,Below w.heap.size w ((w.alloc o1).alloc o2):=fun o1 o2=>((F_ _ w).alloc (R_ _) o1).alloc (by simp) o2;have l:=D_ (fun o1 o2=>D6 T ad cap ((w.alloc o1).alloc o2) m (j.on (a o1 o2)) (b.on (a o1 o2)));have g:=D_ a;have c:T.make=(Cl.none,T.chk):=by unfold Tm.make;rw [J_ hc]
 rw [c];have p:(T.chk !=0)=true:=bne_iff_ne.2 hc;clear j b a c hc;generalize T.chk=ck at*;unfold tmv at*;go_enter Tryz.func15,Tryz.ntmps15;go_wp2_with fail;have q2:=J5 w (.cells #[.int .i64 T.kind,.string T.name,.int .i64 T.n,.slice ad T.args.length cap] 26) (.cells #[.int .i64 0,.string ⟨#[]⟩,.int .i64 0,.slice none 0 0,.slice none 0 0,.int .i64 0] 30);refine(l.out _ _).mono ?_;rintro e w1 ⟨rfl,d⟩;have k:=D_ ((g.out _ _).trans (d.mono (by simp;omega)));have h:=D_ (B0 d q2);obtain⟨x0,x1,x2,x3,x4,x5,f0,f1,f2,f3,f4,f5⟩:=J2 h.out;clear d q2;go_wp2_with fail;have o:w.heap.size<=w.heap.size+1:=Nat.le_succ _;have g0:=H_ (i:=0) h.out (.int .i64 0);have g1:=H_ (i:=1) g0 (.string ⟨#[]⟩);have g2:=H_ (i:=2) g1 (.int .i64 0);have g3:=H_ (i:=3) g2 (.slice none 0 0);have g4:=H_ (i:=4) g3 (.slice none 0 0);have g5:=H_ (i:=5) g4 (.int .i64 0);simp only [T_,C_,E_]at g5
 obtain⟨y0,y1,y2,y3,y4,y5,_⟩:=J2 g5;refine B_ (v:=.tuple #[.agg #[.int .i64 0,.string ⟨#[]⟩,.int .i64 0,.slice none 0 0,.slice none 0 0,.int .i64 0],.int .i64 ck]) (by simp [results,Tryz.results15,go_sem,y0,y1,y2,y3,y4,y5]) rfl ?_;exact E7 (E3 _ _ _ _ _ _ k.out o)
set_option maxRecDepth 100000 in
theorem rc_MakeOne (T:Tm) (ad:Option Addr) (cap:Nat) (w:World) (hM:T.size<=1000000) (hT:Tabs w) (r:G6 w T ad cap) (hc:T.chk=0) (Y:T.two [58,45]=false):
 Calls Tryz.prog 15 #[tmv T ad cap] w (QZ w T.make.1 T.make.2):=by
 have q: ∀o1 o2:Obj,Below w.heap.size w ((w.alloc o1).alloc o2):=fun o1 o2=>((F_ _ w).alloc (R_ _) o1).alloc (by simp) o2;have HC:=D_ (fun o1 o2=>D6 T ad cap ((w.alloc o1).alloc o2) hM (hT.on (q o1 o2)) (r.on (q o1 o2)));have Z:=D_ q;have HV:=D_ (fun W (a:Below w.heap.size w W)=>ref_Vars T ad cap W hM (r.on a));have t_:T.vars.length<=1000000:=by have:=T.vars_size;omega
 have HN:=D_ (fun W v B (a:Below w.heap.size w W) (U:N1 B W v T.vars)=>Pz T.vars (by omega) v B T.size T ad cap W (R_ _) hM (Tm.chk_may hc).1 U (r.on a));have D:=D_ (show T.make=if(T.numT T.vars).head=true then(⟨T.numT T.vars,[],T.vars.length⟩,0)else(Cl.none,80)from by
  have e1:T.chead=T:=by unfold Tm.chead;rw [Y];rfl
  have e2:T.cbody= []:=by unfold Tm.cbody;rw [Y];rfl
  rw [ix T hc,Tm.numT_head,e1,e2];by_cases h:T.head=true
  · rw [J_ ⟨h,rfl⟩,J_ h];rfl
  · rw [I_ (fun e=>h e.1),I_ h])
 have o_:=D_ (show(T.numT T.vars).two [58,45]=false from by rw [Tm.numT_two];exact Y);rw [hc]at HC;clear hT r q hc Y;generalize T.make=mk at*;generalize T.numT T.vars=x at*;generalize T.vars=V at*;unfold tmv at*;go_enter Tryz.func15,Tryz.ntmps15;go_wp2_with fail;have q1:=A_ (w.alloc (.cells #[.int .i64 T.kind,.string T.name,.int .i64 T.n,.slice ad T.args.length cap] 26)) (.cells #[.int .i64 0,.string ⟨#[]⟩,.int .i64 0,.slice none 0 0,.slice none 0 0,.int .i64 0] 30) w.heap.size (by simp);rw [H2 w _]at q1;have q2:=J5 w (.cells #[.int .i64 T.kind,.string T.name,.int .i64 T.n,.slice ad T.args.length cap] 26) (.cells #[.int .i64 0,.string ⟨#[]⟩,.int .i64 0,.slice none 0 0,.slice none 0 0,.int .i64 0] 30);refine(HC.out _ _).mono ?_;rintro e w1 ⟨rfl,a⟩;have o:=D_ ((Z.out _ _).trans (a.mono (by simp;omega)));have E:=D_ (B0 a q1);have e_:=D_ (B0 a q2);obtain⟨c0,c1,c2,c3,_⟩:=P1 E.out;clear a q1 q2 HC Z;go_wp2_with fail;refine(HV.out _ o.out).mono ?_;rintro e w2 ⟨v,rfl,U,a⟩;have z:=D_ (o.out.trans (a.mono o.out.size));have d:=D_ (B0 a E.out);have l:=D_ (B0 a e_.out);have p_:w.heap.size+1<w2.heap.size:=(Array.getElem?_eq_some_iff.1 l.out).1;have HO:=D_ U;obtain⟨vad,vcap,rfl,q_,r_,_⟩:=U.view;clear a U c0 c1 c2 c3 E e_ HV;obtain⟨c0,c1,c2,c3,_⟩:=P1 d.out;go_wp2_with fail;refine(HN.out _ _ _ z.out HO.out).mono ?_;rintro e w3 ⟨xad,xcp,rfl,hx,a⟩;have b_:=D_ (z.out.trans (a.mono z.out.size));have s_:=a.size;have g:=D_ (B0 a d.out);have J:=D_ (B0 a l.out);have HX:=D_ hx;obtain⟨d0,d1,d2,d3,e0,e1,e2,e3⟩:=P1 g.out;clear a hx c0 c1 c2 c3 d l HN o;unfold tmv;go_upto_region 6 with fail;have g4:=t8 g.out (.int .i64 x.kind) (.string x.name) (.int .i64 x.n) (.slice xad x.args.length xcp);have R: ∀b,b≠w.heap.size->((((w3.setCell ⟨w.heap.size,0,none⟩ (.int .i64 x.kind)).setCell ⟨w.heap.size,1,none⟩ (.string x.name)).setCell ⟨w.heap.size,2,none⟩ (.int .i64 x.n)).setCell ⟨w.heap.size,3,none⟩ (.slice xad x.args.length xcp)).heap[b]?=w3.heap[b]?:=fun b a=>by
  rw [S_ _ _ _ _ (show b≠w.heap.size from a),S_ _ _ _ _ (show b≠w.heap.size from a),S_ _ _ _ _ (show b≠w.heap.size from a),S_ _ _ _ _ (show b≠w.heap.size from a)]
 have k_:=(((b_.out.setCell (p:=⟨w.heap.size,0,none⟩) (R_ _) (.int .i64 x.kind)).setCell (p:=⟨w.heap.size,1,none⟩) (R_ _) (.string x.name)).setCell (p:=⟨w.heap.size,2,none⟩) (R_ _) (.int .i64 x.n)).setCell (p:=⟨w.heap.size,3,none⟩) (R_ _) (.slice xad x.args.length xcp);generalize (((w3.setCell ⟨w.heap.size,0,none⟩ (.int .i64 x.kind)).setCell ⟨w.heap.size,1,none⟩ (.string x.name)).setCell ⟨w.heap.size,2,none⟩ (.int .i64 x.n)).setCell ⟨w.heap.size,3,none⟩ (.slice xad x.args.length xcp)=w4 at*;have h_:=D_ (HX.out.kept (w':=w4) (Q:=fun b=>w2.heap.size<=b) (fun b a _=>R b (by omega)) fun _ h _=>h);have G:=D_ ((R (w.heap.size+1) (by omega)).trans J.out);have F:=D_ g4;have s:=D_ k_;obtain⟨c0,c1,c2,c3,_⟩:=P1 g4;clear g4 R k_ d0 d1 d2 d3 e0 e1 e2 e3 g J HX b_;go_upto_region 7 with fail;generalize X:w4.alloc (.cells #[.int .i64 x.kind,.string x.name,.int .i64 x.n,.slice xad x.args.length xcp,.slice none 0 0,.int .i64 (V.length:Nat)] 30)=w5;have c:Below w4.heap.size w4 w5:=by rw [<-X];exact(F_ _ _).alloc (R_ _) _
 have l_:w5.heap[w4.heap.size]?=some (.cells #[.int .i64 x.kind,.string x.name,.int .i64 x.n,.slice xad x.args.length xcp,.slice none 0 0,.int .i64 (V.length:Nat)] 30 (0,0)):=by rw [<-X];exact H2 w4 _
 have i_:=D_ (h_.out.kept (w':=w5) (Q:=fun b=>w2.heap.size<=b) (fun b _ m=>c.block b m) fun _ h _=>h);have H:=D_ (B0 c G.out);have t:=D_ (s.out.trans (c.mono s.out.size));obtain⟨c0,c1,c2,c3,_⟩:=P1 (B0 c F.out);have f_:=D_ l_;clear X c l_ h_ G F s;have d_:=D_ (fun W=>rc_IsR x.kind x.n x.name xad x.args.length xcp W);rw [show D9 [58,45] x.kind x.name.data.toList x.args.length=false from o_.out]at d_;have c_:=D_ (fun W=>uz x.kind x.n x.name xad x.args.length xcp W);rw [show V7 x.kind x.name.data.toList x.args.length=x.goal from rfl]at c_;have m_:=D_ (fun W=>eQ x.name (x.args.length:Nat) W);have A:=D_ (show x.head=(x.goal&&!m4 x.name.data.toList x.args.length)from rfl);generalize x.goal=gg at*;generalize m4 x.name.data.toList (x.args.length:Nat)=bb at*;go_wp2_with fail;refine(d_.out _).mono ?_;rintro e w6 ⟨rfl,a⟩;have j_:=D_ (i_.out.kept (w':=w6) (Q:=fun b=>w2.heap.size<=b) (fun b _ m=>a.block b m) fun _ h _=>h);have I:=D_ (B0 a H.out);have u:=D_ (t.out.trans (a.mono t.out.size));have M:=D_ (B0 a f_.out);clear a c0 c1 c2 c3 i_ H t f_;obtain⟨d0,d1,d2,d3,d4,d5,_⟩:=J2 M.out;go_wp2_with fail;refine(c_.out _).mono ?_;rintro e w7 ⟨rfl,a⟩;have N:=D_ (j_.out.kept (w':=w7) (Q:=fun b=>w2.heap.size<=b) (fun b _ m=>a.block b m) fun _ h _=>h);have j:=D_ (B0 a I.out);have y:=D_ (u.out.trans (a.mono u.out.size));have g_:=D_ (B0 a M.out);clear a d0 d1 d2 d3 d4 d5 j_ I u M;obtain⟨d0,d1,d2,d3,d4,d5,_⟩:=J2 g_.out;obtain⟨z0,z1,z2,z3,z4,z5,f0,f1,f2,f3,f4,f5⟩:=J2 j.out;cases gg with
 |false=>
  have C:=D_ (show mk=(Cl.none,80) by rw [D.out,A.out];rfl);go_wp2_with fail;have O:w.heap.size<=w.heap.size+1:=Nat.le_succ _;have g0:=H_ (i:=0) j.out (.int .i64 0);have g1:=H_ (i:=1) g0 (.string ⟨#[]⟩);have g2:=H_ (i:=2) g1 (.int .i64 0);have g3:=H_ (i:=3) g2 (.slice none 0 0);have g4:=H_ (i:=4) g3 (.slice none 0 0);have g5:=H_ (i:=5) g4 (.int .i64 0);simp only [T_,C_,E_]at g5
  obtain⟨y0,y1,y2,y3,y4,y5,_⟩:=J2 g5;refine B_ (v:=.tuple #[.agg #[.int .i64 0,.string ⟨#[]⟩,.int .i64 0,.slice none 0 0,.slice none 0 0,.int .i64 0],.int .i64 80]) (by simp [results,Tryz.results15,go_sem,y0,y1,y2,y3,y4,y5]) rfl ?_;rw [C.out];exact E7 (E3 _ _ _ _ _ _ y.out O)
 | true=>
  go_wp2_with fail;refine(m_.out _).mono ?_;rintro e w8 ⟨rfl,a⟩;have N:=D_ (N.out.kept (w':=w8) (Q:=fun b=>w2.heap.size<=b) (fun b _ m=>a.block b m) fun _ h _=>h);have k:=D_ (B0 a j.out);have a_:=D_ (y.out.trans (a.mono y.out.size));have n_:=D_ (B0 a g_.out);clear a d0 d1 d2 d3 d4 d5 z0 z1 z2 z3 z4 z5 f0 f1 f2 f3 f4 f5;obtain⟨d0,d1,d2,d3,d4,d5,_⟩:=J2 n_.out;obtain⟨z0,z1,z2,z3,z4,z5,f0,f1,f2,f3,f4,f5⟩:=J2 k.out;cases bb with
  |true=>
   have C:=D_ (show mk=(Cl.none,80) by rw [D.out,A.out];rfl);go_wp2_with fail;have O:w.heap.size<=w.heap.size+1:=Nat.le_succ _;have g0:=H_ (i:=0) k.out (.int .i64 0);have g1:=H_ (i:=1) g0 (.string ⟨#[]⟩);have g2:=H_ (i:=2) g1 (.int .i64 0);have g3:=H_ (i:=3) g2 (.slice none 0 0);have g4:=H_ (i:=4) g3 (.slice none 0 0);have g5:=H_ (i:=5) g4 (.int .i64 0);simp only [T_,C_,E_]at g5
   obtain⟨y0,y1,y2,y3,y4,y5,_⟩:=J2 g5;refine B_ (v:=.tuple #[.agg #[.int .i64 0,.string ⟨#[]⟩,.int .i64 0,.slice none 0 0,.slice none 0 0,.int .i64 0],.int .i64 80]) (by simp [results,Tryz.results15,go_sem,y0,y1,y2,y3,y4,y5]) rfl ?_;rw [C.out];exact E7 (E3 _ _ _ _ _ _ a_.out O)
  |false=>
   have C:=D_ (show mk=(⟨x,[],(V.length:Nat)⟩,0) by rw [D.out,A.out];rfl);go_wp2_with fail;have O:w.heap.size<=w.heap.size+1:=Nat.le_succ _;have g0:=H_ (i:=0) k.out (.int .i64 x.kind);have g1:=H_ (i:=1) g0 (.string x.name);have g2:=H_ (i:=2) g1 (.int .i64 x.n);have g3:=H_ (i:=3) g2 (.slice xad x.args.length xcp);have g4:=H_ (i:=4) g3 (.slice none 0 0);have g5:=H_ (i:=5) g4 (.int .i64 (V.length:Nat));simp only [T_,C_,E_]at g5
   obtain⟨y0,y1,y2,y3,y4,y5,_⟩:=J2 g5;refine B_ (v:=.tuple #[clv ⟨x,[],(V.length:Nat)⟩ xad xcp none 0,.int .i64 0]) (by simp [results,Tryz.results15,go_sem,clv,y0,y1,y2,y3,y4,y5]) rfl ?_;rw [C.out];exact⟨xad,xcp,none,0,rfl,⟨N.out.kept (fun b a _=>G7 _ _ _ _ _ _ (by omega)) fun b a _=>(by omega),R_ _,Nat.zero_le _,.nil _,⟨by show(-9223372036854775808:Int)<=(V.length:Nat);omega,by show((V.length:Nat):Int)<=9223372036854775807;omega⟩⟩,E3 _ _ _ _ _ _ a_.out O⟩
theorem goalsE_or {t:Tm} (h:t.chk=0):t.goalsE.2=0\/t.goalsE.2=80:=by
 unfold Tm.goalsE;rw [I_ (by rw [h];decide)];split
 · exact .inl rfl
 · exact .inr rfl
theorem T8.kept {P:Nat->Prop} {B:Nat} {w w':World} {v:Value} {l:List Tm} (h:T8 P B w v l) (d: ∀b,P b\/B<=b->b<w.heap.size->w'.heap[b]?=w.heap[b]?):T8 P B w' v l:=by
 obtain⟨g,cap,xs,m,c,i⟩:=h;exact⟨g,cap,xs,m,F3 c fun g k a=>d g (.inr (c.lt g k).1) a,i.kept (fun b j a=>d b (.inl j) a) fun _ h _=>h⟩
theorem T8.rowP {P Q:Nat->Prop} {B:Nat} {w:World} {g n cap:Nat} {l:List Tm} (h:T8 P B w (.slice (some ⟨g,0,none⟩) n cap) l) (c: ∀b,P b->Q b) (o: ∀b,B<=b->Q b):l.length<=cap/\cap<=maxLen/\M0 w Q (some ⟨g,0,none⟩) l:=by
 obtain⟨g',cap',xs,q,a,m⟩:=h;injection q with e1 e2 e3;injection e1 with e1;injection e1 with e1 _ _;subst e1 e3;rw [e2]at a;obtain⟨i,r,k,d⟩:=B6 a;refine⟨k,d,m.args (Q:=Q) g (o g i) c 0 (fun j p=>?_)⟩;rw [Nat.zero_add];exact World.ownsRow.cellAt (w:=w) (base:=B) (e:=26) (size:=4) (n:=l.length) (xs:=xs) a j (by rw [<-a.1];exact p)
theorem rule_make {T a b:Tm} (c:T.args= [a,b]) (d:T.chk=0) (g:T.two [58,45]=true):T.make=if(a.numT T.vars).head=true/\(b.numT T.vars).goalsE.2=0 then(⟨a.numT T.vars,(b.numT T.vars).body,T.vars.length⟩,0)else(Cl.none,80):=by
 have e1:T.chead=a:=by unfold Tm.chead;rw [J_ g,c];rfl
 have e2:T.cbody=b.body:=by unfold Tm.cbody;rw [J_ g,c];rfl
 have e3:(b.numT T.vars).goalsE.2=0↔b.body.all Tm.goal=true:=by
  have e4:(b.numT T.vars).body.all Tm.goal=b.body.all Tm.goal:=by
   rw [Tm.body_numT,List.all_map];congr 1
   funext t
   exact Tm.numT_goal _ t
  unfold Tm.goalsE;rw [I_ (by rw [Tm.numT_chk _ (Tm.chk_arg d (by rw [c];simp))];decide),e4];by_cases h:b.body.all Tm.goal=true
  · rw [J_ h];exact⟨fun _=>h,fun _=>rfl⟩
  · rw [I_ h];exact⟨fun e=>absurd e (by decide),fun e=>absurd e h⟩
 rw [ix T d,Tm.numT_head,e1,e2,Tm.body_numT];by_cases h:a.head=true/\b.body.all Tm.goal=true
 · rw [J_ h,J_ ⟨h.1,e3.2 h.2⟩]
 · rw [I_ h,I_ fun e=>h ⟨e.1,e3.1 e.2⟩]
set_option maxRecDepth 100000 in
theorem PJ (T a b:Tm) (A:T.args= [a,b]) (ad:Option Addr) (cap:Nat) (w:World) (hM:T.size<=1000000) (hT:Tabs w) (b_:G6 w T ad cap) (hc:T.chk=0) (h2:T.two [58,45]=true):
 Calls Tryz.prog 15 #[tmv T ad cap] w (QZ w T.make.1 T.make.2):=by
 have a_: ∀o1 o2:Obj,Below w.heap.size w ((w.alloc o1).alloc o2):=fun o1 o2=>((F_ _ w).alloc (R_ _) o1).alloc (by simp) o2;have HC:=D_ (fun o1 o2=>D6 T ad cap ((w.alloc o1).alloc o2) hM (hT.on (a_ o1 o2)) (b_.on (a_ o1 o2)));have HB1:=D_ a_;have HV:=D_ (fun W (c:Below w.heap.size w W)=>ref_Vars T ad cap W hM (b_.on c));have hvl:T.vars.length<=1000000:=by have:=T.vars_size;omega
 have HN:=D_ (fun W v B (c:Below w.heap.size w W) (hv:N1 B W v T.vars)=>Pz T.vars (by omega) v B T.size T ad cap W (R_ _) hM (Tm.chk_may hc).1 hv (b_.on c));have hsz:T.size=1+(a.size+(b.size+0)):=by rw [T.size_eq,A];rfl
 have HGO:=D_ (fun (P:Nat->Prop) (n₀:Nat) (hP: ∀b,P b->b<n₀) (u1:Option Addr) (u2:Nat) (W:World) (c:Below w.heap.size w W) h1 h2=>rc_Goals P n₀ hP (b.numT T.vars) u1 u2 W (by rw [Tm.numT_size];omega) (hT.on c) h1 h2);have Y:=D_ (show T.make=if(a.numT T.vars).head=true/\(b.numT T.vars).goalsE.2=0 then(⟨a.numT T.vars,(b.numT T.vars).body,T.vars.length⟩,0)else(Cl.none,80)from rule_make A hc h2);have h_:=D_ (show(b.numT T.vars).goalsE.2=0\/(b.numT T.vars).goalsE.2=80 from goalsE_or (Tm.numT_chk _ (Tm.chk_arg hc (by rw [A];simp))));have Z:=D_ (show(T.numT T.vars).args= [a.numT T.vars,b.numT T.vars]from by rw [Tm.numT_args,A];rfl);have w_:=D_ (show(T.numT T.vars).two [58,45]=true from by rw [Tm.numT_two];exact h2);rw [hc]at HC;clear hT b_ a_ hc h2 A hsz;generalize T.make=mk at*;generalize T.numT T.vars=x at*;generalize a.numT T.vars=a' at*;generalize b.numT T.vars=b' at*;generalize T.vars=V at*;unfold tmv at*;go_enter Tryz.func15,Tryz.ntmps15;go_wp2_with fail;have q1:=A_ (w.alloc (.cells #[.int .i64 T.kind,.string T.name,.int .i64 T.n,.slice ad T.args.length cap] 26)) (.cells #[.int .i64 0,.string ⟨#[]⟩,.int .i64 0,.slice none 0 0,.slice none 0 0,.int .i64 0] 30) w.heap.size (by simp);rw [H2 w _]at q1;have q2:=J5 w (.cells #[.int .i64 T.kind,.string T.name,.int .i64 T.n,.slice ad T.args.length cap] 26) (.cells #[.int .i64 0,.string ⟨#[]⟩,.int .i64 0,.slice none 0 0,.slice none 0 0,.int .i64 0] 30);refine(HC.out _ _).mono ?_;rintro e w1 ⟨rfl,c⟩;have k:=D_ ((HB1.out _ _).trans (c.mono (by simp;omega)));have m_:=D_ (B0 c q1);have HQ2:=D_ (B0 c q2);obtain⟨c0,c1,c2,c3,_⟩:=P1 m_.out;clear c q1 q2 HC HB1;go_wp2_with fail;refine(HV.out _ k.out).mono ?_;rintro e w2 ⟨v,rfl,hv,c⟩;have g_:=D_ (k.out.trans (c.mono k.out.size));have G:=D_ (B0 c m_.out);have J:=D_ (B0 c HQ2.out);have hb2l:w.heap.size+1<w2.heap.size:=(Array.getElem?_eq_some_iff.1 J.out).1;have HO:=D_ hv;obtain⟨vad,vcap,rfl,hvc1,hvc2,_⟩:=hv.view;clear c hv c0 c1 c2 c3 m_ HQ2 HV;obtain⟨c0,c1,c2,c3,_⟩:=P1 G.out;go_wp2_with fail;refine(HN.out _ _ _ g_.out HO.out).mono ?_;rintro e w3 ⟨xad,xcp,rfl,hx,c⟩;have HBc:=D_ (g_.out.trans (c.mono g_.out.size));have hs3:=c.size;have H:=D_ (B0 c G.out);have s_:=D_ (B0 c J.out);have HX:=D_ hx;obtain⟨d0,d1,d2,d3,e0,e1,e2,e3⟩:=P1 H.out;clear c hx c0 c1 c2 c3 G J HN k;unfold tmv;go_upto_region 6 with fail;have g4:=t8 H.out (.int .i64 x.kind) (.string x.name) (.int .i64 x.n) (.slice xad x.args.length xcp);have d: ∀b,b≠w.heap.size->((((w3.setCell ⟨w.heap.size,0,none⟩ (.int .i64 x.kind)).setCell ⟨w.heap.size,1,none⟩ (.string x.name)).setCell ⟨w.heap.size,2,none⟩ (.int .i64 x.n)).setCell ⟨w.heap.size,3,none⟩ (.slice xad x.args.length xcp)).heap[b]?=w3.heap[b]?:=fun b c=>by
  rw [S_ _ _ _ _ (show b≠w.heap.size from c),S_ _ _ _ _ (show b≠w.heap.size from c),S_ _ _ _ _ (show b≠w.heap.size from c),S_ _ _ _ _ (show b≠w.heap.size from c)]
 have t:=(((HBc.out.setCell (p:=⟨w.heap.size,0,none⟩) (R_ _) (.int .i64 x.kind)).setCell (p:=⟨w.heap.size,1,none⟩) (R_ _) (.string x.name)).setCell (p:=⟨w.heap.size,2,none⟩) (R_ _) (.int .i64 x.n)).setCell (p:=⟨w.heap.size,3,none⟩) (R_ _) (.slice xad x.args.length xcp);generalize (((w3.setCell ⟨w.heap.size,0,none⟩ (.int .i64 x.kind)).setCell ⟨w.heap.size,1,none⟩ (.string x.name)).setCell ⟨w.heap.size,2,none⟩ (.int .i64 x.n)).setCell ⟨w.heap.size,3,none⟩ (.slice xad x.args.length xcp)=w4 at*;have HX4:=D_ (HX.out.kept (w':=w4) (Q:=fun b=>w2.heap.size<=b) (fun b c _=>d b (by omega)) fun _ h _=>h);have p_:=D_ ((d (w.heap.size+1) (by omega)).trans s_.out);have E:=D_ g4;have d_:=D_ t;have C:=t.size;obtain⟨c0,c1,c2,c3,_⟩:=P1 g4;clear g4 d t d0 d1 d2 d3 e0 e1 e2 e3 H s_ HX HBc;go_upto_region 7 with fail;generalize z_:w4.alloc (.cells #[.int .i64 x.kind,.string x.name,.int .i64 x.n,.slice xad x.args.length xcp,.slice none 0 0,.int .i64 (V.length:Nat)] 30)=w5;have m:Below w4.heap.size w4 w5:=by rw [<-z_];exact(F_ _ _).alloc (R_ _) _
 have y_:w5.heap[w4.heap.size]?=some (.cells #[.int .i64 x.kind,.string x.name,.int .i64 x.n,.slice xad x.args.length xcp,.slice none 0 0,.int .i64 (V.length:Nat)] 30 (0,0)):=by rw [<-z_];exact H2 w4 _
 have HX5:=D_ (HX4.out.kept (w':=w5) (Q:=fun b=>w2.heap.size<=b/\b<w4.heap.size) (fun b _ q=>m.block b q) fun _ h q=>⟨h,q⟩);have hs5:=m.size;have hl5:=(Array.getElem?_eq_some_iff.1 y_).1;have q_:=D_ (B0 m p_.out);have e_:=D_ (d_.out.trans (m.mono d_.out.size));obtain⟨c0,c1,c2,c3,_⟩:=P1 (B0 m E.out);have n_:=D_ (B0 m E.out);have HT5:=D_ y_;clear z_ m y_ HX4 p_ E d_;have k_:=D_ (fun W=>rc_IsR x.kind x.n x.name xad x.args.length xcp W);rw [show D9 [58,45] x.kind x.name.data.toList x.args.length=true from w_.out]at k_;rw [show x.args.length=2 from by rw [Z.out];rfl]at*;go_wp2_with fail;refine(k_.out _).mono ?_;rintro e w6 ⟨rfl,c⟩;have c_:=HX5.out.args;rw [Z.out]at c_;obtain⟨b0,o,rfl⟩:=c_.addr2 (by simp);have x_:=D_ (c_.kept (w':=w6) (Q:=fun b=>w2.heap.size<=b/\b<w4.heap.size) (fun b _ q=>c.block b q) fun _ h _=>h);have u:=D_ (B0 c q_.out);have j:=D_ (e_.out.trans (c.mono e_.out.size));have HT6:=D_ (B0 c HT5.out);have F:=D_ (B0 c n_.out);have hs6:=c.size;obtain⟨t0,t1,t2,t3,_⟩:=P1 F.out;obtain⟨aad,acap,hbp,x0,x1,x2,x3,O⟩:=x_.out.getP 0 (by simp);obtain⟨bad,bcap,_,z0,z1,z2,z3,R⟩:=x_.out.getP 1 (by simp);simp only [Nat.zero_mul,Nat.one_mul,Nat.add_zero,List.getElem_cons_zero,List.getElem_cons_succ]at x0 x1 x2 x3 z0 z1 z2 z3 O R
 have HA6:=D_ O;have z:=D_ (And.intro x0 (And.intro x1 (And.intro x2 x3)));have s:=D_ (HGO.out (fun b=>w2.heap.size<=b/\b<w4.heap.size) w4.heap.size (fun _ h=>h.2) bad bcap w6 j.out (by omega) R);clear c c0 c1 c2 c3 HX5 q_ e_ HT5 n_ k_ c_ O R HGO x_;rcases h_.out with hg|hg
 · have l_:Hid (mk=if a'.head=true then(⟨a',b'.body,V.length⟩,0)else(Cl.none,80)):=D_ (by
    rw [Y.out];by_cases h:a'.head=true
    · rw [J_ ⟨h,hg⟩,J_ h]
    · rw [I_ fun e=>h e.1,I_ h])
   rw [hg]at s;clear hg h_ Y Z w_;generalize b'.body=L at*;go_wp2_with fail;refine s.out.mono ?_;rintro e w7 ⟨v,rfl,r,c⟩;have N:T8 (fun b=>w2.heap.size<=b/\b<w4.heap.size) w6.heap.size w7 v L:=by
    rcases r with⟨_,_,h⟩|⟨h,_⟩
    · exact h
    · exact absurd rfl h
   obtain⟨g,cp,hvg,_⟩:=N.row;subst hvg;have HR7:=D_ N;have l:=D_ (B0 c u.out);have U:=D_ (j.out.trans (c.mono j.out.size));have t_:=D_ (B0 c HT6.out);have o_:=D_ (B0 c F.out);have HA7:=D_ (HA6.out.kept (w':=w7) (Q:=fun b=>w2.heap.size<=b/\b<w4.heap.size) (fun b _ q=>c.block b q) fun _ h _=>h);have hs7:=c.size;have kb: ∀i,w7.cell? ⟨b0,i,none⟩=w6.cell? ⟨b0,i,none⟩:=fun i=>c.cell (p:=⟨b0,i,none⟩) (show b0<w6.heap.size by omega);have HC7:=D_ (show w7.cell? ⟨b0,o,none⟩=some (.int .i64 a'.kind)/\w7.cell? ⟨b0,o+1,none⟩=some (.string a'.name)/\w7.cell? ⟨b0,o+2,none⟩=some (.int .i64 a'.n)/\w7.cell? ⟨b0,o+3,none⟩=some (.slice aad a'.args.length acap)from⟨(kb _).trans z.out.1,(kb _).trans z.out.2.1,(kb _).trans z.out.2.2.1,(kb _).trans z.out.2.2.2⟩);clear c r N kb t0 t1 t2 t3 x0 x1 x2 x3 z0 z1 z2 z3 s u j HT6 F HA6 z;obtain⟨t0,t1,t2,t3,_⟩:=P1 o_.out;obtain⟨x0,x1,x2,x3⟩:=HC7.out;obtain⟨d0,d1,d2,d3,d4,d5,e0,e1,e2,e3,e4,e5⟩:=J2 t_.out;go_upto_region 13 with fail;have g0:=H_ (i:=0) t_.out (.int .i64 a'.kind);have g1:=H_ (i:=1) g0 (.string a'.name);have g2:=H_ (i:=2) g1 (.int .i64 a'.n);have g3:=H_ (i:=3) g2 (.slice aad a'.args.length acap);have g4:=H_ (i:=4) g3 (.slice (some ⟨g,0,none⟩) L.length cp);simp only [T_,C_,E_]at g4
   have d: ∀b,b≠w4.heap.size->(((((w7.setCell ⟨w4.heap.size,0,none⟩ (.int .i64 a'.kind)).setCell ⟨w4.heap.size,1,none⟩ (.string a'.name)).setCell ⟨w4.heap.size,2,none⟩ (.int .i64 a'.n)).setCell ⟨w4.heap.size,3,none⟩ (.slice aad a'.args.length acap)).setCell ⟨w4.heap.size,4,none⟩ (.slice (some ⟨g,0,none⟩) L.length cp)).heap[b]?=w7.heap[b]?:=fun b c=>by
    rw [S_ _ _ _ _ (show b≠w4.heap.size from c),S_ _ _ _ _ (show b≠w4.heap.size from c),S_ _ _ _ _ (show b≠w4.heap.size from c),S_ _ _ _ _ (show b≠w4.heap.size from c),S_ _ _ _ _ (show b≠w4.heap.size from c)]
   have t:=((((U.out.setCell (p:=⟨w4.heap.size,0,none⟩) C (.int .i64 a'.kind)).setCell (p:=⟨w4.heap.size,1,none⟩) C (.string a'.name)).setCell (p:=⟨w4.heap.size,2,none⟩) C (.int .i64 a'.n)).setCell (p:=⟨w4.heap.size,3,none⟩) C (.slice aad a'.args.length acap)).setCell (p:=⟨w4.heap.size,4,none⟩) C (.slice (some ⟨g,0,none⟩) L.length cp);generalize ((((w7.setCell ⟨w4.heap.size,0,none⟩ (.int .i64 a'.kind)).setCell ⟨w4.heap.size,1,none⟩ (.string a'.name)).setCell ⟨w4.heap.size,2,none⟩ (.int .i64 a'.n)).setCell ⟨w4.heap.size,3,none⟩ (.slice aad a'.args.length acap)).setCell ⟨w4.heap.size,4,none⟩ (.slice (some ⟨g,0,none⟩) L.length cp)=w8 at*;have HR8:=D_ (HR7.out.kept (w':=w8) (fun b h _=>d b (by rcases h with h|h<;>omega)));have u_:=D_ g4;have r_:=D_ ((d (w.heap.size+1) (by omega)).trans l.out);have HA8:=D_ (HA7.out.kept (w':=w8) (Q:=fun b=>w2.heap.size<=b/\b<w4.heap.size) (fun b h _=>d b (by omega)) fun _ h _=>h);have f_:=D_ t;clear g0 g1 g2 g3 g4 d t t0 t1 t2 t3 x0 x1 x2 x3 d0 d1 d2 d3 d4 d5 e0 e1 e2 e3 e4 e5 HR7 l U t_ o_ HA7 HC7;obtain⟨d0,d1,d2,d3,d4,d5,_⟩:=J2 u_.out;have j_:=D_ (fun W=>uz a'.kind a'.n a'.name aad a'.args.length acap W);rw [show V7 a'.kind a'.name.data.toList a'.args.length=a'.goal from rfl]at j_;have HBT:=D_ (fun W=>eQ a'.name (a'.args.length:Nat) W);have i_:=D_ (show a'.head=(a'.goal&&!m4 a'.name.data.toList a'.args.length)from rfl);generalize a'.goal=gg at*;generalize m4 a'.name.data.toList (a'.args.length:Nat)=bb at*;go_wp2_with fail;refine(j_.out _).mono ?_;rintro e w9 ⟨rfl,c⟩;have HR9:=D_ (HR8.out.below c);have v_:=D_ (B0 c u_.out);have y:=D_ (B0 c r_.out);have HA9:=D_ (HA8.out.kept (w':=w9) (Q:=fun b=>w2.heap.size<=b/\b<w4.heap.size) (fun b _ q=>c.block b q) fun _ h _=>h);have X:=D_ (f_.out.trans (c.mono f_.out.size));clear c d0 d1 d2 d3 d4 d5 HR8 u_ r_ HA8 f_ j_;obtain⟨d0,d1,d2,d3,d4,d5,_⟩:=J2 v_.out;obtain⟨z0,z1,z2,z3,z4,z5,f0,f1,f2,f3,f4,f5⟩:=J2 y.out;cases gg with
   |false=>
    have D:=D_ (show mk=(Cl.none,80) by rw [l_.out,i_.out];rfl);go_wp2_with fail;have M:w.heap.size<=w.heap.size+1:=Nat.le_succ _;have g0:=H_ (i:=0) y.out (.int .i64 0);have g1:=H_ (i:=1) g0 (.string ⟨#[]⟩);have g2:=H_ (i:=2) g1 (.int .i64 0);have g3:=H_ (i:=3) g2 (.slice none 0 0);have g4:=H_ (i:=4) g3 (.slice none 0 0);have g5:=H_ (i:=5) g4 (.int .i64 0);simp only [T_,C_,E_]at g5
    obtain⟨y0,y1,y2,y3,y4,y5,_⟩:=J2 g5;refine B_ (v:=.tuple #[.agg #[.int .i64 0,.string ⟨#[]⟩,.int .i64 0,.slice none 0 0,.slice none 0 0,.int .i64 0],.int .i64 80]) (by simp [results,Tryz.results15,go_sem,y0,y1,y2,y3,y4,y5]) rfl ?_;rw [D.out];exact E7 (E3 _ _ _ _ _ _ X.out M)
   | true=>
    go_wp2_with fail;refine(HBT.out _).mono ?_;rintro e wa ⟨rfl,c⟩;have HRa:=D_ (HR9.out.below c);have HTa:=D_ (B0 c v_.out);have I:=D_ (B0 c y.out);have HAa:=D_ (HA9.out.kept (w':=wa) (Q:=fun b=>w2.heap.size<=b/\b<w4.heap.size) (fun b _ q=>c.block b q) fun _ h _=>h);have k:=D_ (X.out.trans (c.mono X.out.size));clear c d0 d1 d2 d3 d4 d5 z0 z1 z2 z3 z4 z5 f0 f1 f2 f3 f4 f5 HR9 v_ y HA9 X HBT;obtain⟨d0,d1,d2,d3,d4,d5,_⟩:=J2 HTa.out;obtain⟨z0,z1,z2,z3,z4,z5,f0,f1,f2,f3,f4,f5⟩:=J2 I.out;cases bb with
    |true=>
     have D:=D_ (show mk=(Cl.none,80) by rw [l_.out,i_.out];rfl);go_wp2_with fail;have M:w.heap.size<=w.heap.size+1:=Nat.le_succ _;have g0:=H_ (i:=0) I.out (.int .i64 0);have g1:=H_ (i:=1) g0 (.string ⟨#[]⟩);have g2:=H_ (i:=2) g1 (.int .i64 0);have g3:=H_ (i:=3) g2 (.slice none 0 0);have g4:=H_ (i:=4) g3 (.slice none 0 0);have g5:=H_ (i:=5) g4 (.int .i64 0);simp only [T_,C_,E_]at g5
     obtain⟨y0,y1,y2,y3,y4,y5,_⟩:=J2 g5;refine B_ (v:=.tuple #[.agg #[.int .i64 0,.string ⟨#[]⟩,.int .i64 0,.slice none 0 0,.slice none 0 0,.int .i64 0],.int .i64 80]) (by simp [results,Tryz.results15,go_sem,y0,y1,y2,y3,y4,y5]) rfl ?_;rw [D.out];exact E7 (E3 _ _ _ _ _ _ k.out M)
    |false=>
     have D:=D_ (show mk=(⟨a',L,(V.length:Nat)⟩,0) by rw [l_.out,i_.out];rfl);go_wp2_with fail;have M:w.heap.size<=w.heap.size+1:=Nat.le_succ _;have g0:=H_ (i:=0) I.out (.int .i64 a'.kind);have g1:=H_ (i:=1) g0 (.string a'.name);have g2:=H_ (i:=2) g1 (.int .i64 a'.n);have g3:=H_ (i:=3) g2 (.slice aad a'.args.length acap);have g4:=H_ (i:=4) g3 (.slice (some ⟨g,0,none⟩) L.length cp);have g5:=H_ (i:=5) g4 (.int .i64 (V.length:Nat));simp only [T_,C_,E_]at g5
     obtain⟨y0,y1,y2,y3,y4,y5,_⟩:=J2 g5;refine B_ (v:=.tuple #[clv ⟨a',L,(V.length:Nat)⟩ aad acap (some ⟨g,0,none⟩) cp,.int .i64 0]) (by simp [results,Tryz.results15,go_sem,clv,y0,y1,y2,y3,y4,y5]) rfl ?_;rw [D.out];obtain⟨hl1,hl2,hta⟩:=(HRa.out.kept (w':=set6 wa (w.heap.size+1) (.int .i64 a'.kind) (.string a'.name) (.int .i64 a'.n) (.slice aad a'.args.length acap) (.slice (some ⟨g,0,none⟩) L.length cp) (.int .i64 (V.length:Nat))) (fun b h _=>G7 _ _ _ _ _ _ (by rcases h with h|h<;>omega))).rowP (Q:=fun b=>w.heap.size<=b) (fun b h=>by omega) (fun b h=>by omega);exact⟨aad,acap,some ⟨g,0,none⟩,cp,rfl,⟨HAa.out.kept (fun b c _=>G7 _ _ _ _ _ _ (by omega)) fun b c _=>(by omega),hl1,hl2,hta,⟨by show(-9223372036854775808:Int)<=(V.length:Nat);omega,by show((V.length:Nat):Int)<=9223372036854775807;omega⟩⟩,E3 _ _ _ _ _ _ k.out M⟩
 · have D:Hid (mk=(Cl.none,80)):=D_ (by rw [Y.out,I_ fun e=>by have h:=e.2;rw [hg]at h;exact absurd h (by decide)]);rw [hg]at s;clear hg h_ Y Z w_;go_wp2_with fail;refine s.out.mono ?_;rintro e w7 ⟨v,rfl,r,c⟩;obtain rfl:v=.slice none 0 0:=by
    rcases r with⟨h,_⟩|⟨_,_,h⟩
    · exact absurd h (by decide)
    · exact h
   have l:=D_ (B0 c u.out);have U:=D_ (j.out.trans (c.mono j.out.size));clear c r t0 t1 t2 t3 x0 x1 x2 x3 z0 z1 z2 z3 s u j;obtain⟨z0,z1,z2,z3,z4,z5,f0,f1,f2,f3,f4,f5⟩:=J2 l.out;go_wp2_with fail;have M:w.heap.size<=w.heap.size+1:=Nat.le_succ _;have g0:=H_ (i:=0) l.out (.int .i64 0);have g1:=H_ (i:=1) g0 (.string ⟨#[]⟩);have g2:=H_ (i:=2) g1 (.int .i64 0);have g3:=H_ (i:=3) g2 (.slice none 0 0);have g4:=H_ (i:=4) g3 (.slice none 0 0);have g5:=H_ (i:=5) g4 (.int .i64 0);simp only [T_,C_,E_]at g5
   obtain⟨y0,y1,y2,y3,y4,y5,_⟩:=J2 g5;refine B_ (v:=.tuple #[.agg #[.int .i64 0,.string ⟨#[]⟩,.int .i64 0,.slice none 0 0,.slice none 0 0,.int .i64 0],.int .i64 80]) (by simp [results,Tryz.results15,go_sem,y0,y1,y2,y3,y4,y5]) rfl ?_;rw [D.out];exact E7 (E3 _ _ _ _ _ _ U.out M)
theorem rc_Make (T:Tm) (ad:Option Addr) (cap:Nat) (w:World) (g:T.size<=1000000) (h:Tabs w) (c:G6 w T ad cap):
 Calls Tryz.prog 15 #[tmv T ad cap] w (QZ w T.make.1 T.make.2):=by
 by_cases hc:T.chk=0
 · cases d:T.two [58,45]with
   |false=>exact rc_MakeOne T ad cap w g h c hc d
   |true=>obtain⟨a,b,i⟩:=Tm.two_args d;exact PJ T a b i ad cap w g h c hc d
 · exact rc_MakeBad T ad cap w g h c hc
theorem xJ {T:Tm} {n:Nat} (h:T.size<=n):T.make.1.head.size<=n+1/\Tm.sizes T.make.1.body<=n:=by
 have g:Cl.none.head.size<=n+1/\Tm.sizes Cl.none.body<=n:=⟨by show(Tm.mk 0 ⟨#[]⟩ 0 []).size<=n+1;rw [show(Tm.mk 0 ⟨#[]⟩ 0 []).size=1 from rfl];omega,Nat.zero_le _⟩;unfold Tm.make;split
 · exact g
 split
 · have i:T.chead.size<=T.size:=by
    unfold Tm.chead;split
    · rename_i d
      obtain⟨a,b,c⟩:=Tm.two_args d;have:=Tm.mem_size (show a∈T.args by rw [c];simp);rw [c];show a.size<=T.size
      rw [T.size_eq];omega
    · exact R_ _
   have d:Tm.sizes T.cbody<=T.size:=by
    unfold Tm.cbody;split
    · rename_i d
      obtain⟨a,b,c⟩:=Tm.two_args d;have:=Tm.mem_size (show b∈T.args by rw [c];simp);rw [c];show Tm.sizes b.body<=T.size
      have:=b.body_sizes;rw [T.size_eq];omega
    · exact Nat.zero_le _
   refine⟨by show(T.chead.numT T.vars).size<=_;rw [Tm.numT_size];omega,?_⟩;show Tm.sizes (T.cbody.map (Tm.numT T.vars))<=n
   have: ∀l:List Tm,Tm.sizes (l.map (Tm.numT T.vars))=Tm.sizes l:=by
    intro l;induction l with
    |nil=>rfl
    |cons a l ih=>rw [List.map_cons,Tm.sizes_cons,Tm.sizes_cons,ih,Tm.numT_size]
   rw [this];omega
 · exact g
set_option maxRecDepth 100000 in
theorem rc_Program (s:ByteArray) (w:World) (hT:TabsT w):
 Calls Tryz.prog 22 #[.string s] w fun e w'=> ∃v,e=.returned (.tuple #[v,.int .i64 (C6 s.data.toList).2.1,.int .i64 (C6 s.data.toList).2.2])/\P3 w.heap.size w' v (C6 s.data.toList).1/\Below w.heap.size w w':=by
 have O:=D_ (rf_Program s w hT);have HT:=D_ hT;clear hT;obtain⟨X,z⟩: ∃X,C6 s.data.toList=X:=⟨_,rfl⟩;rw [z];unfold C6 at z;cases J:q9 s.data.toList with
 |bad o er=>
  rw [J]at z O;have her:=LJ J;have HX:=D_ z;clear z J;go_enter Tryz.func22,Tryz.ntmps22;go_wp2_with fail;refine O.out.mono ?_;rintro e w1 ⟨rfl,Z⟩;have HB:=D_ Z;clear Z;go_wp2_with fail;refine B_ (v:=.tuple #[.slice none 0 0,.int .i64 (o:Nat),.int .i64 er]) (by simp [results,Tryz.results22,go_sem]) rfl ?_;rw [<-HX.out];exact⟨_,rfl,P3.nil _ _,HB.out⟩
 | ok l =>
  rw [J]at z O;have hsm:=rq J;have hll:=Tm.length_le_sizes l;have HX:=D_ z;obtain⟨i0,hi,x_,y_,z_⟩:=info_parts infoCl;clear z J;go_enter Tryz.func22,Tryz.ntmps22;go_wp2_with fail;refine O.out.mono ?_;rintro e w1 ⟨ad1,cap1,rfl,hl1,v_,m_,a_⟩;have HA:=D_ m_.all;have M:=D_ a_;have F:=a_.size;unfold maxLen at v_;clear m_ a_ O;go_wp2_with fail;go_loopw [8,25] (fun lv iv wr=> ∃k:Nat,k<=l.length/\iv=.int .i64 k/\Below w1.heap.size w1 wr/\P3 w1.heap.size wr lv ((l.take k).map (fun t=>t.make.1))/\Hid (∀j (B:j<l.length),j<k->l[j].make.2=0)) (fun _ iv _=>l.length-(intOf iv).toNat)
  case atStart=>exact⟨0,Nat.zero_le _,rfl,F_ _ _,P3.nil _ _,D_ (fun j _ h=>by omega)⟩
  case round=>
   obtain⟨k,hk,rfl,a,y,V⟩:=hrel;by_cases C:k<l.length
   · obtain⟨b,o,rfl⟩:=HA.out.addr (by omega);obtain⟨ad2,cap2,c0,c1,c2,c3,c_⟩:=(HA.out.on a).get k C;have o_:=Tm.mem_size (List.getElem_mem C);have G:(l.take (k+1)).map (fun t=>t.make.1)=(l.take k).map (fun t=>t.make.1)++ [l[k].make.1]:=by rw [U_ C,List.map_append];rfl
     have l_:((l.take k).map (fun t=>t.make.1)).length=k:=by rw [List.length_map,List.length_take];omega
     have W:Hid (l[k].make.2≠0->X=([],(k:Int),80)):=D_ (fun h=>by rw [<-HX.out,gx l 0 [] k C (fun j B=>V.out j (by omega) B) h,Nat.zero_add]);have Y:Hid (l[k].make.2=0-> ∀j (B:j<l.length),j<k+1->l[j].make.2=0):=D_ (fun h j B hjk=>by
      by_cases e:j<k
      · exact V.out j B e
      · obtain rfl:j=k:=by omega
        exact h)
     have H:=D_ (rc_Make l[k] ad2 cap2 (wr.alloc (.cells #[.int .i64 l[k].kind,.string l[k].name,.int .i64 l[k].n,.slice ad2 l[k].args.length cap2] 26)) (by omega) (HT.out.on (M.out.trans ((a.alloc a.size _).mono F))).1 (c_.on ((F_ _ wr).alloc (R_ _) _)));have u:=D_ y;have t_:=D_ G;have R:=D_ l_;unfold tmv at H;clear c_ o_ y G l_ V;generalize (l.take k).map (fun t=>t.make.1)=cs at*;generalize l[k]=x at*;by_cases I:x.make.2=0
     · have u_:=D_ (Y.out I);rw [I]at H;clear I Y W;go_wp2_with fail;refine H.out.mono ?_;rintro e w2 ⟨a5,c5,bd5,bc5,rfl,A,p⟩;generalize x.make.1=c at*;have q:Below wr.heap.size wr w2:=((F_ _ wr).alloc (R_ _) _).trans (p.mono (by simp));have p_:=p.size;rw [Z_]at p_ A;have k_:=A;obtain⟨xs,e_,g_⟩:=u.out.below q;rw [R.out]at e_;obtain⟨xs0,f_,_⟩:=u.out;have d_:=f_.lt;clear f_;have q_:=a.size;have T:=D_ g_;have i_:=D_ k_;have j_:=D_ d_;have b_:=a.trans (q.mono q_);have r:=D_ b_;clear g_ k_ d_ p c0 c1 c2 c3 q A b_ a u H;unfold clv;have N:=D_ (e_.alloc (.cells #[.int .i64 c.head.kind,.string c.head.name,.int .i64 c.head.n,.slice a5 c.head.args.length c5,.slice bd5 c.body.length bc5,.int .i64 c.vars] 30));go_wp2_with (first
        |(at_builtin;refine wpList_append_lies _ rfl _ _ 40 rfl w1.heap.size 30 i0 (.agg #[.int .i64 0,.string ⟨#[]⟩,.int .i64 0,.slice none 0 0,.slice none 0 0,.int .i64 0]) 6 88 Tryz.underlying40 hi x_ y_ z_ rfl (by decide) _ _ _ rfl (N.out.alloc _) ⟨w2.heap.size+1,0,none⟩ 1 1 (H9 c a5 c5 bd5 bc5) rfl rfl ?c1 one6 (by decide) ?c3 ?c4 ?c5 _ rfl ?_))
       case c1=>
        have:=cells6x (w:=w2.alloc (.cells #[.int .i64 c.head.kind,.string c.head.name,.int .i64 c.head.n,.slice a5 c.head.args.length c5,.slice bd5 c.body.length bc5,.int .i64 c.vars] 30)) (c:=c) (ad:=a5) (cap:=c5) (bd:=bd5) (bc:=bc5);rw [Z_]at this;exact this
       case c3=>unfold maxLen;omega
       case c4=>omega
       case c5=>simp;omega
       intro g cap3 w3 D d m hlt3;have w_:=d.size;simp only [Z_]at w_
       have E:P3 w1.heap.size w3 (.slice (some ⟨g,0,none⟩) (k+1) cap3) (cs++ [c]):=by
        refine P3.grown (by rw [R.out];exact N.out.alloc _) (T.out.kept (fun b _ hl=>(A_ _ _ _ (by simp;omega)).trans (A_ _ _ _ hl)) fun _ h _=>h) (by rw [R.out];exact D) d ?_ (i_.out.kept (fun b _ hl=>(A_ _ _ _ (by simp;omega)).trans (A_ _ _ _ hl)) fun b Z _=>⟨by omega,fun e=>by have:=(j_.out b e.symm).2;omega⟩);rcases m with m|m
        · exact .inl m.symm
        · exact .inr ⟨g,rfl,by rw [m];simp⟩
       have n_:Below w1.heap.size w1 w3:=((r.out.alloc r.out.size _).alloc (by simp;have:=r.out.size;omega) _).grown d (by simp;have:=r.out.size;omega) (fun i hi=>(j_.out i hi).1);have s_:=D_ E;clear D d m E e_ N T i_;go_wp2;go_roundw
       case rel=>exact⟨k+1,by omega,by go_num,n_,by rw [t_.out];exact s_.out,u_⟩
       case measure=>simp [intOf];omega
     · have hne:(x.make.2 !=0)=true:=bne_iff_ne.2 I;have U:=D_ (W.out I);clear I Y W;generalize x.make.2=er at*;go_wp2_with fail;refine H.out.mono ?_;rintro e w2 ⟨a5,c5,bd5,bc5,rfl,A,p⟩;have q:Below wr.heap.size wr w2:=((F_ _ wr).alloc (R_ _) _).trans (p.mono (by simp));have h_:=D_ (M.out.trans ((a.trans (q.mono a.size)).mono F));clear c0 c1 c2 c3 p q A a u H;unfold clv;go_wp2_with fail;refine B_ (v:=.tuple #[.slice none 0 0,.int .i64 k,.int .i64 80]) (by simp [results,Tryz.results22,go_sem]) rfl ?_;rw [U.out];exact⟨_,rfl,P3.nil _ _,h_.out.alloc h_.out.size _⟩
   · obtain rfl:k=l.length:=by omega
     have U:Hid (X=(l.map (fun t=>t.make.1),0,0)):=D_ (by rw [<-HX.out,mz l 0 [] (fun j B=>V.out j B B)];rfl);rw [List.take_of_length_le (R_ _)]at y;obtain⟨xs,h1,h2⟩:=y;have HO:Hid (P3 w.heap.size wr u8 (l.map (fun t=>t.make.1))):=D_ ⟨xs,Z3 h1 F,h2.kept (fun _ _ _=>rfl) fun b Z _=>⟨by omega,Z.2⟩⟩;have r_:=D_ (M.out.trans (a.mono F));clear h1 h2 a V;go_wp2_with fail;refine B_ (v:=.tuple #[u8,.int .i64 0,.int .i64 0]) (by simp [results,Tryz.results22,go_sem]) rfl ?_;rw [U.out];exact⟨_,rfl,HO.out,r_.out⟩
theorem ClP.onG {w w':World} {P:Nat->Prop} {c:Cl} {ad bd:Option Addr} {cap bc:Nat} (h:ClP w P c ad cap bd bc) (a:Below w.heap.size w w'):ClP w' P c ad cap bd bc:=h.kept (fun b _ d=>a.block b d) fun _ h _=>h
set_option maxRecDepth 100000 in
theorem rc_SameCls (cs:List Cl) (ad bd:Option Addr) (ca cb:Nat) (w:World) (E:cs.length<=10000000000000) (r: ∀c∈cs,c.head.size<=1000000/\Tm.sizes c.body<=100000) (h:dq w (fun b=>b<w.heap.size) ad cs) (k:dq w (fun b=>b<w.heap.size) bd cs):
 Calls Tryz.prog 23 #[.slice ad cs.length ca,.slice bd cs.length cb] w fun e w'=>e=.returned (.bool true)/\Below w.heap.size w w':=by
 have H:=D_ h;have K':=D_ k;have B:=D_ r;clear h k r;go_enter Tryz.func23,Tryz.ntmps23;go_wp2_with fail;go_loopw [13] (fun iv wr=> ∃k:Nat,k<=cs.length/\iv=.int .i64 k/\Below w.heap.size w wr) (fun iv _=>cs.length-(intOf iv).toNat)
 case atStart=>exact⟨0,Nat.zero_le _,rfl,F_ _ _⟩
 case round=>
  obtain⟨k,J,rfl,d⟩:=hrel;by_cases l:k<cs.length
  · have y:=d.size;obtain⟨b,o,a1,c1,d1,e1,rfl,F,q,x0,x1,x2,x3,x4,x5⟩:=(H.out.kept (w':=wr) (Q:=fun b=>b<w.heap.size) (fun b g _=>d.block b g) fun _ h _=>h) k l;obtain⟨b2,o2,a2,c2,d2,e2,rfl,D,j,y0,y1,y2,y3,y4,y5⟩:=(K'.out.kept (w':=wr) (Q:=fun b=>b<w.heap.size) (fun b g _=>d.block b g) fun _ h _=>h) k l;have s:=B.out cs[k] (List.getElem_mem l);have a:=fun W (m:Below wr.heap.size wr W)=>rc_Same cs[k] cs[k] a1 d1 a2 d2 c1 e1 c2 e2 W _ _ (q.onG m) (j.onG m) s.1 s.2;simp only [Cl.same_true]at a
    unfold clv at a;have A:=D_ a;have z:=D_ d;clear q j a s d;generalize cs[k]=C at*;have u:Hid (∀W,Below wr.heap.size wr W->W.cell? ⟨b,o+k*6,none⟩=some (.int .i64 C.head.kind)/\W.cell? ⟨b,o+k*6+1,none⟩=some (.string C.head.name)/\W.cell? ⟨b,o+k*6+2,none⟩=some (.int .i64 C.head.n)/\W.cell? ⟨b,o+k*6+3,none⟩=some (.slice a1 C.head.args.length c1)/\W.cell? ⟨b,o+k*6+4,none⟩=some (.slice d1 C.body.length e1)/\W.cell? ⟨b,o+k*6+5,none⟩=some (.int .i64 C.vars)/\W.cell? ⟨b2,o2+k*6,none⟩=some (.int .i64 C.head.kind)/\W.cell? ⟨b2,o2+k*6+1,none⟩=some (.string C.head.name)/\W.cell? ⟨b2,o2+k*6+2,none⟩=some (.int .i64 C.head.n)/\W.cell? ⟨b2,o2+k*6+3,none⟩=some (.slice a2 C.head.args.length c2)/\W.cell? ⟨b2,o2+k*6+4,none⟩=some (.slice d2 C.body.length e2)/\W.cell? ⟨b2,o2+k*6+5,none⟩=some (.int .i64 C.vars)):=D_ (fun W v=>by
     have k1: ∀i,W.cell? ⟨b,i,none⟩=wr.cell? ⟨b,i,none⟩:=fun i=>v.cell (p:=⟨b,i,none⟩) (show b<wr.heap.size by omega);have k2: ∀i,W.cell? ⟨b2,i,none⟩=wr.cell? ⟨b2,i,none⟩:=fun i=>v.cell (p:=⟨b2,i,none⟩) (show b2<wr.heap.size by omega);exact⟨(k1 _).trans x0,(k1 _).trans x1,(k1 _).trans x2,(k1 _).trans x3,(k1 _).trans x4,(k1 _).trans x5,(k2 _).trans y0,(k2 _).trans y1,(k2 _).trans y2,(k2 _).trans y3,(k2 _).trans y4,(k2 _).trans y5⟩)
    have bD:Below wr.heap.size wr wr.drew:=(F_ _ wr).drew;have G:(0:Int)<=(k:Int):=by omega
    have I:(k:Int)<(cs.length:Int):=by omega
    clear x0 x1 x2 x3 x4 x5 y0 y1 y2 y3 y4 y5;go_upto_region 6 with fail;go_region_held3 (fun W=>W.cell? ⟨b,o+k*6,none⟩=some (.int .i64 C.head.kind)/\W.cell? ⟨b,o+k*6+1,none⟩=some (.string C.head.name)/\W.cell? ⟨b,o+k*6+2,none⟩=some (.int .i64 C.head.n)/\W.cell? ⟨b,o+k*6+3,none⟩=some (.slice a1 C.head.args.length c1)/\W.cell? ⟨b,o+k*6+4,none⟩=some (.slice d1 C.body.length e1)/\W.cell? ⟨b,o+k*6+5,none⟩=some (.int .i64 C.vars)/\W.cell? ⟨b2,o2+k*6,none⟩=some (.int .i64 C.head.kind)/\W.cell? ⟨b2,o2+k*6+1,none⟩=some (.string C.head.name)/\W.cell? ⟨b2,o2+k*6+2,none⟩=some (.int .i64 C.head.n)/\W.cell? ⟨b2,o2+k*6+3,none⟩=some (.slice a2 C.head.args.length c2)/\W.cell? ⟨b2,o2+k*6+4,none⟩=some (.slice d2 C.body.length e2)/\W.cell? ⟨b2,o2+k*6+5,none⟩=some (.int .i64 C.vars))
     (first|with_reducible exact u.out _ bD|with_reducible exact u.out _ b9)
     (first
       |(go_at_call 18;(refine(A.out _ bD).mono ?_);rintro e w9 ⟨rfl,x⟩;have b9:=bD.trans (x.mono bD.size)))
    have t:=D_ (z.out.trans (b9.mono y));go_wp2_with fail;exact⟨⟨k+1,by omega,by go_num,t.out⟩,by simp [intOf];omega⟩
  · go_wp2_with fail;go_ret;exact⟨rfl,d⟩
theorem Tj: ∀(l:List Tm) (k:Nat) (acc:List Cl) (c:Cl),c∈(q7 l k acc).1->c∈acc\/ ∃t∈l,c=t.make.1
 | [],_,_,_,h=>.inl h
 |t::l,k,acc,c,h=>by
  unfold q7 at h;split at h
  · rcases Tj l _ _ c h with h|⟨u,a,rfl⟩
    · rcases List.mem_append.1 h with h|h
      · exact .inl h
      · rw [List.mem_singleton.1 h];exact .inr ⟨t,.head _,rfl⟩
    · exact .inr ⟨u,.tail _ a,rfl⟩
  · cases h
theorem Sj: ∀(l:List Tm) (k:Nat) (acc:List Cl),(q7 l k acc).1.length<=acc.length+l.length
 | [],_,_=>R_ _
 |t::l,k,acc=>by
  unfold q7;split
  · have:=Sj l (k+1) (acc++ [t.make.1]);rw [P_]at this;simp only [List.length_cons,List.length_nil]at this⊢
    omega
  · exact Nat.zero_le _
theorem lZ (s:List UInt8):(C6 s).1.length<=5000/\ ∀c∈(C6 s).1,c.head.size<=1000000/\Tm.sizes c.body<=100000:=by
 unfold C6;cases a:q9 s with
 |bad o er=>exact⟨Nat.zero_le _,fun c h=>by cases h⟩
 |ok l=>
  have g:=rq a;have d:=Tm.length_le_sizes l;refine⟨by have:=Sj l 0 [];show(q7 l 0 []).1.length<=5000;rw [List.length_nil]at this;omega,fun c hc=>?_⟩;rcases Tj l 0 [] c hc with h|⟨t,b,rfl⟩
  · cases h
  · have:=Tm.mem_size b;obtain⟨i,j⟩:=xJ (n:=5000) (show t.size<=5000 by omega);exact⟨by omega,by omega⟩
set_option maxRecDepth 100000 in
theorem walk_ClausePrograms (s:ByteArray) (w:World) (l:TabsT w):
 Calls Tryz.prog 5 #[.string s] w fun e w'=>e=.returned (.bool true)/\Below w.heap.size w w':=by
 have z:=D_ (cl_live w l);have u:=D_ (fun W (g:Below w.heap.size w W)=>bx s W (l.on g));have A:=D_ (fun W (g:Below w.heap.size w W)=>rc_Program s W (l.on g));obtain⟨D,B⟩:=lZ s.data.toList;have C:=D_ (fun W ad bd ca cb h k=>rc_SameCls (C6 s.data.toList).1 ad bd ca cb W (by omega) B h k);clear l B D;generalize (C6 s.data.toList).2.1=at' at*;generalize (C6 s.data.toList).2.2=er at*;generalize (C6 s.data.toList).1=cs at*;go_enter Tryz.func5,Tryz.ntmps5;go_wp2_with fail;refine z.out.mono ?_;rintro e w1 ⟨rfl,n⟩;have c:=D_ n;clear n z;go_wp2_with fail;refine(u.out _ c.out).mono ?_;rintro e w2 ⟨v2,rfl,q,o⟩;obtain⟨ad1,cap1,rfl,_,_,i⟩:=q.at;have x:Hid (dq w2 (fun b=>b<w2.heap.size) ad1 cs):=D_ (i.kept (fun _ _ _=>rfl) fun b _ h=>h);have d:=D_ (c.out.trans (o.mono c.out.size));clear q i o u;go_wp2_with fail;refine(A.out _ d.out).mono ?_;rintro e w3 ⟨v3,rfl,r,a⟩;obtain⟨ad2,cap2,rfl,_,_,j⟩:=r.at;have y:Hid (dq w3 (fun b=>b<w3.heap.size) ad2 cs):=D_ (j.kept (fun _ _ _=>rfl) fun b _ h=>h);have t:Hid (dq w3 (fun b=>b<w3.heap.size) ad1 cs):=D_ (x.out.kept (fun b g _=>a.block b g) fun b h _=>Nat.lt_of_lt_of_le h a.size);have m:=D_ (d.out.trans (a.mono d.out.size));clear r j a A;go_wp2_with fail;refine(C.out _ _ _ _ _ t.out y.out).mono ?_;rintro e w4 ⟨rfl,p⟩;have v:=D_ (m.out.trans (p.mono m.out.size));clear p;go_wp2_with fail;go_ret;exact⟨rfl,v.out⟩
end Go.Proofs.YtinefdlkajnomaaGreatDoor
