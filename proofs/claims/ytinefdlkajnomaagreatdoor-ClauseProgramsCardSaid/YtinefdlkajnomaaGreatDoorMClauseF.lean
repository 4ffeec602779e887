import Derived.Test.YtinefdlkajnomaaGreatDoorMCl2
namespace Go.Proofs.YtinefdlkajnomaaGreatDoor
open Go.RowKit Go.Maps
set_option maxHeartbeats 20000000
set_option linter.unusedSimpArgs false
def clv (c:Cl) (ad:Option Addr) (cap:Nat) (bd:Option Addr) (bc:Nat):Value:=.agg #[.int .i64 c.head.kind,.string c.head.name,.int .i64 c.head.n,.slice ad c.head.args.length cap,.slice bd c.body.length bc,.int .i64 c.vars]
structure ClO (B:Nat) (w:World) (c:Cl) (ad:Option Addr) (cap:Nat) (bd:Option Addr) (bc:Nat):Prop where
 head:TmP w (fun b=>B<=b) c.head ad cap
 body:Q1 B w (.slice bd c.body.length bc) c.body
 vars:In64 c.vars
def MadeCl (B:Nat) (w:World) (c:Cl) (er:Int) (e:Ending) (w':World):Prop:= ∃ad cap bd bc,e=.returned (.tuple #[clv c ad cap bd bc,.int .i64 er])/\ClO B w' c ad cap bd bc/\Below B w w'
theorem zero_tm {w:World} {P:Nat->Prop}:TmP w P (.mk 0 ⟨#[]⟩ 0 []) none 0:=⟨D1 (x:=0) (by decide) (by decide),D1 (x:=0) (by decide) (by decide),Nat.zero_le _,R_ _,Nat.zero_le _,.nil _⟩
theorem Hq {B:Nat} {w w':World} {er:Int} (a:Below B w w'):MadeCl B w Cl.none er (.returned (.tuple #[.agg #[.int .i64 0,.string ⟨#[]⟩,.int .i64 0,.slice none 0 0,.slice none 0 0,.int .i64 0],.int .i64 er])) w':=
 ⟨none,0,none,0,rfl,⟨zero_tm,Q1.nil _ _,D1 (x:=0) (by decide) (by decide)⟩,a⟩
theorem t8 {W:World} {q:Nat} {a b c d:Value} {t:TypeId} (h:W.heap[q]?=some (.cells #[a,b,c,d] t (0,0))) (x y z u:Value):
 ((((W.setCell ⟨q,0,none⟩ x).setCell ⟨q,1,none⟩ y).setCell ⟨q,2,none⟩ z).setCell ⟨q,3,none⟩ u).heap[q]?=some (.cells #[x,y,z,u] t (0,0)):=by
 have g0:=H_ (i:=0) h x;have g1:=H_ (i:=1) g0 y;have g2:=H_ (i:=2) g1 z;have g3:=H_ (i:=3) g2 u;simpa using g3
theorem J2 {w:World} {q:Nat} {a b c d e f:Value} {t:TypeId} (h:w.heap[q]?=some (.cells #[a,b,c,d,e,f] t (0,0))):
 w.cell? ⟨q,0,none⟩=some a/\w.cell? ⟨q,1,none⟩=some b/\w.cell? ⟨q,2,none⟩=some c/\w.cell? ⟨q,3,none⟩=some d/\w.cell? ⟨q,4,none⟩=some e/\w.cell? ⟨q,5,none⟩=some f/\
  w.frozen? ⟨q,0,none⟩=false/\w.frozen? ⟨q,1,none⟩=false/\w.frozen? ⟨q,2,none⟩=false/\w.frozen? ⟨q,3,none⟩=false/\w.frozen? ⟨q,4,none⟩=false/\w.frozen? ⟨q,5,none⟩=false:=by
 simp [World.cell?,World.frozen?,h]
theorem bodyX (L:List Int) (l:List Tm) (d:Tm):(List.range l.length).map (fun k=>(l.getD k d).numT (I0 L ((l.take (k+1)).flatMap Tm.places)))=l.map (Tm.numT (I0 L (l.flatMap Tm.places))):=by
 apply List.ext_getElem
 · simp
 · intro i g b;have a:i<l.length:=by simpa using b
   have e:l.flatMap Tm.places=(l.take (i+1)).flatMap Tm.places++(l.drop (i+1)).flatMap Tm.places:=by rw [<-List.flatMap_append,List.take_append_drop]
   obtain⟨R,c⟩:=K6 ((l.drop (i+1)).flatMap Tm.places) (I0 L ((l.take (i+1)).flatMap Tm.places));have e2:I0 L (l.flatMap Tm.places)=I0 L ((l.take (i+1)).flatMap Tm.places)++R:=by rw [e,L5,c]
   have e3:l.getD i d=l[i]:=by rw [List.getD_eq_getElem?_getD,List.getElem?_eq_getElem a];rfl
   simp only [List.getElem_map,List.getElem_range]
   rw [e3];refine Eq.trans ?_ (congrArg (fun L'=>Tm.numT L' l[i]) e2.symm);refine(Tm.numT_stay _ R _ fun x hx=>l8 _ _ _ (.inr ?_)).symm;rw [U_ a,List.flatMap_append];exact List.mem_append_right _ (by simpa using hx)
structure MkI (w:World) (C:Array Value) (b5:Nat) (H:Array Value) (W:World):Prop where
 below:Below w.heap.size w W
 q1:W.heap[w.heap.size]?=some (.cells C 26 (0,0))
 q2:W.heap[w.heap.size+1]?=some (.cells #[.int .i64 0,.string ⟨#[]⟩,.int .i64 0,.slice none 0 0,.slice none 0 0,.int .i64 0] 30 (0,0))
 q5:W.heap[b5]?=some (.cells H 26 (0,0))
 lo:w.heap.size+2<=b5
theorem MkI.on {w:World} {C:Array Value} {b5:Nat} {H:Array Value} {W W':World} (h:MkI w C b5 H W) (a:Below W.heap.size W W'):MkI w C b5 H W':=
 ⟨h.below.trans (a.mono h.below.size),B0 a h.q1,B0 a h.q2,B0 a h.q5,h.lo⟩
theorem MkI.turn {w:World} {C:Array Value} {b5 mb:Nat} {H:Array Value} {W W':World} (h:MkI w C b5 H W) (k:b5<mb) (a:V0 (fun j=>j=mb) W W'):MkI w C b5 H W':=by
 have d:=(Array.getElem?_eq_some_iff.1 h.q5).1;have c:=(Array.getElem?_eq_some_iff.1 h.q2).1;have b:=(Array.getElem?_eq_some_iff.1 h.q1).1;have i:=h.lo;exact⟨h.below.trans (a.below (fun j g=>by omega) h.below.size),(a.block _ b (by omega)).trans h.q1,(a.block _ c (by omega)).trans h.q2,(a.block _ d (by omega)).trans h.q5,h.lo⟩
theorem MkI.set {w:World} {C:Array Value} {b5:Nat} {a b c d:Value} {W:World} (h:MkI w C b5 #[a,b,c,d] W) (x y z u:Value):
 MkI w C b5 #[x,y,z,u] ((((W.setCell ⟨b5,0,none⟩ x).setCell ⟨b5,1,none⟩ y).setCell ⟨b5,2,none⟩ z).setCell ⟨b5,3,none⟩ u):=by
 have i:=h.lo;have k: ∀j,j≠b5->((((W.setCell ⟨b5,0,none⟩ x).setCell ⟨b5,1,none⟩ y).setCell ⟨b5,2,none⟩ z).setCell ⟨b5,3,none⟩ u).heap[j]?=W.heap[j]?:=fun j g=>by
  rw [S_ _ _ _ _ (show j≠b5 from g),S_ _ _ _ _ (show j≠b5 from g),S_ _ _ _ _ (show j≠b5 from g),S_ _ _ _ _ (show j≠b5 from g)]
 exact⟨(((h.below.setCell (p:=⟨b5,0,none⟩) (show w.heap.size<=b5 by omega) _).setCell (p:=⟨b5,1,none⟩) (show w.heap.size<=b5 by omega) _).setCell (p:=⟨b5,2,none⟩) (show w.heap.size<=b5 by omega) _).setCell (p:=⟨b5,3,none⟩) (show w.heap.size<=b5 by omega) _,(k _ (by omega)).trans h.q1,(k _ (by omega)).trans h.q2,t8 h.q5 x y z u,h.lo⟩
def set6 (W:World) (q:Nat) (a b c d e f:Value):World:=(((((W.setCell ⟨q,0,none⟩ a).setCell ⟨q,1,none⟩ b).setCell ⟨q,2,none⟩ c).setCell ⟨q,3,none⟩ d).setCell ⟨q,4,none⟩ e).setCell ⟨q,5,none⟩ f
theorem G7 {W:World} {q j:Nat} (a b c d e f:Value) (h:j≠q):(set6 W q a b c d e f).heap[j]?=W.heap[j]?:=by
 unfold set6;rw [S_ _ _ _ _ (show j≠q from h),S_ _ _ _ _ (show j≠q from h),S_ _ _ _ _ (show j≠q from h),S_ _ _ _ _ (show j≠q from h),S_ _ _ _ _ (show j≠q from h),S_ _ _ _ _ (show j≠q from h)]
theorem E3 {n:Nat} {w W:World} {q:Nat} (a b c d e f:Value) (h:Below n w W) (g:n<=q):Below n w (set6 W q a b c d e f):=
 (((((h.setCell (p:=⟨q,0,none⟩) g _).setCell (p:=⟨q,1,none⟩) g _).setCell (p:=⟨q,2,none⟩) g _).setCell (p:=⟨q,3,none⟩) g _).setCell (p:=⟨q,4,none⟩) g _).setCell (p:=⟨q,5,none⟩) g _
theorem made_ok {w W:World} {C H:Array Value} {b5:Nat} {c:Cl} {ad bd:Option Addr} {cap bc:Nat} (h:MkI w C b5 H W) (hx:TmP W (fun b=>w.heap.size+2<=b) c.head ad cap) (j:Q1 (w.heap.size+2) W (.slice bd c.body.length bc) c.body) (l:In64 c.vars) (x0 x1 x2 x3 x4 x5:Value):
 MadeCl w.heap.size w c 0 (.returned (.tuple #[clv c ad cap bd bc,.int .i64 0])) (set6 W (w.heap.size+1) x0 x1 x2 x3 x4 x5):=by
 refine⟨ad,cap,bd,bc,rfl,⟨hx.kept (fun b a _=>G7 _ _ _ _ _ _ (by omega)) fun b a _=>by omega,?_,l⟩,E3 _ _ _ _ _ _ h.below (by omega)⟩;obtain⟨xs,d,i⟩:=j;exact⟨xs,Z3 (F3 d fun g k m=>G7 _ _ _ _ _ _ (by have:=(d.lt g k).1;omega)) (by omega),i.kept (fun b a _=>G7 _ _ _ _ _ _ (by omega)) fun b a _=>⟨by omega,a.2⟩⟩
theorem Q1.low {B B':Nat} {w:World} {v:Value} {ts:List Tm} (h:Q1 B w v ts) (a:B'<=B):Q1 B' w v ts:=by
 obtain⟨xs,d,g⟩:=h;exact⟨xs,Z3 d a,g.kept (fun _ _ _=>rfl) fun b c _=>⟨Nat.le_trans a c.1,c.2⟩⟩
theorem Q1.sl {B:Nat} {w:World} {v:Value} {ts:List Tm} (h:Q1 B w v ts): ∃ad cap,v=.slice ad ts.length cap:=by obtain⟨xs,a,_⟩:=h;exact rz a
theorem ix (T:Tm) (a:T.chk=0):T.make=if T.chead.head=true/\T.cbody.all Tm.goal=true then(⟨T.chead.numT T.vars,T.cbody.map (Tm.numT T.vars),T.vars.length⟩,0)else(Cl.none,80):=by
 unfold Tm.make;rw [I_ (by simpa using a)]
set_option maxRecDepth 100000 in
theorem cl_Make (T:Tm) (ad:Option Addr) (cap:Nat) (w:World) (hM:T.size<=1000000) (hT:Tabs w) (v_:G6 w T ad cap):
 Calls Tryz.prog 14 #[tmv T ad cap] w (MadeCl w.heap.size w T.make.1 T.make.2):=by
 have m_: ∀o1 o2:Obj,Below w.heap.size w ((w.alloc o1).alloc o2):=fun o1 o2=>((F_ _ w).alloc (R_ _) o1).alloc (by simp) o2;have HC:=D_ (fun o1 o2=>uQ T ad cap ((w.alloc o1).alloc o2) hM (hT.on (m_ o1 o2)) (v_.on (m_ o1 o2)));have o_:=D_ m_;have HIN:=D_ v_;clear hT v_ m_;unfold tmv at HC;unfold tmv;have s_:=D_ (ix T);have r_:Hid (T.chk≠0->T.make=(Cl.none,T.chk)):=D_ (fun h=>by unfold Tm.make;rw [J_ h]);obtain⟨MK,u_⟩: ∃MK,T.make=MK:=⟨_,rfl⟩;rw [u_]at s_ r_;rw [u_];clear u_;by_cases hc:T.chk=0
 · rw [hc]at HC;have V:=D_ (s_.out hc);have HPR:=D_ (fun W=>cl_isPairR T.kind T.n T.name ad T.args.length cap W);clear hc;go_enter Tryz.func14,Tryz.ntmps14;go_wp2_with fail;refine(HC.out _ _).mono ?_;rintro e w1 ⟨rfl,s⟩;have HB:=D_ ((o_.out _ _).trans (s.mono (by simp;omega)));have z_:=(s.block w.heap.size (by simp;omega)).trans ((A_ _ _ _ (by simp)).trans (H2 w _));have b_:=(s.block (w.heap.size+1) (by simp)).trans (J5 w _ _);have t_:=D_ z_;have HQ2:=D_ b_;have hs1:=s.size;simp only [Z_]at hs1
   clear s b_;obtain⟨d0,d1,d2,d3,_⟩:=P1 z_;clear z_;go_upto_region 4 with fail;have y:Hid (∀W,Below w1.heap.size w1 W->W.cell? ⟨w.heap.size,0,none⟩=some (.int .i64 T.kind)/\W.cell? ⟨w.heap.size,1,none⟩=some (.string T.name)/\W.cell? ⟨w.heap.size,2,none⟩=some (.int .i64 T.n)/\W.cell? ⟨w.heap.size,3,none⟩=some (.slice ad T.args.length cap)):=D_ (fun W s=>by
    obtain⟨x0,x1,x2,x3,_⟩:=P1 (B0 s t_.out);exact⟨x0,x1,x2,x3⟩)
   have bD:Below w1.heap.size w1 w1.drew:=(F_ _ w1).drew;have bZ:Below w1.heap.size w1 (w1.alloc (.cells #[.int .i64 0,.string ⟨#[]⟩,.int .i64 0,.slice none 0 0] 26)).drew:=((F_ _ w1).alloc (R_ _) _).drew;refine wp_region_noPanic ?_;refine wp_region_held_drew (S:=fun W=>W.cell? ⟨w.heap.size,0,none⟩=some (.int .i64 T.kind)/\W.cell? ⟨w.heap.size,1,none⟩=some (.string T.name)/\W.cell? ⟨w.heap.size,2,none⟩=some (.int .i64 T.n)/\W.cell? ⟨w.heap.size,3,none⟩=some (.slice ad T.args.length cap)) (by kernel_rfl) (y.out _ bD) (fun l=>?_);refine tK 0 (v:=?v1) rfl (.inl ⟨by rfl,?y1⟩) ?r1
   case y1=>(intro w G;(try dsimp only at G);go_simp;try with_reducible rfl)
   (try simp only [Act.put,T_,C_,E_])
   refine tK 1 (v:=?v2) rfl (.inl ⟨by rfl,?y2⟩) ?r2
   case y2=>(intro w G;(try dsimp only at G);go_simp;try with_reducible rfl)
   (try simp only [Act.put,T_,C_,E_])
   refine wpAnyH_ready (rs:= [2,3]) (by kernel_rfl) (by simp) ?_;refine AllReadyH.cons (o:=_) rfl (fun K q=>?_) (AllReadyH.cons (o:=_) rfl (fun K q=>?_) (AllReadyH.nil));rotate_left
   rotate_right
   case' refine_1=>
    go_simp
    refine(HPR.out _).mono ?_;rintro e w3 ⟨rfl,c3⟩;have b3:Below w1.heap.size w1 w3:=bD.trans c3;try go_wp2_with fail
    refine q.out _ _ (y.out _ b3) (fun l=>?_);clear q K;(try simp only [Act.put,T_,C_,E_])
    refine rY 3 rfl fun K q=>?_;go_simp
    refine q.out _ _ (y.out _ (b3.alloc b3.size _)) (fun l=>?_);clear q K;(try simp only [Act.put,T_,C_,E_])
    refine rY 4 rfl fun K q=>?_;go_simp
    refine q.out _ _ (y.out _ (by first|exact b3.alloc b3.size _|exact((((b3.alloc b3.size _).setCell b3.size _).setCell b3.size _).setCell b3.size _).setCell b3.size _)) (fun l=>?_);clear q K;(try simp only [Act.put,T_,C_,E_])
    refine tK 5 (v:=?v3) rfl (.inl ⟨by rfl,?y3⟩) ?r3
    case y3=>(intro w G;(try dsimp only at G);go_simp;try with_reducible rfl)
    (try simp only [Act.put,T_,C_,E_])
    refine wpAnyH_done (by kernel_rfl) ?_ _;refine NoPanic.normal ?_;go_simp
    obtain⟨b5,Y,F5⟩: ∃b5,Hid (w3.heap.size=b5)/\Hid (Below w1.heap.size w1 (w3.alloc (.cells #[.int .i64 T.kind,.string T.name,.int .i64 T.n,.slice ad T.args.length cap] 26))/\(w3.alloc (.cells #[.int .i64 T.kind,.string T.name,.int .i64 T.n,.slice ad T.args.length cap] 26)).heap[b5]?=some (.cells #[.int .i64 T.kind,.string T.name,.int .i64 T.n,.slice ad T.args.length cap] 26 (0,0))/\w1.heap.size<=b5):=⟨_,D_ rfl,D_ ⟨b3.alloc b3.size _,H2 w3 _,b3.size⟩⟩;generalize w3.alloc (.cells #[.int .i64 T.kind,.string T.name,.int .i64 T.n,.slice ad T.args.length cap] 26)=W5 at*;rw [Y.out];clear Y b3 c3 l
   case' refine_2=>
    go_simp
    refine q.out _ _ (y.out _ bZ) (fun l=>?_);clear q K;(try simp only [Act.put,T_,C_,E_])
    refine rY 2 rfl fun K q=>?_;go_simp
    refine(HPR.out _).mono ?_;rintro e w3 ⟨rfl,c3⟩;have b3:Below w1.heap.size w1 w3:=bZ.trans (c3.mono (show w1.heap.size<=(w1.alloc (.cells #[.int .i64 0,.string ⟨#[]⟩,.int .i64 0,.slice none 0 0] 26)).heap.size by rw [Z_];omega));have h5:w3.heap[w1.heap.size]?=some (Obj.cells #[.int .i64 0,.string ⟨#[]⟩,.int .i64 0,.slice none 0 0] 26 (0,0)):=(c3.block w1.heap.size (show w1.heap.size<(w1.alloc (.cells #[.int .i64 0,.string ⟨#[]⟩,.int .i64 0,.slice none 0 0] 26)).heap.size by rw [Z_];omega)).trans (H2 w1 _);have H5:=D_ h5;clear h5;try go_wp2_with fail
    refine q.out _ _ (y.out _ b3) (fun l=>?_);clear q K;(try simp only [Act.put,T_,C_,E_])
    refine rY 4 rfl fun K q=>?_;obtain⟨z0,z1,z2,z3,y0,y1,y2,y3⟩:=P1 H5.out;go_simp
    clear z0 z1 z2 z3 y0 y1 y2 y3;refine q.out _ _ (y.out _ ((((b3.setCell (p:=⟨w1.heap.size,0,none⟩) (R_ _) _).setCell (p:=⟨w1.heap.size,1,none⟩) (R_ _) _).setCell (p:=⟨w1.heap.size,2,none⟩) (R_ _) _).setCell (p:=⟨w1.heap.size,3,none⟩) (R_ _) _)) (fun l=>?_);clear q K;(try simp only [Act.put,T_,C_,E_])
    refine tK 5 (v:=?v4) rfl (.inl ⟨by rfl,?y4⟩) ?r4
    case y4=>(intro w G;(try dsimp only at G);go_simp;try with_reducible rfl)
    (try simp only [Act.put,T_,C_,E_])
    refine wpAnyH_done (by kernel_rfl) ?_ _;refine NoPanic.normal ?_;go_simp
    obtain⟨b5,Y,F5⟩: ∃b5,Hid (w1.heap.size=b5)/\Hid (Below w1.heap.size w1 ((((w3.setCell ⟨w1.heap.size,0,none⟩ (.int .i64 T.kind)).setCell ⟨w1.heap.size,1,none⟩ (.string T.name)).setCell ⟨w1.heap.size,2,none⟩ (.int .i64 T.n)).setCell ⟨w1.heap.size,3,none⟩ (.slice ad T.args.length cap))/\((((w3.setCell ⟨w1.heap.size,0,none⟩ (.int .i64 T.kind)).setCell ⟨w1.heap.size,1,none⟩ (.string T.name)).setCell ⟨w1.heap.size,2,none⟩ (.int .i64 T.n)).setCell ⟨w1.heap.size,3,none⟩ (.slice ad T.args.length cap)).heap[b5]?=some (.cells #[.int .i64 T.kind,.string T.name,.int .i64 T.n,.slice ad T.args.length cap] 26 (0,0))/\w1.heap.size<=b5):=⟨_,D_ rfl,D_ ⟨(((b3.setCell (p:=⟨w1.heap.size,0,none⟩) (R_ _) _).setCell (p:=⟨w1.heap.size,1,none⟩) (R_ _) _).setCell (p:=⟨w1.heap.size,2,none⟩) (R_ _) _).setCell (p:=⟨w1.heap.size,3,none⟩) (R_ _) _,t8 H5.out _ _ _ _,R_ _⟩⟩;generalize ((((w3.setCell ⟨w1.heap.size,0,none⟩ (.int .i64 T.kind)).setCell ⟨w1.heap.size,1,none⟩ (.string T.name)).setCell ⟨w1.heap.size,2,none⟩ (.int .i64 T.n)).setCell ⟨w1.heap.size,3,none⟩ (.slice ad T.args.length cap))=W5 at*;rw [Y.out];clear Y b3 c3 H5 l
   all_goals
    have hI5:MkI w #[.int .i64 T.kind,.string T.name,.int .i64 T.n,.slice ad T.args.length cap] b5 #[.int .i64 T.kind,.string T.name,.int .i64 T.n,.slice ad T.args.length cap] W5:=
     ⟨HB.out.trans (F5.out.1.mono (by omega)),B0 F5.out.1 t_.out,B0 F5.out.1 HQ2.out,F5.out.2.1,by have:=F5.out.2.2;omega⟩
    have t:=D_ hI5;have hmm:= @run_makeMap Tryz.prog;clear F5 hI5 t_ HQ2 y bD bZ d0 d1 d2 d3 HC o_;cases J:T.two [58,45]with
    | true=>
     rw [show D9 [58,45] T.kind T.name.data.toList T.args.length=true from J];obtain⟨a,b,H⟩:=Tm.two_args J;have g:Hid (T.chead=a/\T.cbody=b.body/\T.vars=I0 (I0 [] a.places) b.places):=D_ (by
      refine⟨by unfold Tm.chead;rw [J_ J,H];rfl,by unfold Tm.cbody;rw [J_ J,H];rfl,?_⟩;unfold Tm.vars once;rw [Tm.places_eq,I_ (by rw [(Tm.two_kind J).1];decide),H,<-L5];simp)
     have hsz:T.size=1+(a.size+(b.size+0)):=by rw [T.size_eq,H];rfl
     have x_:T.args.length=2:=by rw [H];rfl
     have e_:=HIN.out.inP.args;rw [H]at e_;obtain⟨b0,o,rfl⟩:=e_.addr2 (by simp);obtain⟨aad,acap,hbn,x0,x1,x2,x3,hxa⟩:=e_.getP 0 (by simp);obtain⟨bad,bcap,_,z0,z1,z2,z3,hxb⟩:=e_.getP 1 (by simp);simp only [Nat.zero_mul,Nat.one_mul,Nat.add_zero,List.getElem_cons_zero,List.getElem_cons_succ]at x0 x1 x2 x3 z0 z1 z2 z3 hxa hxb
     have j_:Hid (∀W,Below w.heap.size w W->(W.cell? ⟨b0,o,none⟩=some (.int .i64 a.kind)/\W.cell? ⟨b0,o+1,none⟩=some (.string a.name)/\W.cell? ⟨b0,o+2,none⟩=some (.int .i64 a.n)/\W.cell? ⟨b0,o+3,none⟩=some (.slice aad a.args.length acap))/\
      (W.cell? ⟨b0,o+4,none⟩=some (.int .i64 b.kind)/\W.cell? ⟨b0,o+4+1,none⟩=some (.string b.name)/\W.cell? ⟨b0,o+4+2,none⟩=some (.int .i64 b.n)/\W.cell? ⟨b0,o+4+3,none⟩=some (.slice bad b.args.length bcap))/\
      TmP W (fun c=>c<w.heap.size) a aad acap/\TmP W (fun c=>c<w.heap.size) b bad bcap):=D_ (fun W s=>by
      have kk: ∀i,W.cell? ⟨b0,i,none⟩=w.cell? ⟨b0,i,none⟩:=fun i=>s.cell (p:=⟨b0,i,none⟩) hbn;exact⟨⟨(kk _).trans x0,(kk _).trans x1,(kk _).trans x2,(kk _).trans x3⟩,⟨(kk _).trans z0,(kk _).trans z1,(kk _).trans z2,(kk _).trans z3⟩,hxa.kept (fun c hc _=>s.block c hc) (fun _ h _=>h),hxb.kept (fun c hc _=>s.block c hc) (fun _ h _=>h)⟩)
     have C:=D_ (fun W=>aX a.kind a.n a.name aad a.args.length acap W);rw [x_]at t;clear x0 x1 x2 x3 z0 z1 z2 z3 hxa hxb e_ H J x_;have HI6:=D_ (t.out.set (.int .i64 a.kind) (.string a.name) (.int .i64 a.n) (.slice aad a.args.length acap));obtain⟨q0,q1,q2,q3,_⟩:=P1 t.out.q1;obtain⟨⟨x0,x1,x2,x3⟩,_⟩:=j_.out W5 t.out.below;obtain⟨z0,z1,z2,z3,y0,y1,y2,y3⟩:=P1 t.out.q5;go_wp2_with fail;clear q0 q1 q2 q3 x0 x1 x2 x3 z0 z1 z2 z3 y0 y1 y2 y3;generalize (((W5.setCell _ _).setCell _ _).setCell _ _).setCell _ _=W6 at*;refine(C.out _).mono ?_;rintro e W7 ⟨rfl,Z⟩;have d:=D_ (HI6.out.on Z);clear Z HI6 t;cases O:(V7 a.kind a.name.data.toList a.args.length&&!m4 a.name.data.toList a.args.length)with
     |false=>
      have m:Hid (MK=(Cl.none,80)):=D_ (by rw [V.out,I_];rintro⟨F,_⟩;rw [g.out.1]at F;exact absurd (O.symm.trans F) (by decide));clear O;obtain⟨z0,z1,z2,z3,z4,z5,y0,y1,y2,y3,y4,y5⟩:=J2 d.out.q2;go_wp2_with fail;refine B_ (v:=.tuple #[.agg #[.int .i64 0,.string ⟨#[]⟩,.int .i64 0,.slice none 0 0,.slice none 0 0,.int .i64 0],.int .i64 80]) (by simp [results,Tryz.results14,go_sem,z0,z1,z2,z3,z4,z5]) rfl ?_;clear z0 z1 z2 z3 z4 z5 y0 y1 y2 y3 y4 y5;rw [m.out];exact Hq (E3 _ _ _ _ _ _ d.out.below (Nat.le_succ _))
     | true=>
      have q_:=D_ (show T.chead.head=true by rw [g.out.1];exact O);clear O C;have hs7:=d.out.below.size;have h_:=(Array.getElem?_eq_some_iff.1 d.out.q5).1;have hlo:=d.out.lo;have r:=D_ (d.out.on ((F_ _ W7).alloc (R_ _) (.map #[] 0)));have E:=D_ (fq w.heap.size W7.heap.size (by omega) a.size a aad acap (W7.alloc (.map #[] 0)) [] (R_ _) (by omega) (by rw [List.length_nil];omega) (j_.out _ r.out.below).2.2.1 (X7.new W7));obtain⟨z0,z1,z2,z3,y0,y1,y2,y3⟩:=P1 d.out.q5;unfold tmv at E;go_wp2_with fail;refine E.out.mono ?_;rintro e W8 ⟨ad8,cap8,rfl,f_,I,a_⟩;clear z0 z1 z2 z3 y0 y1 y2 y3;generalize y_:W7.heap.size=mb at*;have c_:(W7.alloc (.map #[] 0)).heap.size=mb+1:=by rw [Z_,y_]
      have hs8:=I.size;rw [c_]at hs8;have M:=D_ (r.out.turn h_ I);have N:=D_ (f_.kept (Q:=fun c=>mb+1<=c) (fun _ _ _=>rfl) (fun c hc _=>by rw [c_]at hc;exact hc));have U:=D_ a_;clear f_ I a_ r d E;obtain⟨a',X⟩: ∃a',Hid (a.numT (I0 [] a.places)=a'):=⟨_,D_ rfl⟩;rw [X.out]at N⊢;obtain⟨L1,l_⟩: ∃L1,Hid (I0 [] a.places=L1):=⟨_,D_ rfl⟩;rw [l_.out]at U;have hL1s:L1.length<=a.size:=by rw [<-l_.out];have:=U5 a.places [];have:=a.places_size;simp at*;omega
      have u:=D_ (M.out.set (.int .i64 a'.kind) (.string a'.name) (.int .i64 a'.n) (.slice ad8 a'.args.length cap8));have n_:=U.out.at (w':=((((W8.setCell ⟨b5,0,none⟩ (.int .i64 a'.kind)).setCell ⟨b5,1,none⟩ (.string a'.name)).setCell ⟨b5,2,none⟩ (.int .i64 a'.n)).setCell ⟨b5,3,none⟩ (.slice ad8 a'.args.length cap8))) (by
       rw [S_ _ _ _ _ (show mb≠b5 by omega),S_ _ _ _ _ (show mb≠b5 by omega),S_ _ _ _ _ (show mb≠b5 by omega),S_ _ _ _ _ (show mb≠b5 by omega)])
      have g_:=N.out.kept (w':=((((W8.setCell ⟨b5,0,none⟩ (.int .i64 a'.kind)).setCell ⟨b5,1,none⟩ (.string a'.name)).setCell ⟨b5,2,none⟩ (.int .i64 a'.n)).setCell ⟨b5,3,none⟩ (.slice ad8 a'.args.length cap8))) (Q:=fun c=>mb+1<=c) (fun c hc _=>by
       rw [S_ _ _ _ _ (show c≠b5 by omega),S_ _ _ _ _ (show c≠b5 by omega),S_ _ _ _ _ (show c≠b5 by omega),S_ _ _ _ _ (show c≠b5 by omega)]) (fun _ h _=>h)
      have HM9:=D_ n_;have k_:=D_ g_;have hs9:((((W8.setCell ⟨b5,0,none⟩ (.int .i64 a'.kind)).setCell ⟨b5,1,none⟩ (.string a'.name)).setCell ⟨b5,2,none⟩ (.int .i64 a'.n)).setCell ⟨b5,3,none⟩ (.slice ad8 a'.args.length cap8)).heap.size=W8.heap.size:=by simp only [GZ]
      have HS9:=D_ hs9;clear n_ g_ hs9;obtain⟨z0,z1,z2,z3,y0,y1,y2,y3⟩:=P1 M.out.q5;obtain⟨q0,q1,q2,q3,_⟩:=P1 u.out.q1;obtain⟨_,⟨x0,x1,x2,x3⟩,_⟩:=j_.out _ u.out.below;go_wp2_with fail;clear z0 z1 z2 z3 y0 y1 y2 y3 q0 q1 q2 q3 x0 x1 x2 x3;generalize (((W8.setCell _ _).setCell _ _).setCell _ _).setCell _ _=W9 at*;have hs9:=HS9.out;have hbs:=b.body_sizes;have p_:=D_ (cl_gatherN b bad bcap W9 w.heap.size (fun j=>j=mb) (fun k=>(b.body.getD k b).numT (I0 L1 ((b.body.take (k+1)).flatMap Tm.places))) (fun k W=>X7 W mb (I0 L1 ((b.body.take k).flatMap Tm.places))) mb (by omega) (j_.out _ u.out.below).2.2.2 (by omega) (fun j hj=>by omega)
       (fun k A B h hj=>h.at (hj mb rfl)) (by rw [List.take_zero];exact HM9.out)
       (fun k x xad xcap W hx hp d_=>(fq w.heap.size mb (by omega) x.size x xad xcap W _ (R_ _) (by have:=Tm.mem_size (List.mem_of_getElem? hx);omega)
         (by have F:=U5 ((b.body.take k).flatMap Tm.places) L1;have h2:=Tm.places_size' _ (b.body.take k) (R_ _);have h3:=Tm.sizes_take b.body k;have h4:=Tm.mem_size (List.mem_of_getElem? hx);omega) hp d_).mono (by
         rintro e w' ⟨ad',cap',he,F,h2,h3⟩;have hxk:b.body.getD k b=x:=by rw [List.getD_eq_getElem?_getD,hx];rfl
         have hL:I0 L1 ((b.body.take (k+1)).flatMap Tm.places)=I0 (I0 L1 ((b.body.take k).flatMap Tm.places)) x.places:=by rw [List.take_add_one,hx,List.flatMap_append,L5];simp
         try dsimp only
         rw [hxk,hL];exact⟨ad',cap',he,F,h2,h3⟩)))
      unfold tmv at p_;refine p_.out.mono ?_;rintro e W10 ⟨R,hres⟩;have hs10:=R.size;have z:=D_ (u.out.turn (by omega) R);have HX10:=D_ (k_.out.kept (w':=W10) (Q:=fun c=>w.heap.size+2<=c) (fun c hc hl=>R.block c hl (by omega)) (fun c hc _=>by omega));clear R p_ k_ HM9 u U N M;rcases hres with⟨hg,⟨v,rfl,hv⟩,d_⟩|⟨hg,rfl⟩
      · try dsimp only at d_
        rw [List.take_of_length_le (R_ _),b.body_places,<-l_.out,<-g.out.2.2]at d_;rw [bodyX,b.body_places,<-l_.out,<-g.out.2.2]at hv;obtain⟨D,i_,hH⟩:=d_;have w_:Maps.size D=T.vars.length:=hH.size;have hvl:=T.vars_size;obtain⟨vad,vcap,rfl⟩:=hv.sl;rw [List.length_map]at hv⊢;have m:Hid (MK=(⟨a',b.body.map (Tm.numT T.vars),T.vars.length⟩,0)):=D_ (by
         rw [V.out,J_ ⟨q_.out,by rw [g.out.2.1];exact hg⟩,g.out.1,g.out.2.1,<-X.out,g.out.2.2,Tm.numT_more])
        have HV:=D_ (hv.low (B':=w.heap.size+2) (by omega));clear hH hv hg;obtain⟨z0,z1,z2,z3,_⟩:=P1 z.out.q5;obtain⟨p0,p1,p2,p3,p4,p5,y0,y1,y2,y3,y4,y5⟩:=J2 z.out.q2;go_wp2_with (at_len;refine wpList_len_own _ rfl _ 63 rfl 2 2 Tryz.underlying63 _ mb _ D rfl i_ ?_;rw [w_]);refine B_ (v:=.tuple #[.agg #[.int .i64 a'.kind,.string a'.name,.int .i64 a'.n,.slice ad8 a'.args.length cap8,.slice vad b.body.length vcap,.int .i64 T.vars.length],.int .i64 0]) (by simp [results,Tryz.results14,go_sem,p0,p1,p2,p3,p4,p5]) rfl ?_;rw [m.out];have:=made_ok (c:=⟨a',b.body.map (Tm.numT T.vars),T.vars.length⟩) z.out HX10.out (by rw [List.length_map];exact HV.out) (show In64 (T.vars.length:Int)from⟨by omega,by omega⟩) (.int .i64 a'.kind) (.string a'.name) (.int .i64 a'.n) (.slice ad8 a'.args.length cap8) (.slice vad b.body.length vcap) (.int .i64 T.vars.length);unfold clv at this;rw [List.length_map]at this;exact this
      · have m:Hid (MK=(Cl.none,80)):=D_ (by rw [V.out,I_];rintro⟨_,F⟩;rw [g.out.2.1]at F;exact absurd (hg.symm.trans F) (by decide));clear hg;obtain⟨z0,z1,z2,z3,z4,z5,y0,y1,y2,y3,y4,y5⟩:=J2 z.out.q2;go_wp2_with fail;refine B_ (v:=.tuple #[.agg #[.int .i64 0,.string ⟨#[]⟩,.int .i64 0,.slice none 0 0,.slice none 0 0,.int .i64 0],.int .i64 80]) (by simp [results,Tryz.results14,go_sem,z0,z1,z2,z3,z4,z5]) rfl ?_;clear z0 z1 z2 z3 z4 z5 y0 y1 y2 y3 y4 y5;rw [m.out];exact Hq (E3 _ _ _ _ _ _ z.out.below (Nat.le_succ _))
    | false=>
     rw [show D9 [58,45] T.kind T.name.data.toList T.args.length=false from J];have g:Hid (T.chead=T/\T.cbody= []):=D_ ⟨by unfold Tm.chead;rw [I_ (by rw [J];nofun)],by unfold Tm.cbody;rw [I_ (by rw [J];nofun)]⟩;have C:=D_ (fun W=>aX T.kind T.n T.name ad T.args.length cap W);clear J;obtain⟨z0,z1,z2,z3,y0,y1,y2,y3⟩:=P1 t.out.q5;go_wp2_with fail;clear z0 z1 z2 z3 y0 y1 y2 y3;refine(C.out _).mono ?_;rintro e W7 ⟨rfl,Z⟩;have d:=D_ (t.out.on Z);clear Z t;cases O:(V7 T.kind T.name.data.toList T.args.length&&!m4 T.name.data.toList T.args.length)with
     |false=>
      have m:Hid (MK=(Cl.none,80)):=D_ (by rw [V.out,I_];rintro⟨F,_⟩;rw [g.out.1]at F;exact absurd (O.symm.trans F) (by decide));clear O;obtain⟨z0,z1,z2,z3,z4,z5,y0,y1,y2,y3,y4,y5⟩:=J2 d.out.q2;go_wp2_with fail;refine B_ (v:=.tuple #[.agg #[.int .i64 0,.string ⟨#[]⟩,.int .i64 0,.slice none 0 0,.slice none 0 0,.int .i64 0],.int .i64 80]) (by simp [results,Tryz.results14,go_sem,z0,z1,z2,z3,z4,z5]) rfl ?_;clear z0 z1 z2 z3 z4 z5 y0 y1 y2 y3 y4 y5;rw [m.out];exact Hq (E3 _ _ _ _ _ _ d.out.below (Nat.le_succ _))
     | true=>
      have q_:=D_ (show T.chead.head=true by rw [g.out.1];exact O);clear O C;have hs7:=d.out.below.size;have h_:=(Array.getElem?_eq_some_iff.1 d.out.q5).1;have hlo:=d.out.lo;have r:=D_ (d.out.on ((F_ _ W7).alloc (R_ _) (.map #[] 0)));have E:=D_ (fq w.heap.size W7.heap.size (by omega) T.size T ad cap (W7.alloc (.map #[] 0)) [] (R_ _) (by omega) (by rw [List.length_nil];omega) (HIN.out.inP.kept (fun c hc _=>r.out.below.block c hc) (fun _ h _=>h)) (X7.new W7));obtain⟨z0,z1,z2,z3,y0,y1,y2,y3⟩:=P1 d.out.q5;unfold tmv at E;go_wp2_with fail;refine E.out.mono ?_;rintro e W8 ⟨ad8,cap8,rfl,f_,I,a_⟩;clear z0 z1 z2 z3 y0 y1 y2 y3;generalize y_:W7.heap.size=mb at*;have c_:(W7.alloc (.map #[] 0)).heap.size=mb+1:=by rw [Z_,y_]
      have hs8:=I.size;rw [c_]at hs8;have M:=D_ (r.out.turn h_ I);have N:=D_ (f_.kept (Q:=fun c=>mb+1<=c) (fun _ _ _=>rfl) (fun c hc _=>by rw [c_]at hc;exact hc));have U:=D_ a_;clear f_ I a_ r d E;obtain⟨a',X⟩: ∃a',Hid (T.numT (I0 [] T.places)=a'):=⟨_,D_ rfl⟩;rw [X.out]at N⊢;have u:=D_ (M.out.set (.int .i64 a'.kind) (.string a'.name) (.int .i64 a'.n) (.slice ad8 a'.args.length cap8));have n_:=U.out.at (w':=((((W8.setCell ⟨b5,0,none⟩ (.int .i64 a'.kind)).setCell ⟨b5,1,none⟩ (.string a'.name)).setCell ⟨b5,2,none⟩ (.int .i64 a'.n)).setCell ⟨b5,3,none⟩ (.slice ad8 a'.args.length cap8))) (by
       rw [S_ _ _ _ _ (show mb≠b5 by omega),S_ _ _ _ _ (show mb≠b5 by omega),S_ _ _ _ _ (show mb≠b5 by omega),S_ _ _ _ _ (show mb≠b5 by omega)])
      have g_:=N.out.kept (w':=((((W8.setCell ⟨b5,0,none⟩ (.int .i64 a'.kind)).setCell ⟨b5,1,none⟩ (.string a'.name)).setCell ⟨b5,2,none⟩ (.int .i64 a'.n)).setCell ⟨b5,3,none⟩ (.slice ad8 a'.args.length cap8))) (Q:=fun c=>w.heap.size+2<=c) (fun c hc _=>by
       rw [S_ _ _ _ _ (show c≠b5 by omega),S_ _ _ _ _ (show c≠b5 by omega),S_ _ _ _ _ (show c≠b5 by omega),S_ _ _ _ _ (show c≠b5 by omega)]) (fun c h _=>by omega)
      obtain⟨D,i_,hH⟩:=n_;have w_:Maps.size D=T.vars.length:=hH.size;have hvl:=T.vars_size;have k_:=D_ g_;have m:Hid (MK=(⟨a',[],T.vars.length⟩,0)):=D_ (by
       rw [V.out,J_ ⟨q_.out,by rw [g.out.2];rfl⟩,g.out.1,g.out.2,<-X.out];rfl)
      clear g_ hH;obtain⟨z0,z1,z2,z3,y0,y1,y2,y3⟩:=P1 M.out.q5;obtain⟨p0,p1,p2,p3,p4,p5,u0,u1,u2,u3,u4,u5⟩:=J2 u.out.q2;go_wp2_with (at_len;refine wpList_len_own _ rfl _ 63 rfl 2 2 Tryz.underlying63 _ mb _ D rfl i_ ?_;rw [w_]);refine B_ (v:=.tuple #[.agg #[.int .i64 a'.kind,.string a'.name,.int .i64 a'.n,.slice ad8 a'.args.length cap8,.slice none 0 0,.int .i64 T.vars.length],.int .i64 0]) (by simp [results,Tryz.results14,go_sem,p0,p1,p2,p3,p4,p5]) rfl ?_;rw [m.out];exact made_ok (c:=⟨a',[],T.vars.length⟩) u.out k_.out (Q1.nil _ _) (show In64 (T.vars.length:Int)from⟨by omega,by omega⟩) (.int .i64 a'.kind) (.string a'.name) (.int .i64 a'.n) (.slice ad8 a'.args.length cap8) (.slice none 0 0) (.int .i64 T.vars.length)
 · have m:=D_ (r_.out hc);have hc2:(T.chk !=0)=true:=bne_iff_ne.2 hc;generalize T.chk=ck at*;clear hc s_ r_;go_enter Tryz.func14,Tryz.ntmps14;go_wp2_with fail;refine(HC.out _ _).mono ?_;rintro e w1 ⟨rfl,s⟩;have HB:=D_ ((o_.out _ _).trans (s.mono (by simp;omega)));have b_:=(s.block (w.heap.size+1) (by simp)).trans (J5 w _ _);clear s;obtain⟨z0,z1,z2,z3,z4,z5,y0,y1,y2,y3,y4,y5⟩:=J2 b_;clear b_;go_wp2_with fail;refine B_ (v:=.tuple #[.agg #[.int .i64 0,.string ⟨#[]⟩,.int .i64 0,.slice none 0 0,.slice none 0 0,.int .i64 0],.int .i64 ck]) (by simp [results,Tryz.results14,go_sem,z0,z1,z2,z3,z4,z5]) rfl ?_;clear z0 z1 z2 z3 z4 z5 y0 y1 y2 y3 y4 y5;rw [m.out];exact Hq (E3 _ _ _ _ _ _ HB.out (Nat.le_succ _))
end Go.Proofs.YtinefdlkajnomaaGreatDoor
