import Derived.Test.YtinefdlkajnomaaGreatDoorMTermMk
import Derived.Test.YtinefdlkajnomaaGreatDoorMTermOpen
import Derived.Test.YtinefdlkajnomaaGreatDoorMIterAll
import Derived.Laws.Cover3
namespace Go.Proofs.YtinefdlkajnomaaGreatDoor
open Go.RowKit
set_option maxHeartbeats 20000000
theorem run_eql_nil (w:World) (a:Option Addr) (l c:Nat):(binOp .eql 24 (.slice a l c) (.slice none 0 0)).run Tryz.prog w=.ok (.bool a.isNone) w:=by
 simp [binOp,run_equal_slice_nil w _ _ a l c Tryz.underlying24]
attribute [local go_sem] run_eql_nil
def JX (w:World) (n:Nat) (xs:List Value) (e:Ending) (w':World):Prop:=
 ∃ad cap,e=.returned (.slice ad n cap)/\n<=cap/\cap<=maxLen/\Below w.heap.size w w'/\(0<n-> ∃g,ad=some ⟨g,0,none⟩/\w.heap.size<=g/\w'.ownsRow w.heap.size 26 4 (.slice (some ⟨g,0,none⟩) n cap) n xs)
set_option maxRecDepth 100000 in
theorem clone_nil (w:World) (cap:Nat):Calls Tryz.prog 59 #[.slice none 0 cap] w (JX w 0 []):=by
 go_enter Tryz.func59,Tryz.ntmps59;go_wp2_with fail;go_ret;exact⟨none,0,rfl,R_ _,Nat.zero_le _,F_ _ _,fun h=>by cases h⟩
set_option maxRecDepth 100000 in
theorem clone_some (w:World) (b o n cap:Nat) (xs:List Value) (r:xs.length=n*4) (hc: ∀j u,xs[j]?=some u->w.cell? ⟨b,o+j,none⟩=some u) (i: ∀u∈xs,u.oneCell'=true) (G:0<n) (N:n<=1000000):
 Calls Tryz.prog 59 #[.slice (some ⟨b,o,none⟩) n cap] w (JX w n xs):=by
 obtain⟨i0,E,s,t,v⟩:=info_parts Qx;have z:Hid (∀o1:Obj,∀j u,xs[j]?=some u->(w.alloc o1).cell? ((⟨b,o,none⟩:Addr).add j)=some u):=D_ (fun o1 j u H=>by
  have h:=hc j u H;rw [U8];exact(((F_ w.heap.size w).alloc (R_ _) o1).cell (p:=⟨b,o+j,none⟩) (L_ w ⟨b,o+j,none⟩ h)).trans h)
 have x:=D_ i;have d:=World.ownsRow_lit (base:=w.heap.size) (e:=26) (size:=4) w #[] 0 (R_ _) (Nat.zero_le _) rfl;have y:=D_ ((F_ w.heap.size w).alloc (R_ _) (.cells #[] 26));have B:=D_ d;have A:=D_ r;clear hc i d r;go_enter Tryz.func59,Tryz.ntmps59;go_wp2_with (at_builtin;refine wpList_append_lies _ rfl _ _ 24 rfl w.heap.size 26 i0 (.agg #[.int .i64 0,.string ⟨#[]⟩,.int .i64 0,.slice none 0 0]) 4 56 Tryz.underlying24 E s t v rfl (by decide) _ 0 [] rfl B.out ⟨b,o,none⟩ n cap xs rfl A.out (z.out _) x.out G (by unfold maxLen;omega) (by omega) (by simp) (w.heap.size+1) (by simp) ?_);intro g cap' w' c a I J;have q:Below w.heap.size w w':=y.out.grown a (by simp) (fun k F=>by cases F;exact R_ _);have m:=D_ c;have l:=D_ q;clear c a q;go_wp2_with fail;go_ret;obtain⟨i,M,C,D⟩:=B6 m.out;exact⟨_,_,rfl,C,D,l.out,fun _=>⟨g,rfl,i,m.out⟩⟩
set_option maxRecDepth 100000 in
theorem clone_zero (w:World) (a:Addr) (cap:Nat):Calls Tryz.prog 59 #[.slice (some a) 0 cap] w (JX w 0 []):=by
 have b:=D_ ((F_ w.heap.size w).alloc (R_ _) (.cells #[] 26));go_enter Tryz.func59,Tryz.ntmps59;go_wp2_with fail;go_ret;exact⟨_,_,rfl,R_ _,Nat.zero_le _,b.out,fun h=>by cases h⟩
end Go.Proofs.YtinefdlkajnomaaGreatDoor
namespace Go.Proofs.YtinefdlkajnomaaGreatDoor
open Go.RowKit
set_option maxHeartbeats 20000000
structure PE where
 g:Nat
 cap:Nat
 ts:List Tm
def PE.v (e:PE):Value:=.slice (some ⟨e.g,0,none⟩) e.ts.length e.cap
def shn (c:Int) (k n:Int):Int:=if k=1 then add64 n c else n
theorem shn_in {c k n:Int} (h:In64 n):In64 (shn c k n):=by
 unfold shn;split
 · exact wrap64_in _
 · exact h
inductive Shf (c:Int) (W:World) (D:Nat->Prop) (R:List PE):Option Addr->List Tm->Prop where
 |nil (ad:Option Addr):Shf c W D R ad []
 |wait (e:PE):e∈R->Shf c W D R (some ⟨e.g,0,none⟩) e.ts
 |cons (g o:Nat) (k n:Int) (nm:ByteArray) (l ts:List Tm) (ad:Option Addr) (cap:Nat):D g->
  W.cell? ⟨g,o,none⟩=some (.int .i64 k)->W.cell? ⟨g,o+1,none⟩=some (.string nm)->W.cell? ⟨g,o+2,none⟩=some (.int .i64 (shn c k n))->W.cell? ⟨g,o+3,none⟩=some (.slice ad l.length cap)->
  In64 k->In64 n->nm.size<=maxLen->l.length<=cap->cap<=maxLen->
  Shf c W D R ad l->Shf c W D R (some ⟨g,o+4,none⟩) ts->Shf c W D R (some ⟨g,o,none⟩) (.mk k nm n l::ts)
theorem Shf.mono {c:Int} {W W':World} {D D':Nat->Prop} {R R':List PE} {ad:Option Addr} {ts:List Tm} (h:Shf c W D R ad ts) (j: ∀b,D b->b<W.heap.size->W'.heap[b]?=W.heap[b]?) (d: ∀b,D b->D' b) (i: ∀e∈R,Shf c W' D' R' (some ⟨e.g,0,none⟩) e.ts):Shf c W' D' R' ad ts:=by
 have keep: ∀(b o:Nat) (v:Value),D b->W.cell? ⟨b,o,none⟩=some v->W'.cell? ⟨b,o,none⟩=some v:=fun b o v m hc=>
  (World.cell?_of_block (w:=W) (w':=W') (a:=⟨b,o,none⟩) (j b m (L_ W ⟨b,o,none⟩ hc))).trans hc
 induction h with
 |nil ad=>exact .nil ad
 |wait e he=>exact i e he
 |cons g o k n nm l ts ad cap hg c0 c1 c2 c3 h1 h2 h3 h4 h5 _ _ ih1 ih2=>exact .cons g o k n nm l ts ad cap (d g hg) (keep _ _ _ hg c0) (keep _ _ _ hg c1) (keep _ _ _ hg c2) (keep _ _ _ hg c3) h1 h2 h3 h4 h5 ih1 ih2
theorem Shf.done {c:Int} {W:World} {D P:Nat->Prop} {ad:Option Addr} {ts:List Tm} (h:Shf c W D [] ad ts) (a: ∀b,D b->P b):M0 W P ad (ts.map (Tm.shift c)):=by
 induction h with
 |nil ad=>exact .nil ad
 |wait e he=>cases he
 |cons g o k n nm l ts ad cap hg c0 c1 c2 c3 h1 h2 h3 h4 h5 _ _ ih1 ih2=>
  rw [List.map_cons,Tm.shift_eq];exact .cons g o k _ nm _ _ ad cap (a g hg) c0 c1 c2 (by rw [List.length_map];exact c3) h1 (shn_in h2) h3 (by rw [List.length_map];exact h4) h5 ih1 ih2
def IQ (B:Nat) (W:World) (e:PE):Prop:= ∃xs,W.ownsRow B 26 4 e.v e.ts.length xs/\H4 W (fun b=>b<B) xs e.ts
theorem IQ.lt {B:Nat} {W:World} {e:PE} (h:IQ B W e):B<=e.g/\e.g<W.heap.size:=by obtain⟨xs,a,_⟩:=h;exact a.lt e.g rfl
theorem IQ.kept {B:Nat} {W W':World} {e:PE} (h:IQ B W e) (d:W'.heap[e.g]?=W.heap[e.g]?) (i: ∀b,b<B->b<W.heap.size->W'.heap[b]?=W.heap[b]?):IQ B W' e:=by
 obtain⟨xs,a,c⟩:=h;exact⟨xs,I1 a d,c.kept i fun _ h _=>h⟩
def xz (c:Int) (t:Tm) (ad:Option Addr) (cap:Nat):List Value:= [.int .i64 t.kind,.string t.name,.int .i64 (shn c t.kind t.n),.slice ad t.args.length cap]
structure TmBs (t:Tm) (cap:Nat):Prop where
 kind:In64 t.kind
 n:In64 t.n
 name:t.name.size<=maxLen
 len:t.args.length<=cap
 cap:cap<=maxLen
inductive oj (c:Int) (W:World) (D:Nat->Prop) (R:List PE):List Value->List Tm->Prop where
 |nil:oj c W D R [] []
 |snoc (t:Tm) (ad:Option Addr) (cap:Nat) (xs:List Value) (ts:List Tm):TmBs t cap->Shf c W D R ad t.args->oj c W D R xs ts->oj c W D R (xs++xz c t ad cap) (ts++ [t])
theorem oj.mono {c:Int} {W W':World} {D D':Nat->Prop} {R R':List PE} {xs:List Value} {ts:List Tm} (h:oj c W D R xs ts) (i: ∀b,D b->b<W.heap.size->W'.heap[b]?=W.heap[b]?) (a: ∀b,D b->D' b) (d: ∀e∈R,Shf c W' D' R' (some ⟨e.g,0,none⟩) e.ts):oj c W' D' R' xs ts:=by
 induction h with
 |nil=>exact .nil
 |snoc t ad cap xs ts hb hs _ ih=>exact .snoc t ad cap xs ts hb (hs.mono i a d) ih
theorem oj.length {c:Int} {W:World} {D:Nat->Prop} {R:List PE} {xs:List Value} {ts:List Tm} (h:oj c W D R xs ts):xs.length=ts.length*4:=by
 induction h with
 |nil=>rfl
 |snoc t ad cap xs ts _ _ _ ih=>rw [P_,P_,ih];show _+4=(_+1)*4;omega
theorem Shf.rows {c:Int} {W:World} {D:Nat->Prop} {R:List PE} {xs:List Value} {ts:List Tm} (h:oj c W D R xs ts) (g:Nat) (b:D g): ∀(us:List Tm),Shf c W D R (some ⟨g,xs.length,none⟩) us->(∀j,j<xs.length->W.cell? ⟨g,j,none⟩=xs[j]?)->Shf c W D R (some ⟨g,0,none⟩) (ts++us):=by
 induction h with
 |nil=>intro us a _;exact a
 | snoc t ad cap xs ts hb hs _ ih=>
  intro us a hc;have k:(xs++xz c t ad cap).length=xs.length+4:=by rw [P_];rfl
  have at4: ∀i,i<4->W.cell? ⟨g,xs.length+i,none⟩=(xz c t ad cap)[i]?:=fun i l=>by
   rw [hc (xs.length+i) (by omega),List.getElem?_append_right (by omega),Nat.add_sub_cancel_left]
  rw [List.append_assoc];refine ih _ ?_ (fun j d=>by rw [hc j (by omega),List.getElem?_append_left d]);show Shf c W D R (some ⟨g,xs.length,none⟩) (t::us)
  rw [t.eta];rw [k]at a;exact .cons g xs.length t.kind t.n t.name t.args us ad cap b (at4 0 (by omega)) (at4 1 (by omega)) (at4 2 (by omega)) (at4 3 (by omega)) hb.kind hb.n hb.name hb.len hb.cap hs a
theorem M0.cells {w:World} {P:Nat->Prop} {ad:Option Addr} {ts:List Tm} (h:M0 w P ad ts): ∃xs,H4 w P xs ts/\(∀u∈xs,u.oneCell'=true)/\ ∀b o,ad=some ⟨b,o,none⟩-> ∀j u,xs[j]?=some u->w.cell? ⟨b,o+j,none⟩=some u:=by
 induction h with
 |nil ad=>exact⟨[],.nil,(fun u c=>by cases c),(fun b o _ j u a=>by simp at a)⟩
 |cons b o k n nm l ts ad cap hp c0 c1 c2 c3 hk hn hm hl hc ha _ ih1 ih2=>
  obtain⟨xs,hx,i,m⟩:=ih2;refine⟨D0 (.mk k nm n l) ad cap++xs,.cons _ ad cap xs ts ⟨hk,hn,hm,hl,hc,ha⟩ hx,?_,?_⟩
  · intro u c;rcases List.mem_append.1 c with c|c
    · simp only [D0,List.mem_cons,List.not_mem_nil,or_false]at c
      rcases c with rfl|rfl|rfl|rfl<;>rfl
    · exact i u c
  · intro b' o' e j u a;cases e
    by_cases d:j<4
    · rw [List.getElem?_append_left (by exact d)]at a;match j,d,a with
      |0,_,a=>simp [D0,Tm.kind]at a;subst a;exact c0
      |1,_,a=>simp [D0,Tm.name]at a;subst a;exact c1
      |2,_,a=>simp [D0,Tm.n]at a;subst a;exact c2
      |3,_,a=>simp [D0,Tm.args]at a;subst a;exact c3
    · rw [List.getElem?_append_right (by show 4<=j;omega)]at a;have g:=m b (o+4) rfl (j-4) u a;rw [show o+4+(j-4)=o+j by omega]at g;exact g
theorem H4.head {w:World} {P:Nat->Prop} {xs:List Value} {t:Tm} {ts:List Tm} (h:H4 w P xs (t::ts)): ∃ad cap ys,xs=D0 t ad cap++ys/\TmP w P t ad cap/\H4 w P ys ts:=by
 cases h with
 |cons _ ad cap ys _ ht hr=>exact⟨ad,cap,ys,rfl,ht,hr⟩
def sX:List PE->Nat
 | []=>0
 |e::R=>Tm.sizes e.ts+sX R
structure OIn (c:Int) (w2:World) (q:Nat) (T:Tm) (D:Nat->Prop) (R:List PE) (s scap:Nat) (W:World):Prop where
 below:Below w2.heap.size w2 W
 stack:W.ownsRow w2.heap.size 24 1 (.slice (some ⟨s,0,none⟩) R.length scap) R.length (R.map PE.v).reverse
 rows: ∀e∈R,IQ w2.heap.size W e/\0<e.ts.length/\ ¬D e.g/\e.g≠s
 nodup:(R.map PE.g).Nodup
 sfree: ¬D s
 dlow: ∀b,D b->w2.heap.size<=b/\b<W.heap.size
 root:Shf c W D R (some ⟨q,0,none⟩) [T]
 size:sX R<=T.size
 free: ∀b,D b-> ∀o,W.frozen? ⟨b,o,none⟩=false
structure IIn (c:Int) (w2:World) (T:Tm) (D:Nat->Prop) (R0:List PE) (W1:World) (e:PE) (i:Nat) (R:List PE) (s scap:Nat) (W:World):Prop where
 below:Below w2.heap.size w2 W
 stack:W.ownsRow w2.heap.size 24 1 (.slice (some ⟨s,0,none⟩) R.length scap) R.length (R.map PE.v).reverse
 rows: ∀x∈R,IQ w2.heap.size W x/\0<x.ts.length/\ ¬D x.g/\x.g≠s/\x.g≠e.g
 nodup:(R.map PE.g).Nodup
 sfree: ¬D s/\s≠e.g
 dkeep: ∀b,D b->W.heap[b]?=W1.heap[b]?
 sub: ∀x∈R0,x∈R
 row: ∃ys zs,W.ownsRow w2.heap.size 26 4 e.v e.ts.length (ys++zs)/\oj c W D R ys (e.ts.take i)/\H4 W (fun b=>b<w2.heap.size) zs (e.ts.drop i)
 size:sX R+Tm.sizes (e.ts.drop i)+i<=sX R0+Tm.sizes e.ts
 low:W1.heap.size<=W.heap.size
theorem OIn.pop {c:Int} {w2:World} {q:Nat} {T:Tm} {D:Nat->Prop} {e:PE} {R:List PE} {s scap:Nat} {W:World} (h:OIn c w2 q T D (e::R) s scap W):IIn c w2 T D R W e 0 R s scap W:=by
 have a:=h.nodup;rw [List.map_cons,List.nodup_cons]at a;refine⟨h.below,?_,fun x hx=>⟨(h.rows x (.tail _ hx)).1,(h.rows x (.tail _ hx)).2.1,(h.rows x (.tail _ hx)).2.2.1,(h.rows x (.tail _ hx)).2.2.2,fun e'=>a.1 (by rw [<-e'];exact List.mem_map_of_mem hx)⟩,a.2,⟨h.sfree,fun e'=>(h.rows e (.head _)).2.2.2 e'.symm⟩,fun _ _=>rfl,fun x hx=>hx,?_,R_ _,R_ _⟩
 · have:=h.stack;rw [List.map_cons,List.reverse_cons]at this;exact ownsRow_pop this
 · obtain⟨xs,b,d⟩:=(h.rows e (.head _)).1;exact⟨[],xs,b,.nil,d⟩
theorem IIn.next {c:Int} {w2:World} {T:Tm} {D:Nat->Prop} {R0:List PE} {W1:World} {e:PE} {i:Nat} {R:List PE} {s scap:Nat} {W Wd:World} (h:IIn c w2 T D R0 W1 e i R s scap W) (hD: ¬D e.g) (A: ∀b,D b->w2.heap.size<=b/\b<W1.heap.size)
 {t:Tm} {ys zs:List Value} (H:i<e.ts.length) (X:e.ts[i]'H=t) (O:oj c W D R ys (e.ts.take i)) (Y:H4 W (fun b=>b<w2.heap.size) zs (e.ts.drop (i+1)))
 (k:V0 (fun j=>j=e.g\/j=s) W Wd) {ad:Option Addr} {cap:Nat} (J:Wd.ownsRow w2.heap.size 26 4 e.v e.ts.length ((ys++xz c t ad cap)++zs)) (hb:TmBs t cap)
 {R':List PE} {s' scap':Nat} (U:Wd.ownsRow w2.heap.size 24 1 (.slice (some ⟨s',0,none⟩) R'.length scap') R'.length (R'.map PE.v).reverse) (G:s'=s\/W.heap.size<=s')
 (o:(t.args= []/\R'=R)\/ ∃g1,0<t.args.length/\ad=some ⟨g1,0,none⟩/\R'=⟨g1,cap,t.args⟩::R/\W.heap.size<=g1/\g1≠s'/\IQ w2.heap.size Wd ⟨g1,cap,t.args⟩):IIn c w2 T D R0 W1 e (i+1) R' s' scap' Wd:=by
 have a_:=h.below.size;have b_:w2.heap.size<=e.g/\e.g<W.heap.size:=by obtain⟨ys,zs,a,_⟩:=h.row;exact a.lt e.g rfl
 have c_:w2.heap.size<=s/\s<W.heap.size:=h.stack.lt s rfl;have l: ∀b,b<w2.heap.size->b<W.heap.size->Wd.heap[b]?=W.heap[b]?:=fun b p q=>k.block b q (fun m=>by rcases m with rfl|rfl<;>omega);have z: ∀b,D b->b<W.heap.size->Wd.heap[b]?=W.heap[b]?:=fun b p q=>k.block b q (fun m=>by rcases m with rfl|rfl;exact hD p;exact h.sfree.1 p);have r: ∀x∈R,x∈R':=fun x hx=>by
  rcases o with⟨_,rfl⟩|⟨g1,_,_,rfl,_⟩
  · exact hx
  · exact .tail _ hx
 have I: ∀x∈R,IQ w2.heap.size Wd x:=fun x hx=>by
  have a:=h.rows x hx;exact a.1.kept (k.block x.g a.1.lt.2 (fun m=>by rcases m with e1|e1;exact a.2.2.2.2 e1;exact a.2.2.2.1 e1)) l
 have N: ∀b,b<W.heap.size->b≠s->b≠s':=fun b d B e1=>by rcases G with e2|e2<;>omega
 have n: ∀x∈R,IQ w2.heap.size Wd x/\0<x.ts.length/\ ¬D x.g/\x.g≠s'/\x.g≠e.g:=fun x hx=>by
  have a:=h.rows x hx;exact⟨I x hx,a.2.1,a.2.2.1,N _ a.1.lt.2 a.2.2.2.1,a.2.2.2.2⟩
 have E: ∀b,W.heap.size<=b-> ¬D b:=fun b d B=>by have:=(A b B).2;have:=h.low;omega
 have u:e.ts.drop i=t::e.ts.drop (i+1):=by rw [<-X];exact List.drop_eq_getElem_cons H
 have V:Tm.sizes (e.ts.drop i)=1+Tm.sizes t.args+Tm.sizes (e.ts.drop (i+1)):=by rw [u,Tm.sizes_cons,t.size_eq]
 have y: ∀x∈R,Shf c Wd D R' (some ⟨x.g,0,none⟩) x.ts:=fun x hx=>.wait x (r x hx);refine⟨h.below.trans ⟨k.os,k.tape,k.output,k.size,fun b d=>l b d (by omega)⟩,U,?_,?_,?_,fun b d=>(z b d (by have:=(A b d).2;have:=h.low;omega)).trans (h.dkeep b d),fun x hx=>r x (h.sub x hx),?_,?_,Nat.le_trans h.low k.size⟩
 · rcases o with⟨_,rfl⟩|⟨g1,w,rfl,rfl,C,F,Z⟩
   · exact n
   · intro x hx;rcases List.mem_cons.1 hx with rfl|hx
     · exact⟨Z,w,E _ C,F,by show g1≠e.g;omega⟩
     · exact n x hx
 · rcases o with⟨_,rfl⟩|⟨g1,w,rfl,rfl,C,F,Z⟩
   · exact h.nodup
   · rw [List.map_cons,List.nodup_cons];refine⟨fun m=>?_,h.nodup⟩;obtain⟨x,hx,e1⟩:=List.mem_map.1 m;have:=(h.rows x hx).1.lt.2;have e2:x.g=g1:=e1;omega
 · rcases G with rfl|e1
   · exact h.sfree
   · exact⟨E _ e1,by omega⟩
 · refine⟨ys++xz c t ad cap,zs,J,?_,Y.kept l fun _ h _=>h⟩;rw [U_ H,X];refine .snoc t ad cap ys _ hb ?_ (O.mono z (fun _ h=>h) y);rcases o with⟨M,rfl⟩|⟨g1,w,rfl,rfl,_⟩
   · rw [M];exact .nil _
   · exact .wait ⟨g1,cap,t.args⟩ (.head _)
 · have a:=h.size;rw [V]at a;rcases o with⟨M,rfl⟩|⟨g1,w,rfl,rfl,_⟩
   · omega
   · show Tm.sizes t.args+sX R+_+_<=_
     omega
end Go.Proofs.YtinefdlkajnomaaGreatDoor
namespace Go.Proofs.YtinefdlkajnomaaGreatDoor
open Go.RowKit
set_option maxHeartbeats 20000000
theorem clone_any {w:World} {P:Nat->Prop} {ad:Option Addr} {ts:List Tm} (h:M0 w P ad ts) (p:ts.length<=1000000) (cap:Nat):
 ∃xs,H4 w P xs ts/\xs.length=ts.length*4/\ ∀W,(∀b,P b->b<w.heap.size->W.heap[b]?=w.heap[b]?)->Calls Tryz.prog 59 #[.slice ad ts.length cap] W (JX W ts.length xs):=by
 obtain⟨xs,hx,d,g⟩:=h.cells;refine⟨xs,hx,hx.length,fun W m=>?_⟩;cases h with
 |nil ad=>
  have c:xs= []:=by cases hx;rfl
  subst c;cases ad with
  |none=>exact clone_nil W cap
  |some a=>exact clone_zero W a cap
 |cons b o k n nm l ts ad' cap' hp c0 c1 c2 c3 hk1 hn hm hl1 hc ha hr=>
  refine clone_some W b o _ cap xs hx.length (fun j u i=>?_) d (by simp) p;exact(World.cell?_of_block (w:=w) (w':=W) (a:=⟨b,o+j,none⟩) (m b hp (L_ w ⟨b,o,none⟩ c0))).trans (g b o rfl j u i)
def MadeFree (B:Nat) (w:World) (t:Tm) (e:Ending) (w':World):Prop:= ∃ad cap,e=.returned (tmv t ad cap)/\TmP w' (fun b=>B<=b/\ ∀o,w'.frozen? ⟨b,o,none⟩=false) t ad cap/\Below B w w'
def SInv (c:Int) (w2:World) (q:Nat) (T:Tm) (m:Nat) (p:Value) (W:World):Prop:=
 ∃D R s scap,p=.slice (some ⟨s,0,none⟩) R.length scap/\OIn c w2 q T D R s scap W/\m=sX R
theorem OIn.start {c:Int} {w2:World} {T:Tm} {ad:Option Addr} {cap:Nat} (k:TmP w2 (fun b=>b<w2.heap.size) T ad cap):
 OIn c w2 w2.heap.size T (fun _=>False) [⟨w2.heap.size,1,[T]⟩] (w2.heap.size+1) 1 ((w2.alloc (.cells #[.int .i64 T.kind,.string T.name,.int .i64 T.n,.slice ad T.args.length cap] 26)).alloc (.cells #[.slice (some ⟨w2.heap.size,0,none⟩) 1 1] 24)):=by
 have a:=World.ownsRow_lit (base:=w2.heap.size) (e:=26) (size:=4) w2 #[.int .i64 T.kind,.string T.name,.int .i64 T.n,.slice ad T.args.length cap] 1 (R_ _) (by decide) rfl;have i:H4 w2 (fun b=>b<w2.heap.size) (D0 T ad cap++ []) [T]:=.cons T ad cap [] [] k .nil;refine⟨((F_ _ w2).alloc (R_ _) _).alloc (by simp) _,?_,?_,by simp,fun h=>h,fun _ h=>h.elim,?_,?_,?_⟩
 · have d:=World.ownsRow_lit (base:=w2.heap.size) (e:=24) (size:=1) (w2.alloc (.cells #[.int .i64 T.kind,.string T.name,.int .i64 T.n,.slice ad T.args.length cap] 26)) #[.slice (some ⟨w2.heap.size,0,none⟩) 1 1] 1 (by simp) (by decide) rfl;rw [Z_]at d;exact d
 · intro e j;obtain rfl:=List.mem_singleton.1 j;refine⟨⟨D0 T ad cap++ [],?_,i.kept (fun b _ g=>(A_ _ _ _ (by simp;omega)).trans (A_ _ _ _ g)) fun _ h _=>h⟩,by show 0<1;omega,fun h=>h,by show w2.heap.size≠w2.heap.size+1;omega⟩;exact World.ownsRow.alloc a _
 · exact .wait ⟨w2.heap.size,1,[T]⟩ (.head _)
 · show Tm.sizes [T]+0<=_
   have:Tm.sizes [T]=T.size:=by show T.size+0=_;omega
   omega
 · exact fun _ h=>h.elim
theorem m6 {W:World} {B g n cap i:Nat} {ys zs:List Value} {v0 v1 v2 v3:Value} (h:W.ownsRow B 26 4 (.slice (some ⟨g,0,none⟩) n cap) n (ys++([v0,v1,v2,v3]++zs))) (a:ys.length=i*4):
 W.cell? ⟨g,i*4,none⟩=some v0/\W.cell? ⟨g,i*4+1,none⟩=some v1/\W.cell? ⟨g,i*4+2,none⟩=some v2/\W.cell? ⟨g,i*4+3,none⟩=some v3:=by
 have b:=h.1;rw [P_,P_,a]at b;have c:([v0,v1,v2,v3]:List Value).length=4:=rfl;have at4: ∀j,j<4->W.cell? ⟨g,i*4+j,none⟩=([v0,v1,v2,v3]:List Value)[j]?:=fun j d=>by
  rw [h.cellAt (i*4+j) (by omega),List.getElem?_append_right (by omega),a,Nat.add_sub_cancel_left,List.getElem?_append_left (by omega)]
 exact⟨at4 0 (by omega),at4 1 (by omega),at4 2 (by omega),at4 3 (by omega)⟩
theorem Z3 {w:World} {base base':Nat} {e:TypeId} {size:Nat} {v:Value} {n:Nat} {xs:List Value} (h:w.ownsRow base e size v n xs) (j:base'<=base):w.ownsRow base' e size v n xs:=by
 obtain⟨c,b⟩:=h;refine⟨c,?_⟩;rcases b with a|⟨g,cap,cur,d,i,r⟩
 · exact .inl a
 · exact .inr ⟨g,cap,cur,d,by omega,r⟩
def SCl (B g i cp:Nat) (ts:List Tm) (t:Tm) (c:Int) (ys zs:List Value) (xs:List Value) (wr:World) (e:Ending) (Wb:World):Prop:=
 ∃ ad cap,e=.returned (.slice ad t.args.length cap)/\t.args.length<=cap/\cap<=maxLen/\Wb.frozen? ⟨g,i*4+3,none⟩=false/\(∃v,Wb.cell? ⟨g,i*4+3,none⟩=some v)/\
  Hid (∀Wc,Wc=Wb.setCell ⟨g,i*4+3,none⟩ (.slice ad t.args.length cap)->V0 (fun j=>j=g) wr Wc/\Wc.heap.size=Wb.heap.size/\wr.heap.size<=Wb.heap.size/\Wc.cell? ⟨g,i*4+3,none⟩=some (.slice ad t.args.length cap)/\
   Wc.ownsRow B 26 4 (.slice (some ⟨g,0,none⟩) ts.length cp) ts.length ((ys++xz c t ad cap)++zs)/\
   (0<t.args.length-> ∃g1,ad=some ⟨g1,0,none⟩/\wr.heap.size<=g1/\g1<Wc.heap.size/\Wc.ownsRow B 26 4 (.slice (some ⟨g1,0,none⟩) t.args.length cap) t.args.length xs))
end Go.Proofs.YtinefdlkajnomaaGreatDoor
