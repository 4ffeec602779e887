import Derived.Test.YtinefdlkajnomaaGreatDoorMReadA
namespace Go.Proofs.YtinefdlkajnomaaGreatDoor
open Go.RowKit
set_option maxHeartbeats 20000000
structure Z0 (w:World) (r:Nat) (v:Value) (ts:List Tok) (ns:Nms) (er:Int) (at_:Int):Prop where
 ex: ∃g k cap,g<r/\w.heap[r]?=some (.cells #[.slice (some ⟨g,k,none⟩) ts.length cap,v,.int .i64 er,.int .i64 at_] 94 (0,0))/\ts.length<=cap/\cap<=maxLen/\S5 w g k ts
 names:Z1 (r+1) w v (nmB ns)
theorem Z0.lt {w:World} {r:Nat} {v:Value} {ts:List Tok} {ns:Nms} {er at_:Int} (h:Z0 w r v ts ns er at_):r<w.heap.size:=by
 obtain⟨g,k,cap,_,a,_⟩:=h.ex;exact(Array.getElem?_eq_some_iff.1 a).1
theorem Z0.below {w w':World} {r:Nat} {v:Value} {ts:List Tok} {ns:Nms} {er at_:Int} (h:Z0 w r v ts ns er at_) (a:Below w.heap.size w w'):Z0 w' r v ts ns er at_:=by
 have l:=h.lt;obtain⟨g,k,cap,b,d,c,hc,j⟩:=h.ex;exact⟨⟨g,k,cap,b,B0 a d,c,hc,j.kept (fun i=>a.block g i)⟩,h.names.below a⟩
theorem Z0.new_ne {w:World} {r:Nat} {v:Value} {ts:List Tok} {ns:Nms} {er at_:Int} (h:Z0 w r v ts ns er at_) {b:Nat} (a:w.heap.size<=b):b≠r/\some b≠v.ownBlock:=
 ⟨by have:=h.lt;omega,fun e=>by have:=(h.names.lt b e.symm).2;omega⟩
theorem Z0.setOther {w:World} {r:Nat} {v:Value} {ts:List Tok} {ns:Nms} {er at_:Int} (h:Z0 w r v ts ns er at_) {q i:Nat} (n:r<q) (m:some q≠v.ownBlock) (u:Value):Z0 (w.setCell ⟨q,i,none⟩ u) r v ts ns er at_:=by
 obtain⟨g,k,cap,c,j,d,hc,l⟩:=h.ex;refine⟨⟨g,k,cap,c,qQ j (by omega) u,d,hc,l.kept (fun _=>S_ _ _ _ _ (show g≠q by omega))⟩,h.names.kept (fun b a _=>S_ _ _ _ _ (show b≠q from fun e=>m (by rw [a,e])))⟩
theorem l5 {w:World} {q:Nat} {a b c d:Value} {t:TypeId} (h:w.heap[q]?=some (.cells #[a,b,c,d] t (0,0))):
 w.cell? ⟨q,0,none⟩=some a/\w.cell? ⟨q,1,none⟩=some b/\w.cell? ⟨q,2,none⟩=some c/\w.cell? ⟨q,3,none⟩=some d/\w.frozen? ⟨q,0,none⟩=false/\w.frozen? ⟨q,1,none⟩=false/\w.frozen? ⟨q,2,none⟩=false/\w.frozen? ⟨q,3,none⟩=false:=by
 simp [World.cell?,World.frozen?,h]
theorem X3 (w:World) (r:Nat) (v:Value) (ts:List Tok) (ns:Nms) (er at_:Int) (h:Z0 w r v ts ns er at_):
 Calls Tryz.prog 69 #[.pointer (some ⟨r,0,none⟩)] w fun e w'=>e=.returned (.bool (er==0))/\Below w.heap.size w w':=by
 obtain⟨g,k,cap,_,a,_⟩:=h.ex;obtain⟨_,_,c2,_⟩:=l5 a;clear h a;go_enter Tryz.func69,Tryz.ntmps69;go_wp2_with fail;go_ret;exact⟨rfl,F_ _ _⟩
theorem F4 (w:World) (r:Nat) (v:Value) (ts:List Tok) (ns:Nms) (er at_:Int) (h:Z0 w r v ts ns er at_) (l:1<=ts.length):
 Calls Tryz.prog 70 #[.pointer (some ⟨r,0,none⟩)] w fun e w'=>e=.returned (Y1 (j0 ts))/\Below w.heap.size w w':=by
 have j:=D_ (fun o:Obj=>(F_ w.heap.size w).alloc (R_ _) o);have q:=h.lt;obtain⟨g,k,cap,s,c,t,hc,i⟩:=h.ex;obtain⟨c0,c1,c2,c3,_⟩:=i.first l;obtain⟨r0,_⟩:=l5 c;have p:(0:Int)<(ts.length:Int):=by omega
 have m:g<w.heap.size:=by omega
 unfold Y1;clear h c i hc;generalize (⟨(j0 ts).text.toArray⟩:ByteArray)=u at*;generalize (j0 ts).kind=a at*;generalize (j0 ts).n=b at*;generalize (j0 ts).pos=d at*;generalize ts.length=L at*;go_enter Tryz.func70,Tryz.ntmps70;go_wp2_with fail;exact B_ (v:=.agg #[.int .i64 a,.string u,.int .i64 b,.int .i64 (d:Nat)]) (by simp [results,Tryz.results70,go_sem]) rfl ⟨rfl,j.out _⟩
theorem G3 (w:World) (r:Nat) (v:Value) (ts:List Tok) (ns:Nms) (at_:Int) (h:Z0 w r v ts ns 0 at_) (H:2<=ts.length):
 Calls Tryz.prog 86 #[.pointer (some ⟨r,0,none⟩)] w fun e w'=>e=.returned (.tuple #[])/\Z0 w' r v ts.tail ns 0 at_/\RGo r v w v w':=by
 have o:=D_ (X3 w r v ts ns 0 at_ h);have u:=D_ h;have s:=h.lt;obtain⟨n,C⟩: ∃n,ts.length=n+1:=⟨ts.length-1,by omega⟩;have q:Hid (ts.tail.length=n):=D_ (by rw [List.length_tail];omega);clear h;go_enter Tryz.func86,Tryz.ntmps86;go_wp2_with fail;refine o.out.mono ?_;rintro e w1 ⟨rfl,c⟩;have a:=D_ (u.out.below c);have d:=D_ c;clear c o;obtain⟨g,k,cap,A,m,I,hc,t⟩:=a.out.ex;obtain⟨_,_,_,_,j⟩:=t.first (by omega);obtain⟨r0,_,_,_,z0,_⟩:=l5 m;have G:=x8 g k n cap (by omega);have x:=D_ m;have y:=D_ j;rw [C]at r0;have D:(1:Int)<((n+1:Nat):Int):=by omega
 have E:(1:Int)<=((n+1:Nat):Int):=by omega
 have F:((n+1:Nat):Int)<=(cap:Int):=by omega
 clear m t j;go_wp2_with fail;go_end0;have B:=H_ (i:=0) x.out (.slice (some ⟨g,k+4,none⟩) n (cap-1));refine⟨rfl,⟨⟨g,k+4,cap-1,A,?_,?_,by omega,y.out.kept (fun _=>S_ _ _ _ _ (show g≠r by omega))⟩,?_⟩,⟨(d.out.mono (N_ s)).setCell (p:=⟨r,0,none⟩) (R_ _) _,fun b l z _=>(S_ _ _ _ _ z).trans (d.out.block b l),.inl rfl⟩⟩
 · rw [q.out];simpa using B
 · rw [q.out];omega
 · exact a.out.names.kept (fun b l _=>S_ _ _ _ _ (show b≠r by have:=(a.out.names.lt b l).1;omega))
theorem kj (w:World) (r:Nat) (v:Value) (ts:List Tok) (ns:Nms) (er at_:Int) (h:Z0 w r v ts ns er at_) (g:er≠0):
 Calls Tryz.prog 86 #[.pointer (some ⟨r,0,none⟩)] w fun e w'=>e=.returned (.tuple #[])/\Below w.heap.size w w':=by
 have b:=X3 w r v ts ns er at_ h;rw [beq_eq_false_iff_ne.2 g]at b;have d:=D_ b;clear h b;go_enter Tryz.func86,Tryz.ntmps86;go_wp2_with fail;refine d.out.mono ?_;rintro e w1 ⟨rfl,a⟩;have c:=D_ a;clear a;go_wp2_with fail;go_end0;exact⟨rfl,c.out⟩
theorem M8 (w:World) (r:Nat) (v:Value) (ts:List Tok) (ns:Nms) (at_:Int) (h:Z0 w r v ts ns 0 at_) (A:1<=ts.length):
 Calls Tryz.prog 87 #[.pointer (some ⟨r,0,none⟩)] w fun e w'=>e=.returned (.tuple #[])/\Z0 w' r v ts ns 60 ((j0 ts).pos:Nat)/\RGo r v w v w':=by
 have s:=D_ h;have D:=h.lt;obtain⟨g,k,cap,B,o,E,hc,q⟩:=h.ex;obtain⟨c0,c1,c2,c3,_⟩:=q.first A;obtain⟨r0,_,r2,r3,_,_,z2,z3⟩:=l5 o;have t:=D_ o;have x:=D_ q;have C:(0:Int)<(ts.length:Int):=by omega
 have l:g≠r:=by omega
 clear h o q;generalize (⟨(j0 ts).text.toArray⟩:ByteArray)=u at*;generalize (j0 ts).kind=a at*;generalize (j0 ts).n=b at*;generalize (j0 ts).pos=d at*;generalize z:ts.length=L at*;go_enter Tryz.func87,Tryz.ntmps87;go_wp2_with fail;go_end0;refine⟨rfl,⟨⟨g,k,cap,B,?_,by omega,hc,(x.out.kept (fun _=>S_ _ _ _ _ l)).kept (fun _=>S_ _ _ _ _ l)⟩,?_⟩,⟨((F_ _ _).setCell (p:=⟨r,2,none⟩) (R_ _) _).setCell (p:=⟨r,3,none⟩) (R_ _) _,fun b c j _=>(S_ _ _ _ _ j).trans (S_ _ _ _ _ j),.inl rfl⟩⟩
 · have j:=H_ (i:=2) t.out (.int .i64 60);have y:=H_ (i:=3) j (.int .i64 (d:Nat));rw [z];simpa using y
 · have m: ∀b,v.ownBlock=some b->b≠r:=fun b c=>by have:=(s.out.names.lt b c).1;omega
   exact(s.out.names.kept (fun b c _=>S_ _ _ _ _ (m b c))).kept (fun b c _=>S_ _ _ _ _ (m b c))
theorem rf_failed (w:World) (r:Nat) (v:Value) (ts:List Tok) (ns:Nms) (er at_:Int) (h:Z0 w r v ts ns er at_) (b:er≠0):
 Calls Tryz.prog 87 #[.pointer (some ⟨r,0,none⟩)] w fun e w'=>e=.returned (.tuple #[])/\Below w.heap.size w w':=by
 obtain⟨g,k,cap,_,a,_⟩:=h.ex;obtain⟨_,_,c2,_⟩:=l5 a;have c:(er==0)=false:=beq_eq_false_iff_ne.2 b;clear h a;go_enter Tryz.func87,Tryz.ntmps87;go_wp2_with fail;go_end0;exact⟨rfl,F_ _ _⟩
theorem M5 (t:Tok) (l:List UInt8) (w:World):
 Calls Tryz.prog 102 #[Y1 t,.string ⟨l.toArray⟩] w fun e w'=>e=.returned (.bool (t.isP l))/\Below w.heap.size w w':=by
 have a:=D_ (fun o:Obj=>(F_ w.heap.size w).alloc (R_ _) o);have d:=O1 t.text l;have c:Hid (t.isP l=(t.kind==6&&(⟨t.text.toArray⟩:ByteArray).toList==l)):=D_ (by rw [d];rfl);have b:((⟨t.text.toArray⟩:ByteArray).toList==(⟨l.toArray⟩:ByteArray).toList)=((⟨t.text.toArray⟩:ByteArray).toList==l):=by rw [ByteArray.toList_eq (bs:=⟨l.toArray⟩)]
 rw [c.out];unfold Y1;clear d c;generalize (⟨t.text.toArray⟩:ByteArray)=u at*;generalize (⟨l.toArray⟩:ByteArray)=x at*;cases e1:(u.toList==l)with
 | true=>
  rw [e1]at b;cases e2:(t.kind==6)with
  |true=>
   go_enter Tryz.func102,Tryz.ntmps102;go_wp2_with fail;go_ret;exact⟨rfl,a.out _⟩
  |false=>
   go_enter Tryz.func102,Tryz.ntmps102;go_wp2_with fail;go_ret;exact⟨rfl,a.out _⟩
 | false=>
  rw [e1]at b;cases e2:(t.kind==6)with
  |true=>
   go_enter Tryz.func102,Tryz.ntmps102;go_wp2_with fail;go_ret;exact⟨rfl,a.out _⟩
  |false=>
   go_enter Tryz.func102,Tryz.ntmps102;go_wp2_with fail;go_ret;exact⟨rfl,a.out _⟩
theorem AX (t:Tok) (w:World):
 Calls Tryz.prog 101 #[Y1 t] w fun e w'=>e=.returned (.bool t.isAtom)/\Below w.heap.size w w':=by
 have b:=D_ (fun o:Obj=>(F_ w.heap.size w).alloc (R_ _) o);have a:Hid (t.isAtom=(t.kind==1||t.kind==2||t.kind==3)):=D_ rfl;rw [a.out];unfold Y1;clear a;generalize (⟨t.text.toArray⟩:ByteArray)=u at*;cases e1:(t.kind==1)<;>cases e2:(t.kind==2)<;>cases e3:(t.kind==3)
 all_goals
  go_enter Tryz.func101,Tryz.ntmps101;go_wp2_with fail;go_ret;exact⟨rfl,b.out _⟩
theorem rf_need (w:World) (r:Nat) (v:Value) (ts:List Tok) (ns:Nms) (at_:Int) (l:List UInt8) (x:ByteArray) (hx:x=⟨l.toArray⟩) (h:Z0 w r v ts ns 0 at_) (n:T0 ts) (o:(j0 ts).isP l=true):
 Calls Tryz.prog 156 #[.pointer (some ⟨r,0,none⟩),.string x] w fun e w'=>e=.returned (.tuple #[])/\Z0 w' r v ts.tail ns 0 at_/\RGo r v w v w':=by
 subst hx;have u:=D_ n;have s:=D_ (fun W=>M5 (j0 ts) l W);rw [o]at s;have y:2<=ts.length:=n.two (by rw [(U2 o).1];decide);have m:=D_ h;have t:=h.lt;clear h n o;generalize (⟨l.toArray⟩:ByteArray)=x at*;go_enter Tryz.func156,Tryz.ntmps156;go_wp2_with fail;refine(X3 w r v ts ns 0 at_ m.out).mono ?_;rintro e w1 ⟨rfl,d⟩;have a:=D_ d;clear d;go_wp2_with fail;refine(F4 w1 r v ts ns 0 at_ (m.out.below a.out) u.out.pos).mono ?_;rintro e w2 ⟨rfl,g⟩;have b:=D_ (a.out.trans (g.mono a.out.size));clear g a;generalize Y1 (j0 ts)=tv at*;go_wp2_with fail;refine(s.out _).mono ?_;rintro e w3 ⟨rfl,i⟩;have c:=D_ (b.out.trans (i.mono b.out.size));clear i b;go_wp2_with fail;refine(G3 w3 r v ts ns at_ (m.out.below c.out) y).mono ?_;rintro e w4 ⟨rfl,k,j⟩;have q:=D_ k;have p:=D_ ((RGo.of_below c.out (N_ t)).trans j);clear k j;go_wp2_with fail;go_end0;exact⟨rfl,q.out,p.out⟩
theorem rf_needs (w:World) (r:Nat) (v:Value) (ts:List Tok) (ns:Nms) (at_:Int) (l:List UInt8) (x:ByteArray) (hx:x=⟨l.toArray⟩) (h:Z0 w r v ts ns 0 at_) (u:T0 ts) (z:(j0 ts).isP l=false):
 Calls Tryz.prog 156 #[.pointer (some ⟨r,0,none⟩),.string x] w fun e w'=>e=.returned (.tuple #[])/\Z0 w' r v ts ns 60 ((j0 ts).pos:Nat)/\RGo r v w v w':=by
 subst hx;have q:=D_ u;have t:=D_ (fun W=>M5 (j0 ts) l W);rw [z]at t;have p:=D_ h;have y:=h.lt;clear h u z;generalize (⟨l.toArray⟩:ByteArray)=x at*;go_enter Tryz.func156,Tryz.ntmps156;go_wp2_with fail;refine(X3 w r v ts ns 0 at_ p.out).mono ?_;rintro e w1 ⟨rfl,i⟩;have a:=D_ i;clear i;go_wp2_with fail;refine(F4 w1 r v ts ns 0 at_ (p.out.below a.out) q.out.pos).mono ?_;rintro e w2 ⟨rfl,j⟩;have b:=D_ (a.out.trans (j.mono a.out.size));clear j a;generalize Y1 (j0 ts)=tv at*;go_wp2_with fail;refine(t.out _).mono ?_;rintro e w3 ⟨rfl,k⟩;have d:=D_ (b.out.trans (k.mono b.out.size));clear k b;go_wp2_with fail;refine(M8 w3 r v ts ns at_ (p.out.below d.out) q.out.pos).mono ?_;rintro e w4 ⟨rfl,o,n⟩;have c:=D_ o;have s:=D_ ((RGo.of_below d.out (N_ y)).trans n);clear o n;go_wp2_with fail;refine(kj w4 r v ts ns 60 _ c.out (by decide)).mono ?_;rintro e w5 ⟨rfl,m⟩;have g:=D_ m;clear m;go_wp2_with fail;go_end0;exact⟨rfl,c.out.below g.out,s.out.trans (RGo.of_below g.out (N_ c.out.lt))⟩
theorem rf_needed (w:World) (r:Nat) (v:Value) (ts:List Tok) (ns:Nms) (er at_:Int) (x:ByteArray) (h:Z0 w r v ts ns er at_) (i:er≠0):
 Calls Tryz.prog 156 #[.pointer (some ⟨r,0,none⟩),.string x] w fun e w'=>e=.returned (.tuple #[])/\Below w.heap.size w w':=by
 have d:=X3 w r v ts ns er at_ h;rw [beq_eq_false_iff_ne.2 i]at d;have j:=D_ d;have k:=D_ h;clear h d;go_enter Tryz.func156,Tryz.ntmps156;go_wp2_with fail;refine j.out.mono ?_;rintro e w1 ⟨rfl,b⟩;have a:=D_ b;clear b;go_wp2_with fail;refine(kj w1 r v ts ns er at_ (k.out.below a.out) i).mono ?_;rintro e w2 ⟨rfl,c⟩;have g:=D_ (a.out.trans (c.mono a.out.size));clear c;go_wp2_with fail;go_end0;exact⟨rfl,g.out⟩
end Go.Proofs.YtinefdlkajnomaaGreatDoor
