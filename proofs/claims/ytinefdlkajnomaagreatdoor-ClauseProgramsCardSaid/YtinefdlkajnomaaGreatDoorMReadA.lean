import Derived.Test.YtinefdlkajnomaaGreatDoorMReadM
import Derived.Test.YtinefdlkajnomaaGreatDoorMOpsGJ
import Derived.Laws.Panics
import Derived.Lib.BufferMore
namespace Go.Proofs.YtinefdlkajnomaaGreatDoor
open Go.RowKit
set_option maxHeartbeats 20000000
theorem B0 {w w1:World} {q:Nat} {o:Obj} (b:Below w.heap.size w w1) (a:w.heap[q]?=some o):w1.heap[q]?=some o:=(b.block q (Array.getElem?_eq_some_iff.1 a).1).trans a
theorem qQ {w:World} {q k:Nat} {i:Nat} {o:Obj} (h:w.heap[k]?=some o) (a:k≠q) (u:Value):(w.setCell ⟨q,i,none⟩ u).heap[k]?=some o:=by
 rw [S_ _ _ _ _ a];exact h
def Y1 (t:Tok):Value:=.agg #[.int .i64 t.kind,.string ⟨t.text.toArray⟩,.int .i64 t.n,.int .i64 (t.pos:Nat)]
theorem O1 (l m:List UInt8):((⟨l.toArray⟩:ByteArray).toList==m)=(l==m):=by rw [ByteArray.toList_eq]
inductive S5 (w:World) (g:Nat):Nat->List Tok->Prop where
 |nil (k:Nat):S5 w g k []
 |cons (k:Nat) (t:Tok) (l:List Tok):w.cell? ⟨g,k,none⟩=some (.int .i64 t.kind)->w.cell? ⟨g,k+1,none⟩=some (.string ⟨t.text.toArray⟩)->w.cell? ⟨g,k+2,none⟩=some (.int .i64 t.n)->w.cell? ⟨g,k+3,none⟩=some (.int .i64 (t.pos:Nat))->S5 w g (k+4) l->S5 w g k (t::l)
theorem S5.kept {w w':World} {g k:Nat} {ts:List Tok} (h:S5 w g k ts) (b:g<w.heap.size->w'.heap[g]?=w.heap[g]?):S5 w' g k ts:=by
 have keep: ∀(o:Nat) (v:Value),w.cell? ⟨g,o,none⟩=some v->w'.cell? ⟨g,o,none⟩=some v:=fun o v hc=>
  (World.cell?_of_block (w:=w) (w':=w') (a:=⟨g,o,none⟩) (b (L_ w ⟨g,o,none⟩ hc))).trans hc
 induction h with
 |nil k=>exact .nil k
 |cons k t l c0 c1 c2 c3 _ ih=>exact .cons k t l (keep _ _ c0) (keep _ _ c1) (keep _ _ c2) (keep _ _ c3) ih
theorem S5.first {w:World} {g k:Nat} {ts:List Tok} (h:S5 w g k ts) (a:1<=ts.length):
 w.cell? ⟨g,k,none⟩=some (.int .i64 (j0 ts).kind)/\w.cell? ⟨g,k+1,none⟩=some (.string ⟨(j0 ts).text.toArray⟩)/\w.cell? ⟨g,k+2,none⟩=some (.int .i64 (j0 ts).n)/\w.cell? ⟨g,k+3,none⟩=some (.int .i64 ((j0 ts).pos:Nat))/\S5 w g (k+4) ts.tail:=by
 cases h with
 |nil=>simp at a
 |cons k t l c0 c1 c2 c3 h=>exact⟨c0,c1,c2,c3,h⟩
theorem Z1.kept {B:Nat} {w w':World} {v:Value} {l:List ByteArray} (h:Z1 B w v l) (k: ∀b,v.ownBlock=some b->b<w.heap.size->w'.heap[b]?=w.heap[b]?):Z1 B w' v l:=by
 obtain⟨d,j|⟨g,cap,cur,i,a,c,r⟩⟩:=h
 · exact⟨d,.inl j⟩
 · exact⟨d,.inr ⟨g,cap,cur,i,a,(k g (by rw [i];rfl) (Array.getElem?_eq_some_iff.1 c).1).trans c,r⟩⟩
theorem Z1.lt {B:Nat} {w:World} {v:Value} {l:List ByteArray} (h:Z1 B w v l): ∀k,v.ownBlock=some k->B<=k/\k<w.heap.size:=World.ownsRow.lt h
def nmB (ns:Nms):List ByteArray:=ns.map fun s=>⟨s.toArray⟩
structure A1 (w:World) (r:Nat) (v:Value) (ts:List Tok) (ns:Nms):Prop where
 ex: ∃g k cap,g<r/\w.heap[r]?=some (.cells #[.slice (some ⟨g,k,none⟩) ts.length cap,v] 106 (0,0))/\ts.length<=cap/\cap<=maxLen/\S5 w g k ts
 names:Z1 (r+1) w v (nmB ns)
structure RGo (r:Nat) (v:Value) (w:World) (v':Value) (w':World):Prop where
 below:Below r w w'
 keep: ∀b,b<w.heap.size->b≠r->some b≠v.ownBlock->w'.heap[b]?=w.heap[b]?
 own:v'.ownBlock=v.ownBlock\/ ∃g,v'.ownBlock=some g/\w.heap.size<=g
theorem RGo.refl (r:Nat) (v:Value) (w:World):RGo r v w v w:=⟨F_ _ _,fun _ _ _ _=>rfl,.inl rfl⟩
theorem RGo.trans {r:Nat} {v v1 v2:Value} {w w1 w2:World} (h:RGo r v w v1 w1) (k:RGo r v1 w1 v2 w2):RGo r v w v2 w2:=by
 refine⟨h.below.trans k.below,fun b a d i=>?_,?_⟩
 · rw [k.keep b (Nat.lt_of_lt_of_le a h.below.size) d ?_,h.keep b a d i];rcases h.own with e|⟨g,e,c⟩
   · rw [e];exact i
   · rw [e];intro e2;have:=Option.some.inj e2;omega
 · rcases k.own with e|⟨g,e,c⟩
   · rw [e];exact h.own
   · exact .inr ⟨g,e,Nat.le_trans h.below.size c⟩
theorem RGo.of_below {r:Nat} {v:Value} {w w':World} (h:Below w.heap.size w w') (c:r<=w.heap.size):RGo r v w v w':=⟨h.mono c,fun b a _ _=>h.block b a,.inl rfl⟩
theorem RGo.at {r:Nat} {v v':Value} {w w':World} (h:RGo r v w v' w') {b:Nat} {o:Obj} (a:w.heap[b]?=some o) (c:b≠r) (d:some b≠v.ownBlock):w'.heap[b]?=some o:=
 (h.keep b (Array.getElem?_eq_some_iff.1 a).1 c d).trans a
theorem A1.lt {w:World} {r:Nat} {v:Value} {ts:List Tok} {ns:Nms} (h:A1 w r v ts ns):r<w.heap.size:=by
 obtain⟨g,k,cap,_,a,_⟩:=h.ex;exact(Array.getElem?_eq_some_iff.1 a).1
theorem A1.below {w w':World} {r:Nat} {v:Value} {ts:List Tok} {ns:Nms} (h:A1 w r v ts ns) (a:Below w.heap.size w w'):A1 w' r v ts ns:=by
 have l:=h.lt;obtain⟨g,k,cap,b,d,c,hc,j⟩:=h.ex;exact⟨⟨g,k,cap,b,B0 a d,c,hc,j.kept (fun i=>a.block g i)⟩,h.names.below a⟩
theorem A1.new_ne {w:World} {r:Nat} {v:Value} {ts:List Tok} {ns:Nms} (h:A1 w r v ts ns) {b:Nat} (a:w.heap.size<=b):b≠r/\some b≠v.ownBlock:=
 ⟨by have:=h.lt;omega,fun e=>by have:=(h.names.lt b e.symm).2;omega⟩
theorem A1.setOther {w:World} {r:Nat} {v:Value} {ts:List Tok} {ns:Nms} (h:A1 w r v ts ns) {q i:Nat} (n:r<q) (m:some q≠v.ownBlock) (u:Value):A1 (w.setCell ⟨q,i,none⟩ u) r v ts ns:=by
 obtain⟨g,k,cap,c,j,d,hc,l⟩:=h.ex;refine⟨⟨g,k,cap,c,qQ j (by omega) u,d,hc,l.kept (fun _=>S_ _ _ _ _ (show g≠q by omega))⟩,h.names.kept (fun b a _=>S_ _ _ _ _ (show b≠q from fun e=>m (by rw [a,e])))⟩
theorem RGo.set {r:Nat} {v v':Value} {w w':World} (h:RGo r v w v' w') {q i:Nat} (j:w.heap.size<=q) (g:r<=q) (u:Value):RGo r v w v' (w'.setCell ⟨q,i,none⟩ u):=
 ⟨h.below.setCell (p:=⟨q,i,none⟩) g u,fun b d a c=>(S_ _ _ _ _ (show b≠q by omega)).trans (h.keep b d a c),h.own⟩
theorem RGo.drew {r:Nat} {v v':Value} {w w':World} (h:RGo r v w v' w'):RGo r v w v' w'.drew:=⟨h.below.drew,h.keep,h.own⟩
theorem RGo.alloc {r:Nat} {v v':Value} {w w':World} (h:RGo r v w v' w') (g:r<w.heap.size) (o:Obj):RGo r v w v' (w'.alloc o):=by
 have i:=h.below.size;exact⟨h.below.alloc (by omega) o,fun b d a c=>(A_ _ _ _ (by omega)).trans (h.keep b d a c),h.own⟩
theorem RGo.ne {r:Nat} {v v':Value} {w w':World} (h:RGo r v w v' w') {b:Nat} (c:b<w.heap.size) (a:some b≠v.ownBlock):some b≠v'.ownBlock:=by
 rcases h.own with e|⟨g,e,d⟩
 · rw [e];exact a
 · rw [e];intro e2;have:=Option.some.inj e2;omega
def TmB (B:Nat) (w:World) (v:Value) (t:Tm) (ad:Option Addr) (cap:Nat):Prop:=TmP w (fun b=>B<=b/\some b≠v.ownBlock) t ad cap
theorem TmB.go {r B:Nat} {v v':Value} {w w':World} {t:Tm} {ad:Option Addr} {cap:Nat} (h:TmB B w v t ad cap) (g:r<B) (d:RGo r v w v' w'):TmB B w' v' t ad cap:=
 TmP.kept h (fun b a c=>d.keep b c (by omega) a.2) (fun _ a c=>⟨a.1,d.ne c a.2⟩)
theorem TmB.mono {B B':Nat} {v:Value} {w:World} {t:Tm} {ad:Option Addr} {cap:Nat} (h:TmB B w v t ad cap) (b:B'<=B):TmB B' w v t ad cap:=
 TmP.kept h (fun _ _ _=>rfl) (fun _ a _=>⟨by omega,a.2⟩)
theorem TmB.below {B:Nat} {v:Value} {w w':World} {t:Tm} {ad:Option Addr} {cap:Nat} (h:TmB B w v t ad cap) (c:Below w.heap.size w w'):TmB B w' v t ad cap:=
 TmP.kept h (fun b _ a=>c.block b a) (fun _ d _=>d)
theorem TmB.set {B q i:Nat} {v:Value} {w:World} {t:Tm} {ad:Option Addr} {cap:Nat} (h:TmB B w v t ad cap) (c:q<B) (u:Value):TmB B (w.setCell ⟨q,i,none⟩ u) v t ad cap:=
 TmP.kept h (fun b a _=>S_ _ _ _ _ (show b≠q by omega)) (fun _ a _=>a)
def eZ (o:Nat):Ending:=.panicked [{v:=.iface 103 (.int .i64 (o:Nat)),recovered:=false}]
def ROk (r:Nat) (v:Value) (w:World) (t:Tm) (ts:List Tok) (ns:Nms) (v':Value) (ad:Option Addr) (cap:Nat) (w':World):Prop:=A1 w' r v' ts ns/\RGo r v w v' w'/\TmB w.heap.size w' v' t ad cap
def Rq (r:Nat) (v:Value) (w:World) (x:Rd Tm) (e:Ending) (w':World):Prop:=
 match x with
 | .bad o=>e=eZ o/\Below r w w'
 | .ok t ts ns=> ∃v' ad cap,e=.returned (tmv t ad cap)/\ROk r v w t ts ns v' ad cap w'
def B8 (r:Nat) (v:Value) (w:World) (x:Rd (Tm×Int)) (e:Ending) (w':World):Prop:=
 match x with
 | .bad o=>e=eZ o/\Below r w w'
 | .ok t ts ns=> ∃v' ad cap,e=.returned (.tuple #[tmv t.1 ad cap,.int .i64 t.2])/\ROk r v w t.1 ts ns v' ad cap w'
theorem ROk.fin {r q B:Nat} {v v':Value} {w w3:World} {t:Tm} {ts:List Tok} {ns:Nms} {ad:Option Addr} {cap:Nat} (g:A1 w3 r v' ts ns) (d:RGo r v w v' w3) (h:TmB B w3 v' t ad cap) (i:r<w.heap.size) (b:w.heap.size<=q) (a:q<B) (c:some q≠v'.ownBlock) (u0 u1 u2 u3:Value):
 ROk r v w t ts ns v' ad cap ((((w3.setCell ⟨q,0,none⟩ u0).setCell ⟨q,1,none⟩ u1).setCell ⟨q,2,none⟩ u2).setCell ⟨q,3,none⟩ u3):=
 ⟨(((g.setOther (by omega) c u0).setOther (by omega) c u1).setOther (by omega) c u2).setOther (by omega) c u3,(((d.set b (by omega) u0).set b (by omega) u1).set b (by omega) u2).set b (by omega) u3,((((h.set a u0).set a u1).set a u2).set a u3).mono (by omega)⟩
theorem E0 {w:World} {q:Nat} {a b:Value} {t:TypeId} (h:w.heap[q]?=some (.cells #[a,b] t (0,0))):
 w.cell? ⟨q,0,none⟩=some a/\w.cell? ⟨q,1,none⟩=some b/\w.frozen? ⟨q,0,none⟩=false/\w.frozen? ⟨q,1,none⟩=false:=by
 simp [World.cell?,World.frozen?,h]
theorem E4 (w:World) (r:Nat) (v:Value) (ts:List Tok) (ns:Nms) (h:A1 w r v ts ns) (l:1<=ts.length):
 Calls Tryz.prog 80 #[.pointer (some ⟨r,0,none⟩)] w fun e w'=>e=.returned (Y1 (j0 ts))/\Below w.heap.size w w':=by
 have j:=D_ (fun o:Obj=>(F_ w.heap.size w).alloc (R_ _) o);have q:=h.lt;obtain⟨g,k,cap,s,c,t,hc,i⟩:=h.ex;obtain⟨c0,c1,c2,c3,_⟩:=i.first l;obtain⟨r0,_,_,_⟩:=E0 c;have p:(0:Int)<(ts.length:Int):=by omega
 have m:g<w.heap.size:=by omega
 unfold Y1;clear h c i hc;generalize (⟨(j0 ts).text.toArray⟩:ByteArray)=u at*;generalize (j0 ts).kind=a at*;generalize (j0 ts).n=b at*;generalize (j0 ts).pos=d at*;generalize ts.length=L at*;go_enter Tryz.func80,Tryz.ntmps80;go_wp2_with fail;exact B_ (v:=.agg #[.int .i64 a,.string u,.int .i64 b,.int .i64 (d:Nat)]) (by simp [results,Tryz.results80,go_sem]) rfl ⟨rfl,j.out _⟩
theorem x8 (g k n cap:Nat) (h:2<=cap):sliced (some ⟨g,k,none⟩) 1 (n+1) cap 4=.slice (some ⟨g,k+4,none⟩) n (cap-1):=by
 unfold sliced;rw [Nat.add_sub_cancel];have a: ¬cap=1:=by omega
 simp [a,Addr.add]
attribute [-go_sem] sliced
theorem R5 (w:World) (r:Nat) (v:Value) (ts:List Tok) (ns:Nms) (h:A1 w r v ts ns) (D:2<=ts.length):
 Calls Tryz.prog 93 #[.pointer (some ⟨r,0,none⟩)] w fun e w'=>e=.returned (.tuple #[])/\A1 w' r v ts.tail ns/\RGo r v w v w':=by
 have d:=D_ h;have B:=h.lt;obtain⟨g,k,cap,u,c,E,hc,m⟩:=h.ex;obtain⟨_,_,_,_,a⟩:=m.first (by omega);obtain⟨r0,_,z0,_⟩:=E0 c;obtain⟨n,y⟩: ∃n,ts.length=n+1:=⟨ts.length-1,by omega⟩;have j:Hid (ts.tail.length=n):=D_ (by rw [List.length_tail];omega);have q:=D_ (x8 g k n cap (by omega));have o:=D_ c;have s:=D_ a;rw [y]at r0;have z:(1:Int)<=((n+1:Nat):Int):=by omega
 have A:((n+1:Nat):Int)<=(cap:Int):=by omega
 clear h c m a;have C:=q.out;go_enter Tryz.func93,Tryz.ntmps93;go_wp2_with fail;go_end0;have x:=H_ (i:=0) o.out (.slice (some ⟨g,k+4,none⟩) n (cap-1));refine⟨rfl,⟨⟨g,k+4,cap-1,u,?_,?_,by omega,s.out.kept (fun _=>S_ _ _ _ _ (show g≠r by omega))⟩,?_⟩,⟨(F_ _ _).setCell (p:=⟨r,0,none⟩) (R_ _) _,fun b l t _=>S_ _ _ _ _ t,.inl rfl⟩⟩
 · rw [j.out];simpa using x
 · rw [j.out];omega
 · exact d.out.names.kept (fun b l _=>S_ _ _ _ _ (show b≠r by have:=(d.out.names.lt b l).1;omega))
theorem X9 (a b c d:Value) (W:World):(Instr.field 96 (.agg #[a,b,c,d]) 0).run Tryz.prog W=.ok a W:=by kernel_rfl
theorem vQ (a b c d:Value) (W:World):(Instr.field 96 (.agg #[a,b,c,d]) 1).run Tryz.prog W=.ok b W:=by kernel_rfl
theorem ox (a b c d:Value) (W:World):(Instr.field 96 (.agg #[a,b,c,d]) 3).run Tryz.prog W=.ok d W:=by kernel_rfl
set_option maxRecDepth 100000 in
theorem C7 (w:World) (r:Nat) (v:Value) (ts:List Tok) (ns:Nms) (h:A1 w r v ts ns) (d:1<=ts.length):
 Calls Tryz.prog 94 #[.pointer (some ⟨r,0,none⟩)] w fun e w'=>e=eZ (j0 ts).pos/\Below w.heap.size w w':=by
 have a:=D_ (E4 w r v ts ns h d);unfold Y1 at a;unfold eZ;have f3:=ox;clear h;generalize j0 ts=t at*;go_enter Tryz.func94,Tryz.ntmps94;go_wp2_with fail;refine a.out.mono ?_;rintro e w1 ⟨rfl,b⟩;have c:=D_ b;clear b;go_wp2_with fail;exact⟨rfl,rfl,c.out⟩
theorem P9 (t:Tok) (l:List UInt8) (w:World):
 Calls Tryz.prog 148 #[Y1 t,.string ⟨l.toArray⟩] w fun e w'=>e=.returned (.bool (t.isP l))/\Below w.heap.size w w':=by
 have a:=D_ (fun o:Obj=>(F_ w.heap.size w).alloc (R_ _) o);have d:=O1 t.text l;have c:Hid (t.isP l=(t.kind==6&&(⟨t.text.toArray⟩:ByteArray).toList==l)):=D_ (by rw [d];rfl);have b:((⟨t.text.toArray⟩:ByteArray).toList==(⟨l.toArray⟩:ByteArray).toList)=((⟨t.text.toArray⟩:ByteArray).toList==l):=by rw [ByteArray.toList_eq (bs:=⟨l.toArray⟩)]
 rw [c.out];unfold Y1;clear d c;generalize (⟨t.text.toArray⟩:ByteArray)=u at*;generalize (⟨l.toArray⟩:ByteArray)=x at*;cases e1:(u.toList==l)with
 | true=>
  rw [e1]at b;cases e2:(t.kind==6)with
  |true=>
   go_enter Tryz.func148,Tryz.ntmps148;go_wp2_with fail;go_ret;exact⟨rfl,a.out _⟩
  |false=>
   go_enter Tryz.func148,Tryz.ntmps148;go_wp2_with fail;go_ret;exact⟨rfl,a.out _⟩
 | false=>
  rw [e1]at b;cases e2:(t.kind==6)with
  |true=>
   go_enter Tryz.func148,Tryz.ntmps148;go_wp2_with fail;go_ret;exact⟨rfl,a.out _⟩
  |false=>
   go_enter Tryz.func148,Tryz.ntmps148;go_wp2_with fail;go_ret;exact⟨rfl,a.out _⟩
theorem x9 (w:World) (r:Nat) (v:Value) (ts:List Tok) (ns:Nms) (l:List UInt8) (x:ByteArray) (hx:x=⟨l.toArray⟩) (h:A1 w r v ts ns) (m:T0 ts):
 Calls Tryz.prog 189 #[.pointer (some ⟨r,0,none⟩),.string x] w fun e w'=>e=.returned (.bool ((j0 ts).isP l))/\A1 w' r v (if(j0 ts).isP l=true then ts.tail else ts) ns/\RGo r v w v w':=by
 subst hx;have n:=D_ (E4 w r v ts ns h m.pos);have s:=D_ (fun W=>P9 (j0 ts) l W);have u:Hid ((j0 ts).isP l=true->2<=ts.length):=D_ (fun y=>m.two (by rw [(U2 y).1];decide));have p:=D_ h;have j:=h.lt;clear h m;generalize (⟨l.toArray⟩:ByteArray)=x at*;generalize j0 ts=t at*;generalize t.isP l=b at*;generalize Y1 t=tv at*;cases b with
 |true=>
  rw [J_ rfl];go_enter Tryz.func189,Tryz.ntmps189;go_wp2_with fail;refine n.out.mono ?_;rintro e w1 ⟨rfl,d⟩;have a:=D_ d;clear d;go_wp2_with fail;refine(s.out _).mono ?_;rintro e w2 ⟨rfl,g⟩;have c:=D_ (a.out.trans (g.mono a.out.size));clear g;go_wp2_with fail;refine(R5 _ r v ts ns (p.out.below c.out) (u.out (by trivial))).mono ?_;rintro e w3 ⟨rfl,k,i⟩;have q:=D_ k;have o:=D_ ((RGo.of_below c.out (N_ j)).trans i);clear k i;go_wp2_with fail;go_ret;exact⟨rfl,q.out,o.out⟩
 |false=>
  rw [I_ (by decide)];go_enter Tryz.func189,Tryz.ntmps189;go_wp2_with fail;refine n.out.mono ?_;rintro e w1 ⟨rfl,d⟩;have a:=D_ d;clear d;go_wp2_with fail;refine(s.out _).mono ?_;rintro e w2 ⟨rfl,g⟩;have c:=D_ (a.out.trans (g.mono a.out.size));clear g;go_wp2_with fail;go_ret;exact⟨rfl,p.out.below c.out,RGo.of_below c.out (N_ j)⟩
theorem B7 (t:Tok) (w:World):
 Calls Tryz.prog 143 #[Y1 t] w fun e w'=>e=.returned (.bool t.isAtom)/\Below w.heap.size w w':=by
 have b:=D_ (fun o:Obj=>(F_ w.heap.size w).alloc (R_ _) o);have a:Hid (t.isAtom=(t.kind==1||t.kind==2||t.kind==3)):=D_ rfl;rw [a.out];unfold Y1;clear a;generalize (⟨t.text.toArray⟩:ByteArray)=u at*;cases e1:(t.kind==1)<;>cases e2:(t.kind==2)<;>cases e3:(t.kind==3)
 all_goals
  go_enter Tryz.func143,Tryz.ntmps143;go_wp2_with fail;go_ret;exact⟨rfl,b.out _⟩
theorem O9 (s:ByteArray) (w:World):
 Calls Tryz.prog 174 #[.string s] w fun e w'=>e=.returned (.agg #[.int .i64 2,.string s,.int .i64 0,.slice none 0 0])/\Below w.heap.size w w':=by
 have a:=D_ (fun o:Obj=>(F_ w.heap.size w).alloc (R_ _) o);go_enter Tryz.func174,Tryz.ntmps174;go_wp2_with fail;exact B_ (v:=.agg #[.int .i64 2,.string s,.int .i64 0,.slice none 0 0]) (by simp [results,Tryz.results174,go_sem]) rfl ⟨rfl,a.out _⟩
theorem gQ (n:Int) (w:World):
 Calls Tryz.prog 147 #[.int .i64 n] w fun e w'=>e=.returned (.agg #[.int .i64 3,.string ⟨#[]⟩,.int .i64 n,.slice none 0 0])/\Below w.heap.size w w':=by
 have a:=D_ (fun o:Obj=>(F_ w.heap.size w).alloc (R_ _) o);go_enter Tryz.func147,Tryz.ntmps147;go_wp2_with fail;exact B_ (v:=.agg #[.int .i64 3,.string ⟨#[]⟩,.int .i64 n,.slice none 0 0]) (by simp [results,Tryz.results147,go_sem]) rfl ⟨rfl,a.out _⟩
theorem J8 (s:ByteArray) (ad:Option Addr) (len cap:Nat) (w:World):
 Calls Tryz.prog 120 #[.string s,.slice ad len cap] w fun e w'=>e=.returned (.agg #[.int .i64 4,.string s,.int .i64 0,.slice ad len cap])/\Below w.heap.size w w':=by
 have a:=D_ (fun o:Obj=>(F_ w.heap.size w).alloc (R_ _) o);go_enter Tryz.func120,Tryz.ntmps120;go_wp2_with fail;exact B_ (v:=.agg #[.int .i64 4,.string s,.int .i64 0,.slice ad len cap]) (by simp [results,Tryz.results120,go_sem]) rfl ⟨rfl,a.out _⟩
end Go.Proofs.YtinefdlkajnomaaGreatDoor
