import Derived.Test.YtinefdlkajnomaaGreatDoorMCharDevAC
import Derived.Handy
import Derived.Laws.Bits64b
import Derived.Test.YtinefdlkajnomaaGreatDoorMCharRef
import Derived.Lib.AppendStr
import Derived.Lib.OthersKept
import Derived.Test.YtinefdlkajnomaaGreatDoorMCharM
import Derived.Test.YtinefdlkajnomaaGreatDoorMShelf2
import Derived.Lib.BufferMore
import Derived.BigRegion
import Derived.RegionTactic
import Derived.Test.YtinefdlkajnomaaGreatDoorMCharRHI
namespace Go.Proofs.YtinefdlkajnomaaGreatDoor
open Go.RowKit
set_option maxHeartbeats 20000000
end Go.Proofs.YtinefdlkajnomaaGreatDoor
namespace Go.Proofs.YtinefdlkajnomaaGreatDoor
open Go.RowKit
set_option maxHeartbeats 20000000
def byc (l:List UInt8):List Value:=l.map fun b=>Value.int .u8 b.toNat
theorem byc_append (a b:List UInt8):byc (a++b)=byc a++byc b:=List.map_append
theorem byc_length (l:List UInt8):(byc l).length=l.length:=List.length_map _
def N2 (B:Nat) (w:World) (v:Value) (l:List UInt8):Prop:=w.ownsRow B 5 1 v l.length (byc l)
theorem N2.below {B:Nat} {w w':World} {v:Value} {l:List UInt8} (h:N2 B w v l) (a:Below w.heap.size w w'):N2 B w' v l:=QQ h a
theorem N2.iter_ne {B:Nat} {w:World} {v:Value} {l:List UInt8} (h:N2 B w v l) {k:Nat} {s:ByteArray} {pos:Nat} (c:w.heap[k]?=some (.stringIter s pos)):some k≠v.ownBlock:=by
 intro e;obtain⟨_,b|⟨g,cap,cur,d,_,a,_⟩⟩:=h
 · rw [b.1]at e;cases e
 · rw [d]at e;have:k=g:=Option.some.inj e;subst this;rw [c]at a;cases a
theorem N2.iterAt {B:Nat} {w:World} {v:Value} {l:List UInt8} (h:N2 B w v l) {k:Nat} {s:ByteArray} {pos:Nat} (m:w.heap[k]?=some (.stringIter s pos)) (pos':Nat):N2 B (w.iterAt k s pos') v l:=by
 have c:=h.iter_ne m;obtain⟨b,i|⟨g,cap,cur,d,a,j,r⟩⟩:=h
 · exact⟨b,.inl i⟩
 · refine⟨b,.inr ⟨g,cap,cur,d,a,?_,r⟩⟩;rw [Lib.iterAt_other w k g s pos' (fun e=>c (by rw [d,e];rfl))];exact j
theorem grown_iter {B:Nat} {w w':World} {v:Value} {l:List UInt8} (h:N2 B w v l) {k:Nat} {s:ByteArray} {pos:Nat} (a:w.heap[k]?=some (.stringIter s pos)) (b:w.grownBy w' v.ownBlock):w'.heap[k]?=some (.stringIter s pos):=
 (b.block k (Array.getElem?_eq_some_iff.1 a).1 (h.iter_ne a)).trans a
theorem cJ {B:Nat} {w:World} {v:Value} {l:List UInt8} (h:N2 B w v l):
 (convert 169 9 v).run Tryz.prog w=.ok (.string ⟨l.toArray⟩) w:=by
 by_cases c:l= []
 · subst c;obtain⟨_,d|⟨g,cap,cur,i,_⟩⟩:=h
   · rw [d.1,run_convert_bytes_string w _ _ 5 none 0 0 Tryz.underlying169 Tryz.underlying5 Tryz.underlying9];rfl
   · rw [i];exact run_convert_bytes_back (P:=Tryz.prog) w 169 9 5 ⟨g,0,none⟩ cap [] Tryz.underlying169 Tryz.underlying5 Tryz.underlying9 (fun j a=>absurd a (Nat.not_lt_zero j))
 · have b:0<l.length:=List.length_pos_iff.2 c;obtain⟨g,cap,rfl,_⟩:=World.ownsRow.form h b;refine run_convert_bytes_back (P:=Tryz.prog) w 169 9 5 ⟨g,0,none⟩ cap l Tryz.underlying169 Tryz.underlying5 Tryz.underlying9 (fun j a=>?_);rw [show(⟨g,0,none⟩:Addr).add j=⟨g,j,none⟩from(by simp [Addr.add];exact Eq.symm),World.ownsRow.cellAt h j (by omega)];unfold byc;rw [List.getElem?_map,List.getElem?_eq_getElem a];rfl
theorem oQ {c:Nat} (h:B3 c):Lib.runeCells (c:Int)=byc (J4 (c:Int)):=by
 have g:=h;unfold B3 at g;unfold Lib.runeCells byc;rw [G8 h];by_cases a:c<128
 · rw [J_ a,Lib.encodeRuneZ_one (by omega) (by omega)];simp only [List.map_cons,List.map_nil]
   rw [D2 c (by omega)]
 rw [I_ a];by_cases b:c<2048
 · rw [J_ b,Lib.encodeRuneZ_two (by omega) (by omega)];simp only [List.map_cons,List.map_nil]
   rw [D2 _ (by omega),D2 _ (by omega)];rfl
 rw [I_ b];by_cases d:c<65536
 · rw [J_ d,Lib.encodeRuneZ_three (by omega)];simp only [List.map_cons,List.map_nil]
   rw [D2 _ (by omega),D2 _ (by omega),D2 _ (by omega)];rfl
 · rw [I_ d,Lib.encodeRuneZ_four (by omega) (by omega)];simp only [List.map_cons,List.map_nil]
   rw [D2 _ (by omega),D2 _ (by omega),D2 _ (by omega),D2 _ (by omega)];rfl
def Y6 (B:Nat) (w:World) (q:Nat) (a:Int) (text:List UInt8) (num:Int) (dig:Nat):Prop:=
 B<=q/\ ∃v,w.heap[q]?=some (.cells #[.int .i64 a,v,.int .i32 num,.int .i64 (dig:Nat)] 171 (0,0))/\N2 B w v text
def P4 (B:Nat) (w w':World):Prop:=Below B w w'/\ ∀(k:Nat) (s:ByteArray) (pos:Nat),w.heap[k]?=some (.stringIter s pos)->w'.heap[k]?=some (.stringIter s pos)
theorem P4.refl (B:Nat) (w:World):P4 B w w:=⟨F_ _ _,fun _ _ _ h=>h⟩
theorem P4.trans {B:Nat} {a b c:World} (h:P4 B a b) (k:P4 B b c):P4 B a c:=⟨h.1.trans k.1,fun i s p d=>k.2 i s p (h.2 i s p d)⟩
theorem P4.setCell {B:Nat} {w w':World} (h:P4 B w w') {q i:Nat} {C:Array Value} {t:TypeId} {fz:Nat×Nat} (d:B<=q) (c:w'.heap[q]?=some (.cells C t fz)) (u:Value):P4 B w (w'.setCell ⟨q,i,none⟩ u):=by
 refine⟨h.1.setCell d u,fun k s pos g=>?_⟩;have a:=h.2 k s pos g;have b:k≠q:=by rintro rfl;rw [a]at c;cases c
 rw [S_ _ _ _ _ b];exact a
theorem P4.drew {B:Nat} {w w':World} (h:P4 B w w'):P4 B w w'.drew:=⟨h.1.drew,h.2⟩
theorem N2.not_q {B:Nat} {w:World} {v:Value} {l:List UInt8} (h:N2 B w v l) {q:Nat} {C:Array Value} {fz:Nat×Nat} (c:w.heap[q]?=some (.cells C 171 fz)):some q≠v.ownBlock:=by
 intro e;obtain⟨_,b|⟨g,cap,cur,d,_,a,_⟩⟩:=h
 · rw [b.1]at e;cases e
 · rw [d]at e;have:q=g:=Option.some.inj e;subst this;rw [c]at a;injection a with a;injection a with _ h2 _;exact absurd h2 (by decide)
theorem N2.setCell {B:Nat} {w:World} {v:Value} {l:List UInt8} (h:N2 B w v l) {q i:Nat} {C:Array Value} {fz:Nat×Nat} (m:w.heap[q]?=some (.cells C 171 fz)) (u:Value):N2 B (w.setCell ⟨q,i,none⟩ u) v l:=by
 have c:=h.not_q m;obtain⟨b,j|⟨g,cap,cur,d,a,k,r⟩⟩:=h
 · exact⟨b,.inl j⟩
 · refine⟨b,.inr ⟨g,cap,cur,d,a,?_,r⟩⟩;rw [S_ _ _ _ _ (show g≠q from fun e=>c (by rw [d,e];rfl))];exact k
theorem N2.slice {B:Nat} {w:World} {v:Value} {l:List UInt8} (h:N2 B w v l): ∃ad n cap,v=.slice ad n cap:=by
 obtain⟨_,a|⟨g,cap,cur,b,_⟩⟩:=h
 · exact⟨_,_,_,a.1⟩
 · exact⟨_,_,_,b⟩
theorem P0 {w:World} {q:Nat} {a b c d:Value} {t:TypeId} (h:w.heap[q]?=some (.cells #[a,b,c,d] t (0,0))):
 w.cell? ⟨q,0,none⟩=some a/\w.cell? ⟨q,1,none⟩=some b/\w.cell? ⟨q,2,none⟩=some c/\w.cell? ⟨q,3,none⟩=some d/\w.frozen? ⟨q,0,none⟩=false/\w.frozen? ⟨q,1,none⟩=false/\w.frozen? ⟨q,2,none⟩=false/\w.frozen? ⟨q,3,none⟩=false:=by
 simp [World.cell?,World.frozen?,h]
def QOut (B q:Nat) (w:World) (o:Option (Int×List UInt8×Int×Nat)) (e:Ending) (w':World):Prop:=
 match o with
 |none=>e=.returned (.bool false)/\P4 B w w'
 |some (a,t,m,d)=>e=.returned (.bool true)/\Y6 B w' q a t m d/\P4 B w w'
theorem tX (B q:Nat) (w:World) (a num ci:Int) (text:List UInt8) (dig c:Nat) (C:ci=c) (E:B3 c) (h:Y6 B w q a text num dig) (O:text.length<=1000000):
 Calls Tryz.prog 186 #[.pointer (some ⟨q,0,none⟩),.int .i32 ci] w (QOut B q w (some (1,text++J4 ci,num,dig))):=by
 obtain⟨p,v,A,b⟩:=h;obtain⟨ad,ln,cap,rfl⟩:=b.slice;obtain⟨c0,c1,c2,c3,f0,f1,f2,f3⟩:=P0 A;have H:q<w.heap.size:=(Array.getElem?_eq_some_iff.1 A).1;have u:=oQ E;rw [<-C]at u;have D:=E;unfold B3 at D;have cA:=Tryz.utf8_AppendRune_plain B (.slice ad ln cap) text.length (byc text) ci (by omega) (by omega) w b (by omega) (by omega);rw [u]at cA;have I:=D_ cA;have N:=D_ A;clear cA u C E D A;generalize J4 ci=x at*;go_enter Tryz.func186,Tryz.ntmps186;go_wp2_with fail;refine I.out.mono ?_;rintro e w1 ⟨v',rfl,l,o,y⟩;have m:(w.alloc o).heap[q]?=_:=(A_ w o q H).trans N.out;have g:N2 B (w.alloc o) (.slice ad ln cap) text:=World.ownsRow.alloc b o;have r:w1.heap[q]?=some (.cells #[.int .i64 a,.slice ad ln cap,.int .i32 num,.int .i64 (dig:Nat)] 171 (0,0)):=by
  rw [y.block q (Array.getElem?_eq_some_iff.1 m).1 (g.not_q m)];exact m
 have d:N2 B w1 v' (text++x):=by
  unfold N2;rw [P_,byc_append,<-byc_length x];exact l
 have j:P4 B w w1:=by
  refine⟨((F_ B w).alloc (by omega) o).grown y (by simp;omega) (fun k z=>(World.ownsRow.lt b k z).1),fun k s pos z=>?_⟩;have F:(w.alloc o).heap[k]?=some (.stringIter s pos):=(A_ w o k (Array.getElem?_eq_some_iff.1 z).1).trans z;exact grown_iter g F y
 obtain⟨ad',ln',cap',rfl⟩:=d.slice;obtain⟨g0,g1,g2,g3,k0,k1,k2,k3⟩:=P0 r;have n:=D_ r;have J:=D_ j;have M:=D_ d;clear m g l y b c0 c1 c2 c3 f0 f1 f2 f3 r j d g2 g3 k2 k3;go_wp2_with fail;go_ret;have t:=H_ (i:=1) n.out (.slice ad' ln' cap');have G:=H_ (i:=0) t (.int .i64 1);exact⟨rfl,⟨p,.slice ad' ln' cap',by simpa using G,(M.out.setCell n.out _).setCell t _⟩,(J.out.setCell p n.out _).setCell p t _⟩
theorem Wx (c:Nat) (h:c<55296):B3 c:=.inl h
theorem Y6.at {B q:Nat} {w:World} {a num:Int} {text:List UInt8} {dig:Nat} (h:Y6 B w q a text num dig) (a':Int):Y6 B (w.setCell ⟨q,0,none⟩ (.int .i64 a')) q a' text num dig/\P4 B w (w.setCell ⟨q,0,none⟩ (.int .i64 a')):=by
 obtain⟨b,v,d,c⟩:=h;have g:=H_ (i:=0) d (.int .i64 a');exact⟨⟨b,v,by simpa using g,c.setCell d _⟩,(P4.refl B w).setCell b d _⟩
theorem Y6.number {B q:Nat} {w:World} {a num:Int} {text:List UInt8} {dig:Nat} (h:Y6 B w q a text num dig) (m:Int):Y6 B (w.setCell ⟨q,2,none⟩ (.int .i32 m)) q a text m dig/\P4 B w (w.setCell ⟨q,2,none⟩ (.int .i32 m)):=by
 obtain⟨b,v,d,c⟩:=h;have g:=H_ (i:=2) d (.int .i32 m);exact⟨⟨b,v,by simpa using g,c.setCell d _⟩,(P4.refl B w).setCell b d _⟩
theorem Y6.digits {B q:Nat} {w:World} {a num:Int} {text:List UInt8} {dig:Nat} (h:Y6 B w q a text num dig) (d:Nat):Y6 B (w.setCell ⟨q,3,none⟩ (.int .i64 (d:Nat))) q a text num d/\P4 B w (w.setCell ⟨q,3,none⟩ (.int .i64 (d:Nat))):=by
 obtain⟨b,v,g,c⟩:=h;have j:=H_ (i:=3) g (.int .i64 (d:Nat));exact⟨⟨b,v,by simpa using j,c.setCell g _⟩,(P4.refl B w).setCell b g _⟩
theorem Y6.drew {B q:Nat} {w:World} {a num:Int} {text:List UInt8} {dig:Nat} (h:Y6 B w q a text num dig):Y6 B w.drew q a text num dig:=h
theorem Y6.cells {B q:Nat} {w:World} {a num:Int} {text:List UInt8} {dig:Nat} (h:Y6 B w q a text num dig):
 w.cell? ⟨q,0,none⟩=some (.int .i64 a)/\w.cell? ⟨q,2,none⟩=some (.int .i32 num)/\w.cell? ⟨q,3,none⟩=some (.int .i64 (dig:Nat))/\w.frozen? ⟨q,0,none⟩=false/\w.frozen? ⟨q,2,none⟩=false/\w.frozen? ⟨q,3,none⟩=false:=by
 obtain⟨_,v,b,_⟩:=h;obtain⟨c0,_,c2,c3,f0,_,f2,f3⟩:=P0 b;exact⟨c0,c2,c3,f0,f2,f3⟩
theorem mZ (B q:Nat) (w:World) (num ci:Int) (text:List UInt8) (dig c:Nat) (d:ci=c) (k:B3 c) (h:Y6 B w q 1 text num dig) (i:text.length<=1000000):
 Calls Tryz.prog 185 #[.pointer (some ⟨q,0,none⟩),.int .i32 ci] w (QOut B q w (M6 1 text num dig ci)):=by
 have hx:M6 1 text num dig ci=(if ci=39 then some (2,text,num,dig)else if ci=92 then some (3,text,num,dig)else if ci<32 then none else some (1,text++J4 ci,num,dig)):=rfl;rw [hx];clear hx;have l:=D_ (tX B q w 1 num ci text dig c d k h i);obtain⟨c0,c2,c3,f0,f2,f3⟩:=h.cells;have j:=D_ h;have o:0<=ci:=by omega
 clear h k d c2 c3 f2 f3;by_cases a:ci=39
 · rw [J_ a];subst a;go_enter Tryz.func185,Tryz.ntmps185;go_wp2_with fail;go_ret;exact⟨rfl,j.out.at 2⟩
 rw [I_ a];have e39:(ci==39)=false:=by simpa using a
 by_cases b:ci=92
 · rw [J_ b];subst b;clear a;go_enter Tryz.func185,Tryz.ntmps185;go_wp2_with fail;go_ret;exact⟨rfl,j.out.at 3⟩
 rw [I_ b];have e92:(ci==92)=false:=by simpa using b
 by_cases g:ci<32
 · rw [J_ g];clear a b;go_enter Tryz.func185,Tryz.ntmps185;go_wp2_with fail;go_ret;exact⟨rfl,P4.refl _ _⟩
 rw [I_ g];have p:32<=ci:=by omega
 clear a b g;go_enter Tryz.func185,Tryz.ntmps185;go_wp2_with fail;refine l.out.mono ?_;rintro e w1 ⟨rfl,n,m⟩;go_wp2_with fail;go_ret;exact⟨rfl,n,m⟩
theorem RQ (B q:Nat) (w:World) (num ci:Int) (text:List UInt8) (dig c:Nat) (l:ci=c) (p:B3 c) (h:Y6 B w q 3 text num dig) (b:text.length<=1000000):
 Calls Tryz.prog 187 #[.pointer (some ⟨q,0,none⟩),.int .i32 ci] w (QOut B q w (M6 3 text num dig ci)):=by
 have hx:M6 3 text num dig ci=(if ci=92\/ci=39 then some (1,text++J4 ci,num,dig)else if ci=110 then some (1,text++J4 10,num,dig)else if ci=116 then some (1,text++J4 9,num,dig)else if ci=120 then some (4,text,0,0)else none):=rfl;rw [hx];clear hx;have m:=D_ (tX B q w 3 num ci text dig c l p h b);have n:=D_ (tX B q w 3 num 10 text dig 10 rfl (Wx 10 (by decide)) h b);have o:=D_ (tX B q w 3 num 9 text dig 9 rfl (Wx 9 (by decide)) h b);obtain⟨c0,c2,c3,f0,f2,f3⟩:=h.cells;have r:=D_ h;clear h p l;by_cases k:ci=92\/ci=39
 · rw [J_ k];clear n o;rcases k with rfl|rfl
   all_goals
    go_enter Tryz.func187,Tryz.ntmps187;go_wp2_with fail;refine m.out.mono ?_;rintro e w1 ⟨rfl,j,i⟩;go_wp2_with fail;go_ret;exact⟨rfl,j,i⟩
 rw [I_ k];have e92:(ci==92)=false:=by simp;omega
 have e39:(ci==39)=false:=by simp;omega
 clear k m;by_cases a:ci=110
 · rw [J_ a];subst a;go_enter Tryz.func187,Tryz.ntmps187;go_wp2_with fail;refine n.out.mono ?_;rintro e w1 ⟨rfl,j,i⟩;go_wp2_with fail;go_ret;exact⟨rfl,j,i⟩
 rw [I_ a];by_cases d:ci=116
 · rw [J_ d];subst d;clear a;go_enter Tryz.func187,Tryz.ntmps187;go_wp2_with fail;refine o.out.mono ?_;rintro e w1 ⟨rfl,j,i⟩;go_wp2_with fail;go_ret;exact⟨rfl,j,i⟩
 rw [I_ d];by_cases g:ci=120
 · rw [J_ g];subst g;clear a d;go_enter Tryz.func187,Tryz.ntmps187;go_wp2_with fail;go_ret;have m1:=r.out.at 4;have m2:=m1.1.number 0;have m3:=m2.1.digits 0;exact⟨rfl,m3.1,(m1.2.trans m2.2).trans m3.2⟩
 rw [I_ g];have e110:(ci==110)=false:=by simpa using a
 have e116:(ci==116)=false:=by simpa using d
 have e120:(ci==120)=false:=by simpa using g
 clear a d g;go_enter Tryz.func187,Tryz.ntmps187;go_wp2_with fail;go_ret;exact⟨rfl,P4.refl _ _⟩
def hexOk (c:Int):Bool:=decide (0<=p7 c)
def hexN (c:Int):Int:=if 0<=p7 c then p7 c else 0
theorem SX (c:Int) (w:World):
 Calls Tryz.prog 198 #[.int .i32 c] w fun e w'=>e=.returned (.tuple #[.int .i32 (hexN c),.bool (hexOk c)])/\w=w':=by
 unfold hexN hexOk p7;by_cases a:48<=c/\c<=57
 · rw [J_ a,J_ (by omega),decide_eq_true (by omega)];obtain⟨i,j⟩:=a;go_enter Tryz.func198,Tryz.ntmps198;go_wp2_with fail;go_ret2;exact⟨rfl,rfl⟩
 rw [I_ a];by_cases b:97<=c/\c<=102
 · rw [J_ b,J_ (by omega),decide_eq_true (by omega),show c-87=c-97+10 by omega];obtain⟨k,l⟩:=b;clear a;go_enter Tryz.func198,Tryz.ntmps198;go_wp2_with fail;go_ret2;exact⟨rfl,rfl⟩
 rw [I_ b];by_cases g:65<=c/\c<=70
 · rw [J_ g,J_ (by omega),decide_eq_true (by omega),show c-55=c-65+10 by omega];obtain⟨m,n⟩:=g;clear a b;go_enter Tryz.func198,Tryz.ntmps198;go_wp2_with fail;go_ret2;exact⟨rfl,rfl⟩
 rw [I_ g,I_ (by decide),decide_eq_false (by decide)];have d:c<48\/(58<=c/\c<65)\/(71<=c/\c<97)\/103<=c:=by omega
 clear a b g;rcases d with d|⟨d,h⟩|⟨d,h⟩|d
 all_goals
  go_enter Tryz.func198,Tryz.ntmps198;go_wp2_with fail;go_ret2;exact⟨rfl,rfl⟩
theorem takeR4 (text:List UInt8) (num:Int) (dig:Nat) (c:Int):M6 4 text num dig c=(if c=92 then(if 0<dig/\Lib.validRune num=true then some (1,text++J4 num,num,dig)else none)else if p7 c<0\/dig=6 then none else some (4,text,num*16+p7 c,dig+1)):=rfl
theorem NJ (B q:Nat) (w:World) (num:Int) (text:List UInt8) (dig:Nat) (p:0<=num) (o:dig<=6) (h:Y6 B w q 4 text num dig) (j:text.length<=1000000):
 Calls Tryz.prog 188 #[.pointer (some ⟨q,0,none⟩),.int .i32 92] w (QOut B q w (if 0<dig/\Lib.validRune num=true then some (1,text++J4 num,num,dig)else none)):=by
 have c:=D_ (Tryz.utf8_ValidRune num w);obtain⟨c0,c2,c3,f0,f2,f3⟩:=h.cells;by_cases g:0<dig
 · have n:(0:Int)<(dig:Int):=by omega
   by_cases a:Lib.validRune num=true
   · rw [J_ ⟨g,a⟩];have b:=c.out;rw [a]at b;have d:=D_ b;have i:B3 num.toNat:=by
      unfold Lib.validRune at a;rw [decide_eq_true_eq]at a;unfold B3;omega
     have k:=D_ (tX B q w 4 num num text dig num.toNat (by omega) i h j);clear h i a b c g;go_enter Tryz.func188,Tryz.ntmps188;go_wp2_with fail;refine d.out.mono ?_;rintro e w' ⟨rfl,rfl⟩;go_wp2_with fail;refine k.out.mono ?_;rintro e w1 ⟨rfl,m,l⟩;go_wp2_with fail;go_ret;exact⟨rfl,m,l⟩
   · rw [I_ (fun e=>a e.2)];have b:=c.out;rw [show Lib.validRune num=false by simpa using a]at b;have d:=D_ b;clear h a b c g;go_enter Tryz.func188,Tryz.ntmps188;go_wp2_with fail;refine d.out.mono ?_;rintro e w' ⟨rfl,rfl⟩;go_wp2_with fail;go_ret;exact⟨rfl,P4.refl _ _⟩
 · rw [I_ (fun e=>g e.1)];obtain rfl:dig=0:=by omega
   clear h c g;go_enter Tryz.func188,Tryz.ntmps188;go_wp2_with fail;go_ret;exact⟨rfl,P4.refl _ _⟩
set_option maxRecDepth 100000 in
theorem OJ (B q:Nat) (w:World) (num ci:Int) (text:List UInt8) (dig:Nat) (n:0<=num) (l:dig<=6) (a:dig≠6->num<1048576) (h:Y6 B w q 4 text num dig) (d:text.length<=1000000):
 Calls Tryz.prog 188 #[.pointer (some ⟨q,0,none⟩),.int .i32 ci] w (QOut B q w (M6 4 text num dig ci)):=by
 rw [takeR4];by_cases c:ci=92
 · rw [J_ c];subst c;exact NJ B q w num text dig n l h d
 rw [I_ c];have e92:(ci==92)=false:=by simpa using c
 have b:=fun w=>SX ci w;obtain⟨c0,c2,c3,f0,f2,f3⟩:=h.cells;have g:=Nj ci;have o:=D_ h;clear h c d;by_cases j:p7 ci<0
 · rw [J_ (.inl j)];rw [show hexOk ci=false from decide_eq_false (by omega)]at b;have i:=D_ b;generalize hexN ci=m at*;clear b j g a;go_enter Tryz.func188,Tryz.ntmps188;go_wp2_with fail;refine(i.out _).mono ?_;rintro e w' ⟨rfl,rfl⟩;go_wp2_with fail;go_ret;exact⟨rfl,P4.refl _ _⟩
 rw [show hexOk ci=true from decide_eq_true (by omega),show hexN ci=p7 ci from J_ (by omega)]at b;have r:0<=p7 ci:=by omega
 have s:p7 ci<=15:=g.2;have i:=D_ b;clear b g;by_cases k:dig=6
 · rw [J_ (.inr k)];subst k;clear j a;generalize p7 ci=m at*;go_enter Tryz.func188,Tryz.ntmps188;go_wp2_with fail;refine(i.out _).mono ?_;rintro e w' ⟨rfl,rfl⟩;go_wp2_with fail;go_ret;exact⟨rfl,P4.refl _ _⟩
 rw [I_ (by omega)];have p:=a k;have e6:((dig:Int)==6)=false:=by simp;omega
 clear j a;generalize p7 ci=m at*;go_enter Tryz.func188,Tryz.ntmps188;go_wp2_with fail;refine(i.out _).mono ?_;rintro e w' ⟨rfl,rfl⟩;go_wp2_with fail;go_region
 all_goals
  go_wp2_with fail;go_ret;have m1:=o.out.drew.number (num*16+m);have m2:=m1.1.digits (dig+1);exact⟨rfl,m2.1,((P4.refl B w).drew.trans m1.2).trans m2.2⟩
theorem q_take (B q:Nat) (w:World) (a num ci:Int) (text:List UInt8) (dig c:Nat) (d:ci=c) (l:B3 c) (A:0<=a/\a<=4/\(a=4->0<=num/\num<16777216/\dig<=6/\(dig≠6->num<1048576))) (h:Y6 B w q a text num dig) (j:text.length<=1000000):
 Calls Tryz.prog 168 #[.pointer (some ⟨q,0,none⟩),.int .i32 ci] w (QOut B q w (M6 a text num dig ci)):=by
 obtain⟨s,t,i⟩:=A;have u:a=0\/a=1\/a=2\/a=3\/a=4:=by omega
 obtain⟨c0,c2,c3,f0,f2,f3⟩:=h.cells;clear s t;rcases u with rfl|rfl|rfl|rfl|rfl
 · rw [show M6 0 text num dig ci=(if ci=39 then some (1,text,num,dig)else none)from rfl];have r:=D_ h;clear h l d i;by_cases g:ci=39
   · rw [J_ g];subst g;go_enter Tryz.func168,Tryz.ntmps168;go_wp2_with fail;go_ret;exact⟨rfl,r.out.at 1⟩
   · rw [I_ g];have e1:(ci==39)=false:=by simpa using g
     clear g;go_enter Tryz.func168,Tryz.ntmps168;go_wp2_with fail;go_ret;exact⟨rfl,(r.out.at 1).2⟩
 · have n:=D_ (mZ B q w num ci text dig c d l h j);generalize M6 1 text num dig ci=o at*;clear h l d i;go_enter Tryz.func168,Tryz.ntmps168;go_wp2_with fail;refine n.out.mono ?_;intro e w1 k;cases o with
   |none=>
    obtain⟨rfl,b⟩:=k;go_wp2_with fail;go_ret;exact⟨rfl,b⟩
   |some y=>
    obtain⟨rfl,m,b⟩:=k;go_wp2_with fail;go_ret;exact⟨rfl,m,b⟩
 · rw [show M6 2 text num dig ci=(if ci=39 then some (1,text++J4 ci,num,dig)else none)from rfl];have z:=D_ (tX B q w 2 num ci text dig c d l h j);clear h l d i;by_cases g:ci=39
   · rw [J_ g];subst g;go_enter Tryz.func168,Tryz.ntmps168;go_wp2_with fail;refine z.out.mono ?_;rintro e w1 ⟨rfl,m,b⟩;go_wp2_with fail;go_ret;exact⟨rfl,m,b⟩
   · rw [I_ g];have e1:(ci==39)=false:=by simpa using g
     clear g;go_enter Tryz.func168,Tryz.ntmps168;go_wp2_with fail;go_ret;exact⟨rfl,P4.refl _ _⟩
 · have n:=D_ (RQ B q w num ci text dig c d l h j);generalize M6 3 text num dig ci=o at*;clear h l d i;go_enter Tryz.func168,Tryz.ntmps168;go_wp2_with fail;refine n.out.mono ?_;intro e w1 k;cases o with
   |none=>
    obtain⟨rfl,b⟩:=k;go_wp2_with fail;go_ret;exact⟨rfl,b⟩
   |some y=>
    obtain⟨rfl,m,b⟩:=k;go_wp2_with fail;go_ret;exact⟨rfl,m,b⟩
 · obtain⟨x,C,v,p⟩:=i rfl;have n:=D_ (OJ B q w num ci text dig x v p h j);generalize M6 4 text num dig ci=o at*;clear h l d i p;go_enter Tryz.func168,Tryz.ntmps168;go_wp2_with fail;refine n.out.mono ?_;intro e w1 k;cases o with
   |none=>
    obtain⟨rfl,b⟩:=k;go_wp2_with fail;go_ret;exact⟨rfl,b⟩
   |some y=>
    obtain⟨rfl,m,b⟩:=k;go_wp2_with fail;go_ret;exact⟨rfl,m,b⟩
theorem dev_broken (s:ByteArray) (ci:Int) (c n:Nat) (b:ci=c) (w:World) (j:Tabs w) (k:Lib.decodeGo s=(c,n)):
 Calls Tryz.prog 167 #[.string s,.int .i32 ci] w fun e w'=>e=.returned (.bool (decide (c=65533/\n=1)))/\Below w.heap.size w w':=by
 have cD:=Tryz.utf8_DecodeRuneInString s w j.1;rw [k]at cD;have g:=D_ cD;clear cD j k;by_cases a:c=65533
 · by_cases d:n=1
   · rw [decide_eq_true ⟨a,d⟩];have e1:(ci !=65533)=false:=by simp;omega
     have e2:((n:Int)==1)=true:=by simp;omega
     clear b a d;go_enter Tryz.func167,Tryz.ntmps167;go_wp2_with fail;refine g.out.mono ?_;rintro e w1 ⟨rfl,i⟩;go_wp2_with fail;go_ret;exact⟨rfl,i⟩
   · rw [decide_eq_false (fun h=>d h.2)];have e1:(ci !=65533)=false:=by simp;omega
     have e2:((n:Int)==1)=false:=by simp;omega
     clear b a d;go_enter Tryz.func167,Tryz.ntmps167;go_wp2_with fail;refine g.out.mono ?_;rintro e w1 ⟨rfl,i⟩;go_wp2_with fail;go_ret;exact⟨rfl,i⟩
 · rw [decide_eq_false (fun h=>a h.1)];have e1:(ci !=65533)=true:=by simp;omega
   clear b a g;go_enter Tryz.func167,Tryz.ntmps167;go_wp2_with fail;go_ret;exact⟨rfl,F_ _ _⟩
theorem Y6.below {B q:Nat} {w w':World} {a num:Int} {text:List UInt8} {dig:Nat} (h:Y6 B w q a text num dig) (d:Below w.heap.size w w'):Y6 B w' q a text num dig:=by
 obtain⟨c,v,g,b⟩:=h;exact⟨c,v,(d.block q (Array.getElem?_eq_some_iff.1 g).1).trans g,b.below d⟩
theorem Y6.iterAt {B q:Nat} {w:World} {a num:Int} {text:List UInt8} {dig:Nat} (h:Y6 B w q a text num dig) {k:Nat} {s:ByteArray} {pos:Nat} (g:w.heap[k]?=some (.stringIter s pos)) (pos':Nat):Y6 B (w.iterAt k s pos') q a text num dig:=by
 obtain⟨d,v,c,b⟩:=h;have i:q≠k:=by rintro rfl;rw [g]at c;cases c
 exact⟨d,v,by rw [Lib.iterAt_other w k q s pos' i];exact c,b.iterAt g pos'⟩
theorem alloc_heap (w:World) (o:Obj):(w.alloc o).heap[w.heap.size]?=some o:=Array.getElem?_push_size
theorem JZ (a:Int) (text:List UInt8) (num:Int) (dig:Nat) (c:Int):M6 a text num dig c=none\/ ∃a' t' m' d',M6 a text num dig c=some (a',t',m',d')/\t'.length<=text.length+4:=by
 have d: ∀r,(text++J4 r).length<=text.length+4:=fun r=>by have:=(K7 r).2;rw [P_];omega
 have b:text.length<=text.length+4:=by omega
 unfold M6;repeat' split
 all_goals first|exact .inl rfl|exact .inr ⟨_,_,_,_,rfl,d _⟩|exact .inr ⟨_,_,_,_,rfl,b⟩
def RSt (s:ByteArray) (w:World) (ev:Value) (wr:World):Prop:= ∃(pos:Nat) (a:Int) (text:List UInt8) (num:Int) (dig:Nat),ev=.int .i64 (s.size:Nat)/\pos<=s.size/\text.length<=4*pos/\wr.heap[w.heap.size+1]?=some (.stringIter s pos)/\Below w.heap.size w wr/\Y6 w.heap.size wr w.heap.size a text num dig/\QSt s.data.toList pos a text num dig
set_option maxRecDepth 100000 in
theorem char_Read (s:ByteArray) (w:World) (hs:s.size<=200000) (hT:Tabs w):
 Calls Tryz.prog 141 #[.string s] w fun e w'=>
  e=.returned (.tuple #[.string ⟨(vX s.data.toList).toArray⟩,.int .i64 (uX s.data.toList:Nat),.int .i64 (wX s.data.toList)])/\Below w.heap.size w w':=by
 have HT:=D_ hT;clear hT;go_enter Tryz.func141,Tryz.ntmps141;go_wp2_with fail;go_loopw [6] (fun ev wr=>RSt s w ev wr) (fun _ wr=>s.size-wr.iterPos (w.heap.size+1))
 case atStart=>
  have hz:(w.alloc (.cells #[.int .i64 0,.slice none 0 0,.int .i32 0,.int .i64 0] 171)).heap.size=w.heap.size+1:=by simp
  have hn:(w.alloc (.cells #[.int .i64 0,.slice none 0 0,.int .i32 0,.int .i64 0] 171)).heap[w.heap.size]?=some (.cells #[.int .i64 0,.slice none 0 0,.int .i32 0,.int .i64 0] 171 (0,0)):=alloc_heap w _;have p_:Below w.heap.size w (w.alloc (.cells #[.int .i64 0,.slice none 0 0,.int .i32 0,.int .i64 0] 171)):=(F_ _ w).alloc (R_ _) _;generalize (w.alloc (.cells #[.int .i64 0,.slice none 0 0,.int .i32 0,.int .i64 0] 171))=W1 at*;have i:(W1.iter s 0).heap[W1.heap.size]?=some (.stringIter s 0):=by simpa using World.iter_heap W1 s 0
  rw [hz]at i;refine⟨0,0,[],0,0,rfl,Nat.zero_le _,R_ _,i,p_.alloc (by omega) _,⟨R_ _,.slice none 0 0,?_,O_ _ _ _ _⟩,.inl ⟨rfl,rfl,rfl⟩⟩;exact(A_ W1 (.stringIter s 0) w.heap.size (by omega)).trans hn
 case round =>
  obtain⟨pos,a,text,num,dig,rfl,t_,x_,i,X,hm,j⟩:=hrel;have j_:w.heap.size+1<wr.heap.size:=(Array.getElem?_eq_some_iff.1 i).1;have J:=j.at;by_cases hp:pos<s.size
  · have M :=drop_ne s pos hp;have c_: ∀ty,(Instr.next (.pointer (some ⟨w.heap.size+1,0,none⟩)) true ty).run Tryz.prog wr=_:=fun ty=>Lib.run_next_any_at wr (w.heap.size+1) s pos ty i hp;have G:=Lib.iterAt_heap wr (w.heap.size+1) s pos (pos+(Utf8.decode s pos).2) i;have l:=Lib.below_iterAt X (k:=w.heap.size+1) (by omega) s (pos+(Utf8.decode s pos).2);have D:=hm.iterAt i (pos+(Utf8.decode s pos).2);have h_:=H6 s pos hp;have g_:(s.extract pos s.size).size≠0:=by simp;omega
    have d_:Lib.decodeGo (s.extract pos s.size)=Utf8.decode s pos:=by rw [F8 _ g_,K9,Lib.decodeL_drop]
    have A:=fun W h=>j.step M W h;have E:=fun W h=>j.bad M W h;have z:a=2->(Lib.decodeL (s.data.toList.drop pos)).1≠39->N3 s.data.toList=some (text,pos):=fun h1 h=>by subst h1;exact j.shut (.inr h)
    have H:=fun W=>(R6 (s.data.toList.drop pos) M W).1;rw [Lib.decodeL_drop]at A E z H;have p:=D_ A;have t:=D_ E;have m:=D_ z;have u:=D_ H;have B:=D_ d_;have I:=D_ J;have u_:=D_ j_;clear A E z H d_ g_ M j hm J;generalize wr.iterAt (w.heap.size+1) s (pos+(Utf8.decode s pos).2)=W2 at c_ G l D;have N:(Utf8.decode s pos)=((Utf8.decode s pos).1,(Utf8.decode s pos).2):=rfl;rw [N]at B;clear N;generalize (Utf8.decode s pos).1=c at*;generalize (Utf8.decode s pos).2=n at*;obtain⟨v_,w_⟩:=h_;obtain⟨ci,g⟩: ∃ci:Int,(c:Int)=ci:=⟨_,rfl⟩;rw [g]at c_;have V:=D_ g;by_cases C:a=2/\c≠39
    · obtain⟨rfl,Y⟩:=C;have b:=D_ (D7 (m.out rfl Y));have e39:(ci !=39)=true:=by rw [<-g];simp;omega
      obtain⟨o_,v,U,d⟩:=D;obtain⟨ad,ln,cap,rfl⟩:=d.slice;obtain⟨c0,c1,c2,c3,f0,f1,f2,f3⟩:=P0 U;have q_:=cJ d;clear g V p t m u B I U d Y;go_wp2_with fail;go_ret3;exact⟨O4 (by rw [b.out.1]) (by rw [b.out.2.1]) (by rw [b.out.2.2]),l⟩
    · obtain⟨c0,c2,c3,f0,f2,f3⟩:=D.cells;have R:(a==2)=false\/((a==2)=true/\(ci !=39)=false):=by
       by_cases h:a=2
       · right;exact⟨by simpa using h,by rw [<-g];simp;omega⟩
       · left;simpa using h
      have O:=dev_broken (s.extract pos s.size) ci c n g.symm W2 (HT.out.on l) B.out;have e_:=l.size;by_cases r:c=65533/\n=1
      · rw [decide_eq_true r]at O;have HB:=D_ O;have b:=D_ (P5 (t.out r (fun h=>C ⟨h,by omega⟩)));clear g V p t m u B I C r O;rcases R with R|⟨R,r_⟩
        all_goals
         go_wp2_with fail;refine HB.out.mono ?_;rintro e w3 ⟨rfl,q⟩;have x:=l.trans (q.mono e_);clear q;go_wp2_with fail;go_ret3;exact⟨O4 (by rw [b.out.1]) (by rw [b.out.2.1];rfl) (by rw [b.out.2.2]),x⟩
      · rw [decide_eq_false r]at O;have HB:=D_ O;have hS:=p.out r C;have f_:=u.out r;rw [g]at hS;have n_:=D_ (fun w3 b_=>q_take w.heap.size w.heap.size w3 a num ci text dig c g.symm f_ I.out b_ (by omega));have HS:=D_ hS;have l_:=D_ D;have Z:(M6 a text num dig ci=none)\/ ∃a' t' m' d',M6 a text num dig ci=some (a',t',m',d')/\t'.length<=text.length+4:=by
         exact JZ a text num dig ci
        clear g V p t m u B I C r O hS f_ D;generalize M6 a text num dig ci=o at*;have k_:=D_ Z;clear Z;rcases R with R|⟨R,r_⟩
        all_goals
         go_wp2_with fail;refine HB.out.mono ?_;rintro e w3 ⟨rfl,q⟩;have b_:=l_.out.below q;have i_:=(q.block _ (Array.getElem?_eq_some_iff.1 G).1).trans G;have x:=l.trans (q.mono e_);clear q;go_wp2_with fail;refine(n_.out w3 b_).mono ?_;intro e w4 ho;rcases k_.out with rfl|⟨a',t',m',d',rfl,Z⟩
         · obtain⟨rfl,T⟩:=ho;have F:=x.trans T.1;have b:=D_ (P5 HS.out);clear T HS;go_wp2_with fail;go_ret3;exact⟨O4 (by rw [b.out.1]) (by rw [b.out.2.1];rfl) (by rw [b.out.2.2]),F⟩
         · obtain⟨rfl,s_,T⟩:=ho;have F:=x.trans T.1;have a_:=T.2 _ _ _ i_;have m_:Hid (QSt s.data.toList (pos+n) a' t' m' d'):=D_ HS.out;clear T HS;go_wp2_with fail;go_roundw
           case rel=>exact⟨pos+n,a',t',m',d',rfl,by omega,by omega,a_,F,s_,m_.out⟩
           case measure=>
            simp only [World.iterPos,a_,i]
            omega
  · have c_: ∀ty,(Instr.next (.pointer (some ⟨w.heap.size+1,0,none⟩)) true ty).run Tryz.prog wr=_:=fun ty=>Lib.run_next_end_at wr (w.heap.size+1) s pos ty i hp;have y:s.data.toList.drop pos= []:=List.drop_eq_nil_of_le (by rw [n6];omega);obtain⟨o_,v,U,d⟩:=hm;obtain⟨ad,ln,cap,rfl⟩:=d.slice;obtain⟨c0,c1,c2,c3,f0,f1,f2,f3⟩:=P0 U;have q_:=cJ d;obtain rfl:pos=s.size:=by omega
    by_cases h:a=2
    · subst h;have b:=D_ (D7 (j.shut (.inl y)));clear j y U d J;go_wp2_with fail;go_ret3;exact⟨O4 (by rw [b.out.1]) (by rw [b.out.2.1]) (by rw [b.out.2.2]),X⟩
    · have b:=D_ (P5 (j.over y h));have e2:(a !=2)=true:=by simpa using h
      clear j y U d J h;go_wp2_with fail;go_ret3;exact⟨O4 (by rw [b.out.1]) (by rw [b.out.2.1];rfl) (by rw [b.out.2.2]),X⟩
end Go.Proofs.YtinefdlkajnomaaGreatDoor
