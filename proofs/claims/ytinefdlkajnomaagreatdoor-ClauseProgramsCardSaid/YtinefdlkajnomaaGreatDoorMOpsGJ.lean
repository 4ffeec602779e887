import Derived.Test.YtinefdlkajnomaaGreatDoorMOpsAC
import Derived.Laws.AppendOwn
import Derived.Laws.OwnMore
import Derived.Deep.AppendLies
import Derived.Laws.AppendOwnNone
namespace Go.Proofs.YtinefdlkajnomaaGreatDoor
open Go.RowKit
set_option maxHeartbeats 20000000
def Xx (l:List ByteArray):List Value:=l.map Value.string
theorem strs_append (a b:List ByteArray):Xx (a++b)=Xx a++Xx b:=List.map_append
def Z1 (B:Nat) (w:World) (v:Value) (l:List ByteArray):Prop:=w.ownsRow B 9 1 v l.length (Xx l)
theorem infoStr:(Tryz.prog.info? 9).map (fun i=>(i.zero,i.size,i.bytes))=some (some (.string ⟨#[]⟩),1,16):=by kernel_rfl
theorem Z1.below {B:Nat} {w w':World} {v:Value} {l:List ByteArray} (h:Z1 B w v l) (i:Below w.heap.size w w'):Z1 B w' v l:=by
 obtain⟨c,d|⟨g,cap,cur,j,a,b,r⟩⟩:=h
 · exact⟨c,.inl d⟩
 · exact⟨c,.inr ⟨g,cap,cur,j,a,(i.block g (Array.getElem?_eq_some_iff.1 b).1).trans b,r⟩⟩
theorem Z1.mono {B B':Nat} {w:World} {v:Value} {l:List ByteArray} (h:Z1 B w v l) (d:B'<=B):Z1 B' w v l:=by
 obtain⟨b,c|⟨g,cap,cur,i,a,r⟩⟩:=h
 · exact⟨b,.inl c⟩
 · exact⟨b,.inr ⟨g,cap,cur,i,Nat.le_trans d a,r⟩⟩
theorem Z1.snoc {B:Nat} {w:World} {v:Value} {l l2:List ByteArray} {n:Nat} {xs:List Value} (h:w.ownsRow B 9 1 v n xs) (a:n=(l++l2).length) (hx:xs=Xx l++Xx l2):Z1 B w v (l++l2):=by
 unfold Z1;rw [strs_append,<-a,<-hx];exact h
theorem Z1.view {B:Nat} {w:World} {v:Value} {l:List ByteArray} (h:Z1 B w v l): ∃ad cap,v=.slice ad l.length cap/\l.length<=cap/\cap<=maxLen/\ ∀j (a:j<l.length),∃g,ad=some ⟨g,0,none⟩/\w.cell? ⟨g,j,none⟩=some (.string l[j]):=by
 have i:=h;obtain⟨n,⟨rfl,d⟩|⟨g,cap,cur,rfl,k,m,c,b,r⟩⟩:=h
 · refine⟨none,0,by rw [d],by omega,Nat.zero_le _,fun j a=>by omega⟩
 · refine⟨some ⟨g,0,none⟩,cap,rfl,c,b,fun j a=>⟨g,rfl,?_⟩⟩;rw [World.ownsRow.cellAt i j (by omega)];unfold Xx;rw [List.getElem?_map,List.getElem?_eq_getElem a];rfl
def hasS (l:List ByteArray) (n:ByteArray):Bool:=l.any fun k=>n.toList==k.toList
def H8 (n:ByteArray):List ByteArray->Int->Int
 | [],_=> -1
 |k::l,i=>if n.toList==k.toList then i else H8 n l (i+1)
theorem Oj (n:ByteArray) (l:List ByteArray) (k:Nat) (h:k<l.length):H8 n (l.drop k) k=if n.toList==(l[k]'h).toList then(k:Int)else H8 n (l.drop (k+1)) ((k+1:Nat):Int):=by
 rw [List.drop_eq_getElem_cons h];rfl
theorem IZ (l:List ByteArray) (n:ByteArray) (v:Value) (B:Nat) (w:World) (h:Z1 B w v l) (r:l.length<=1000000000):
 Calls Tryz.prog 175 #[v,.string n] w fun e w'=>e=.returned (.int .i64 (H8 n l 0))/\w=w':=by
 obtain⟨ad,cap,rfl,s,_,a⟩:=h.view;obtain⟨E,j⟩: ∃E,H8 n l 0=E:=⟨_,rfl⟩;rw [j];have p:=D_ j;have o:=D_ a;clear h j a;go_enter Tryz.func175,Tryz.ntmps175;go_wp2_with fail;go_loop [8] (fun iv=> ∃k:Nat,k<=l.length/\iv=.int .i64 k/\Hid (H8 n (l.drop k) k=E)) (fun iv=>l.length-(intOf iv).toNat)
 case atStart=>exact⟨0,Nat.zero_le _,rfl,p⟩
 case round=>
  obtain⟨k,t,rfl,b⟩:=hrel;by_cases c:k<l.length
  · obtain⟨g,rfl,c0⟩:=o.out k c;have d:=D_ (Oj n l k c);generalize l[k]=x at*;cases hx:(n.toList==x.toList)with
    |true=>
     have i:Hid (E=k):=D_ (b.out.symm.trans (by rw [d.out,hx];rfl));go_wp2_with fail;go_ret;exact⟨M2 i.out.symm,rfl⟩
    |false=>
     have q:Hid (H8 n (l.drop (k+1)) ((k+1:Nat):Int)=E):=D_ (by rw [<-b.out,d.out,hx];rfl);go_wp2_with fail;go_round
     case rel=>exact⟨k+1,by omega,by go_num,q⟩
     case measure=>simp [intOf];omega
  · have m:=b.out;rw [List.drop_eq_nil_of_le (by omega)]at m;have i:Hid (E= -1):=D_ m.symm;clear m b;go_wp2_with fail;go_ret;exact⟨M2 i.out.symm,rfl⟩
def gZ:List ByteArray->List ByteArray->List ByteArray
 |out,[]=>out
 |out,n::l=>if hasS out n then gZ out l else gZ (out++ [n]) l
def namesL:List ByteArray:=gZ [] (q4.map R.n)
attribute [local go_sem] l4 Tryz.zeroCells180_size xq Tryz.zeroCells180_ne zz
end Go.Proofs.YtinefdlkajnomaaGreatDoor
namespace Go.Proofs.YtinefdlkajnomaaGreatDoor
open Go.RowKit
set_option maxHeartbeats 20000000
structure Q where
 p:Int
 k:ByteArray
 ns:List ByteArray
def Z4:List Q:= [⟨1200,⟨#[120,102,120]⟩,[⟨#[58,45]⟩]⟩,⟨1200,⟨#[102,120]⟩,[⟨#[58,45]⟩,⟨#[63,45]⟩]⟩,⟨1100,⟨#[120,102,121]⟩,[⟨#[59]⟩]⟩,⟨1050,⟨#[120,102,121]⟩,[⟨#[45,62]⟩]⟩,⟨1000,⟨#[120,102,121]⟩,[⟨#[44]⟩]⟩,⟨900,⟨#[102,121]⟩,[⟨#[92,43]⟩]⟩,⟨700,⟨#[120,102,120]⟩,[⟨#[61]⟩,⟨#[92,61]⟩,⟨#[61,61]⟩,⟨#[92,61,61]⟩,⟨#[64,60]⟩,⟨#[64,61,60]⟩,⟨#[64,62]⟩,⟨#[64,62,61]⟩,⟨#[61,46,46]⟩,⟨#[105,115]⟩,⟨#[61,58,61]⟩,⟨#[61,92,61]⟩,⟨#[60]⟩,⟨#[61,60]⟩,⟨#[62]⟩,⟨#[62,61]⟩]⟩,⟨500,⟨#[121,102,120]⟩,[⟨#[43]⟩,⟨#[45]⟩]⟩,⟨400,⟨#[121,102,120]⟩,[⟨#[42]⟩,⟨#[47,47]⟩,⟨#[114,101,109]⟩,⟨#[109,111,100]⟩]⟩,⟨200,⟨#[102,121]⟩,[⟨#[45]⟩]⟩]
def Q.rs (q:Q):List R:=q.ns.map fun n=>⟨q.p,q.k,n⟩
theorem rows_flat:Z4.flatMap Q.rs=q4:=by rfl
def pj (w:World) (h:Nat) (l:List ByteArray):Prop:= ∀j (hj:j<l.length),w.cell? ⟨h,j,none⟩=some (.string (l[j]'hj))
def RowAt (w:World) (g o:Nat) (q:Q):Prop:= ∃h,w.cell? ⟨g,o,none⟩=some (.int .i64 q.p)/\w.cell? ⟨g,o+1,none⟩=some (.string q.k)/\w.cell? ⟨g,o+2,none⟩=some (.slice (some ⟨h,0,none⟩) q.ns.length q.ns.length)/\pj w h q.ns
def RowsAt (w:World) (g:Nat):Prop:= ∀i (hi:i<Z4.length),RowAt w g (i*3) (Z4[i]'hi)
theorem pj.on {w w1:World} {h:Nat} {l:List ByteArray} (b:pj w h l) (c:Below w.heap.size w w1):pj w1 h l:=fun j a=>
 (c.cell (p:=⟨h,j,none⟩) (L_ w _ (b j a))).trans (b j a)
theorem RowAt.on {w w1:World} {g o:Nat} {q:Q} (c:RowAt w g o q) (a:Below w.heap.size w w1):RowAt w1 g o q:=by
 obtain⟨h,c0,c1,c2,b⟩:=c;exact⟨h,(a.cell (p:=⟨g,o,none⟩) (L_ w _ c0)).trans c0,(a.cell (p:=⟨g,o+1,none⟩) (L_ w _ c1)).trans c1,(a.cell (p:=⟨g,o+2,none⟩) (L_ w _ c2)).trans c2,b.on a⟩
def O8 (w:World):List (Array Value×TypeId)->World
 | []=>w
 |x::l=>O8 (w.alloc (.cells x.1 x.2)) l
theorem Ax (w0:World): ∀(l:List (Array Value×TypeId)) (w:World),Below w0.heap.size w0 w->Below w0.heap.size w0 (O8 w l)
 | [],_,h=>h
 |_::l,_,h=>Ax w0 l _ (h.alloc h.size _)
theorem rj: ∀(l:List (Array Value×TypeId)) (w:World) (b j:Nat),b<w.heap.size->(O8 w l).cell? ⟨b,j,none⟩=w.cell? ⟨b,j,none⟩
 | [],_,_,_,_=>rfl
 |x::l,w,b,j,h=>by
  show(O8 (w.alloc _) l).cell? _=_
  rw [rj l _ b j (by rw [Z_];omega),World.cell?_alloc_past _ _ _ (by omega)]
theorem eq: ∀(l:List (Array Value×TypeId)) (w:World) (i j:Nat) (h:i<l.length),(O8 w l).cell? ⟨w.heap.size+i,j,none⟩=((l[i]'h).1)[j]?
 | [],_,_,_,h=>by cases h
 |x::l,w,0,j,_=>by
  show(O8 (w.alloc _) l).cell? _=_
  rw [rj l _ _ j (by rw [Z_];omega)];exact World.cell?_alloc_at _ _ _ _ rfl
 |x::l,w,i+1,j,h=>by
  show(O8 (w.alloc _) l).cell? _=_
  have:=eq l (w.alloc (.cells x.1 x.2)) i j (by simpa using h);rw [Z_,show w.heap.size+1+i=w.heap.size+(i+1) by omega]at this;exact this
def F7 (s:Nat):List (Array Value×TypeId):= [(#[.string ⟨#[58,45]⟩],9),(#[.string ⟨#[58,45]⟩,.string ⟨#[63,45]⟩],9),(#[.string ⟨#[59]⟩],9),(#[.string ⟨#[45,62]⟩],9),(#[.string ⟨#[44]⟩],9),(#[.string ⟨#[92,43]⟩],9),(#[.string ⟨#[61]⟩,.string ⟨#[92,61]⟩,.string ⟨#[61,61]⟩,.string ⟨#[92,61,61]⟩,.string ⟨#[64,60]⟩,.string ⟨#[64,61,60]⟩,.string ⟨#[64,62]⟩,.string ⟨#[64,62,61]⟩,.string ⟨#[61,46,46]⟩,.string ⟨#[105,115]⟩,.string ⟨#[61,58,61]⟩,.string ⟨#[61,92,61]⟩,.string ⟨#[60]⟩,.string ⟨#[61,60]⟩,.string ⟨#[62]⟩,.string ⟨#[62,61]⟩],9),(#[.string ⟨#[43]⟩,.string ⟨#[45]⟩],9),(#[.string ⟨#[42]⟩,.string ⟨#[47,47]⟩,.string ⟨#[114,101,109]⟩,.string ⟨#[109,111,100]⟩],9),(#[.string ⟨#[45]⟩],9),(#[.int .i64 1200,.string ⟨#[120,102,120]⟩,.slice (some ⟨s,0,none⟩) 1 1,.int .i64 1200,.string ⟨#[102,120]⟩,.slice (some ⟨s+1,0,none⟩) 2 2,.int .i64 1100,.string ⟨#[120,102,121]⟩,.slice (some ⟨s+2,0,none⟩) 1 1,.int .i64 1050,.string ⟨#[120,102,121]⟩,.slice (some ⟨s+3,0,none⟩) 1 1,.int .i64 1000,.string ⟨#[120,102,121]⟩,.slice (some ⟨s+4,0,none⟩) 1 1,.int .i64 900,.string ⟨#[102,121]⟩,.slice (some ⟨s+5,0,none⟩) 1 1,.int .i64 700,.string ⟨#[120,102,120]⟩,.slice (some ⟨s+6,0,none⟩) 16 16,.int .i64 500,.string ⟨#[121,102,120]⟩,.slice (some ⟨s+7,0,none⟩) 2 2,.int .i64 400,.string ⟨#[121,102,120]⟩,.slice (some ⟨s+8,0,none⟩) 4 4,.int .i64 200,.string ⟨#[102,121]⟩,.slice (some ⟨s+9,0,none⟩) 1 1],166)]
theorem rows_laid (w:World):RowsAt (O8 w (F7 w.heap.size)) (w.heap.size+10):=by
 intro i h;have a: ∀j,(O8 w (F7 w.heap.size)).cell? ⟨w.heap.size+10,j,none⟩=(((F7 w.heap.size)[10]'(by show 10<11;decide)).1)[j]?:=fun j=>eq _ w 10 j _;have d:i<10:=h;have b: ∀(k:Nat) (c:k<11) (l:List ByteArray),((F7 w.heap.size)[k]'c).1=(Xx l).toArray->pj (O8 w (F7 w.heap.size)) (w.heap.size+k) l:=fun k c l g j m=>by
  rw [eq (F7 w.heap.size) w k j c,g];unfold Xx;simp [m]
 match i,d with
 |0,_=>exact⟨w.heap.size,a 0,a 1,a 2,b 0 (by decide) _ rfl⟩
 |1,_=>exact⟨w.heap.size+1,a 3,a 4,a 5,b 1 (by decide) _ rfl⟩
 |2,_=>exact⟨w.heap.size+2,a 6,a 7,a 8,b 2 (by decide) _ rfl⟩
 |3,_=>exact⟨w.heap.size+3,a 9,a 10,a 11,b 3 (by decide) _ rfl⟩
 |4,_=>exact⟨w.heap.size+4,a 12,a 13,a 14,b 4 (by decide) _ rfl⟩
 |5,_=>exact⟨w.heap.size+5,a 15,a 16,a 17,b 5 (by decide) _ rfl⟩
 |6,_=>exact⟨w.heap.size+6,a 18,a 19,a 20,b 6 (by decide) _ rfl⟩
 |7,_=>exact⟨w.heap.size+7,a 21,a 22,a 23,b 7 (by decide) _ rfl⟩
 |8,_=>exact⟨w.heap.size+8,a 24,a 25,a 26,b 8 (by decide) _ rfl⟩
 |9,_=>exact⟨w.heap.size+9,a 27,a 28,a 29,b 9 (by decide) _ rfl⟩
set_option maxRecDepth 100000 in
theorem ref_Rows (w:World):
 Calls Tryz.prog 162 #[] w fun e w'=> ∃g,e=.returned (.slice (some ⟨g,0,none⟩) 10 10)/\RowsAt w' g/\Below w.heap.size w w':=by
 have b:=D_ (rows_laid w);have a:=D_ (Ax w (F7 w.heap.size) w (F_ _ _));go_enter Tryz.func162,Tryz.ntmps162;go_wp2_with fail;go_ret;exact⟨w.heap.size+10,rfl,b.out,a.out⟩
end Go.Proofs.YtinefdlkajnomaaGreatDoor
namespace Go.Proofs.YtinefdlkajnomaaGreatDoor
open Go.RowKit
set_option maxHeartbeats 20000000
theorem rows_len:Z4.length=10:=rfl
theorem find_in (q:Q) (j:Nat) (h:j<q.ns.length) (rest:List R) (name:ByteArray) (n:Int):
 L2 (((q.ns.drop j).map fun x=>(⟨q.p,q.k,x⟩:R))++rest) name n=if((q.ns[j]'h).toList==name.toList&&(q.k.size:Int)==n)then some ⟨q.p,q.k,q.ns[j]'h⟩else L2 (((q.ns.drop (j+1)).map fun x=>(⟨q.p,q.k,x⟩:R))++rest) name n:=by
 rw [List.drop_eq_getElem_cons h];show List.find? _ (_::_)=_
 rw [List.find?_cons];show(match ((q.ns[j]'h).toList==name.toList&&(q.k.size:Int)==n)with|true=>_|false=>_)=_
 cases((q.ns[j]'h).toList==name.toList&&(q.k.size:Int)==n)<;>rfl
theorem flat_drop (k:Nat) (h:k<Z4.length):(Z4.drop k).flatMap Q.rs=(((Z4[k]'h).ns.drop 0).map fun x=>(⟨(Z4[k]'h).p,(Z4[k]'h).k,x⟩:R))++(Z4.drop (k+1)).flatMap Q.rs:=by
 rw [List.drop_eq_getElem_cons h,List.flatMap_cons];rfl
theorem ns_len (k:Nat) (h:k<Z4.length):(Z4[k]'h).ns.length<=16:=by
 have a:Z4.all (fun q=>decide (q.ns.length<=16))=true:=by decide+kernel
 simpa using List.all_eq_true.1 a _ (List.getElem_mem h)
set_option maxRecDepth 100000 in
theorem ref_find (name:ByteArray) (n:Int) (w:World):
 Calls Tryz.prog 130 #[.string name,.int .i64 n] w fun e w'=>e=.returned (i7 (L2 q4 name n))/\Below w.heap.size w w':=by
 have O:=D_ (fun o:Obj=>(F_ w.heap.size w).alloc (R_ _) o);obtain⟨E,D⟩: ∃E,L2 q4 name n=E:=⟨_,rfl⟩;rw [D];have T:Hid (L2 ((Z4.drop 0).flatMap Q.rs) name n=E):=D_ (by rw [<-D,<-rows_flat];rfl);clear D;go_enter Tryz.func130,Tryz.ntmps130;go_wp2_with fail;refine(ref_Rows _).mono ?_;rintro e w1 ⟨g,rfl,l,i⟩;have b:=(O.out _).trans (i.mono (by simp));have J:=i.size;rw [Z_]at J;have N:=g8 i;have V:Hid (∀W,Below w1.heap.size w1 W->W.cell? ⟨w.heap.size,0,none⟩=some (.int .i64 0)/\W.cell? ⟨w.heap.size,1,none⟩=some (.string ⟨#[]⟩)/\W.frozen? ⟨w.heap.size,0,none⟩=false/\W.frozen? ⟨w.heap.size,1,none⟩=false):=D_ (fun W X=>by
  obtain⟨hc,I⟩:=bcell X;rw [hc _ _ (by omega),hc _ _ (by omega),I _ _ (by omega),I _ _ (by omega)];exact N)
 have U:=D_ l;clear N l i;go_wp2_with fail;go_loopw [12] (fun iv wr=> ∃k:Nat,k<=10/\iv=.int .i64 k/\Below w1.heap.size w1 wr/\Hid (L2 ((Z4.drop k).flatMap Q.rs) name n=E)) (fun iv _=>10-(intOf iv).toNat)
 case atStart=>exact⟨0,Nat.zero_le _,rfl,F_ _ _,T⟩
 case round=>
  obtain⟨k,hk,rfl,a,u⟩:=hrel;obtain⟨z0,z1,g0,g1⟩:=V.out wr a;have M:=a.size;by_cases t:k<10
  · have Z:=(U.out k t).on a;have z:=flat_drop k t;have Y:=ns_len k t;generalize Z4[k]=q at*;obtain⟨h,c0,c1,c2,B⟩:=Z;have G:Hid (L2 (((q.ns.drop 0).map fun x=>(⟨q.p,q.k,x⟩:R))++(Z4.drop (k+1)).flatMap Q.rs) name n=E):=D_ (by rw [<-z];exact u.out);have H:=D_ B;have b_:(0:Int)<=(k:Int):=by omega
    have c_:(k:Int)<10:=by omega
    clear z B u;go_wp2_with fail;go_loop [19] (fun jv=> ∃j:Nat,j<=q.ns.length/\jv=.int .i64 j/\Hid (L2 (((q.ns.drop j).map fun x=>(⟨q.p,q.k,x⟩:R))++(Z4.drop (k+1)).flatMap Q.rs) name n=E)) (fun jv=>q.ns.length-(intOf jv).toNat)
    case atStart=>exact⟨0,Nat.zero_le _,rfl,G⟩
    case round=>
     obtain⟨j,hj,rfl,m⟩:=hrel;by_cases A:j<q.ns.length
     · have d0:=H.out j A;have a_:=L_ wr _ d0;have c:=D_ (find_in q j A ((Z4.drop (k+1)).flatMap Q.rs) name n);generalize q.ns[j]=x at*;have d_:(0:Int)<=(j:Int):=by omega
       have e_:(j:Int)<(q.ns.length:Int):=by omega
       cases e1:(x.toList==name.toList)with
       |false=>
        have r:Hid (L2 (((q.ns.drop (j+1)).map fun x=>(⟨q.p,q.k,x⟩:R))++(Z4.drop (k+1)).flatMap Q.rs) name n=E):=D_ (by rw [<-m.out,c.out,e1];rfl);go_wp2_with fail;go_round
        case rel=>exact⟨j+1,by omega,by go_num,r⟩
        case measure=>simp [intOf];omega
       | true=>
        cases e2:((q.k.size:Int)==n)with
        |false=>
         have r:Hid (L2 (((q.ns.drop (j+1)).map fun x=>(⟨q.p,q.k,x⟩:R))++(Z4.drop (k+1)).flatMap Q.rs) name n=E):=D_ (by rw [<-m.out,c.out,e1,e2];rfl);go_wp2_with fail;go_round
         case rel=>exact⟨j+1,by omega,by go_num,r⟩
         case measure=>simp [intOf];omega
        |true=>
         have C:Hid (E=some ⟨q.p,q.k,x⟩):=D_ (by rw [<-m.out,c.out,e1,e2];rfl);have F:w.heap.size<wr.heap.size:=by omega
         go_wp2_with fail;refine B_ (v:=.tuple #[.agg #[.int .i64 q.p,.string q.k],.bool true]) (by simp [results,Tryz.results130,go_sem,F,z0,z1]) rfl ⟨by rw [C.out];rfl,?_⟩;have s:Below w.heap.size w wr:=b.trans (a.mono b.size);have y:=(s.setCell (p:=⟨w.heap.size,0,none⟩) (R_ _) (.int .i64 q.p)).setCell (p:=⟨w.heap.size,1,none⟩) (R_ _) (.string q.k);exact y.alloc y.size _
     · have d:=m.out;rw [List.drop_eq_nil_of_le (by omega),List.map_nil,List.nil_append]at d;have r:=D_ d;clear d m;go_wp2_with fail;go_roundw
       case rel=>exact⟨k+1,by omega,by go_num,a.alloc M _,r⟩
       case measure=>simp [intOf];omega
  · have d:=u.out;rw [List.drop_eq_nil_of_le (by rw [rows_len];omega)]at d;have C:Hid (E=none):=D_ d.symm;clear d u;go_wp2_with fail;refine B_ (v:=.tuple #[.agg #[.int .i64 0,.string ⟨#[]⟩],.bool false]) (by simp [results,Tryz.results130,go_sem,z0,z1]) rfl ⟨by rw [C.out];rfl,?_⟩;have s:Below w.heap.size w wr:=b.trans (a.mono b.size);exact(s.setCell (R_ _) _).setCell (R_ _) _
theorem lQ (name:ByteArray) (w:World):
 Calls Tryz.prog 160 #[.string name] w fun e w'=>e=.returned (i7 (L2 q4 name 2))/\Below w.heap.size w w':=by
 have c:=D_ (fun o:Obj=>(F_ w.heap.size w).alloc (R_ _) o);have d:=D_ (fun W=>ref_find name 2 W);generalize L2 q4 name 2=E at*;cases E with
 |none=>
  unfold i7 at*;go_enter Tryz.func160,Tryz.ntmps160;go_wp2_with fail;refine(d.out _).mono ?_;rintro e w1 ⟨rfl,a⟩;have b:=(c.out _).trans (a.mono (by simp));obtain⟨z0,z1,g0,g1⟩:=g8 a;clear a;go_wp2_with fail;exact B_ (v:=.tuple #[.agg #[.int .i64 0,.string ⟨#[]⟩],.bool false]) (by simp [results,Tryz.results160,go_sem,z0,z1]) rfl ⟨rfl,(b.setCell (R_ _) _).setCell (R_ _) _⟩
 |some r=>
  unfold i7 at*;go_enter Tryz.func160,Tryz.ntmps160;go_wp2_with fail;refine(d.out _).mono ?_;rintro e w1 ⟨rfl,a⟩;have b:=(c.out _).trans (a.mono (by simp));obtain⟨z0,z1,g0,g1⟩:=g8 a;clear a;go_wp2_with fail;exact B_ (v:=.tuple #[.agg #[.int .i64 r.p,.string r.k],.bool true]) (by simp [results,Tryz.results160,go_sem,z0,z1]) rfl ⟨rfl,(b.setCell (R_ _) _).setCell (R_ _) _⟩
theorem yX (name:ByteArray) (w:World):
 Calls Tryz.prog 103 #[.string name] w fun e w'=>e=.returned (i7 (L2 q4 name 3))/\Below w.heap.size w w':=by
 have c:=D_ (fun o:Obj=>(F_ w.heap.size w).alloc (R_ _) o);have d:=D_ (fun W=>ref_find name 3 W);generalize L2 q4 name 3=E at*;cases E with
 |none=>
  unfold i7 at*;go_enter Tryz.func103,Tryz.ntmps103;go_wp2_with fail;refine(d.out _).mono ?_;rintro e w1 ⟨rfl,a⟩;have b:=(c.out _).trans (a.mono (by simp));obtain⟨z0,z1,g0,g1⟩:=g8 a;clear a;go_wp2_with fail;exact B_ (v:=.tuple #[.agg #[.int .i64 0,.string ⟨#[]⟩],.bool false]) (by simp [results,Tryz.results103,go_sem,z0,z1]) rfl ⟨rfl,(b.setCell (R_ _) _).setCell (R_ _) _⟩
 |some r=>
  unfold i7 at*;go_enter Tryz.func103,Tryz.ntmps103;go_wp2_with fail;refine(d.out _).mono ?_;rintro e w1 ⟨rfl,a⟩;have b:=(c.out _).trans (a.mono (by simp));obtain⟨z0,z1,g0,g1⟩:=g8 a;clear a;go_wp2_with fail;exact B_ (v:=.tuple #[.agg #[.int .i64 r.p,.string r.k],.bool true]) (by simp [results,Tryz.results103,go_sem,z0,z1]) rfl ⟨rfl,(b.setCell (R_ _) _).setCell (R_ _) _⟩
end Go.Proofs.YtinefdlkajnomaaGreatDoor
