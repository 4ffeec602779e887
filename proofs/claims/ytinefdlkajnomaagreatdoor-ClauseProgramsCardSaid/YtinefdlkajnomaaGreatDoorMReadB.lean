import Derived.Test.YtinefdlkajnomaaGreatDoorMReadA
import Derived.Test.YtinefdlkajnomaaGreatDoorMShelf5
import Derived.Lib.Bytealg
namespace Go.Proofs.YtinefdlkajnomaaGreatDoor
open Go.RowKit
set_option maxHeartbeats 20000000
attribute [-go_sem] sliced
theorem A0 {w:World} {q:Nat} {a b c d:Value} {t:TypeId} (h:w.heap[q]?=some (.cells #[a,b,c,d] t (0,0))):
 w.cell? ⟨q,0,none⟩=some a/\w.cell? ⟨q,1,none⟩=some b/\w.cell? ⟨q,2,none⟩=some c/\w.cell? ⟨q,3,none⟩=some d/\w.frozen? ⟨q,0,none⟩=false/\w.frozen? ⟨q,1,none⟩=false/\w.frozen? ⟨q,2,none⟩=false/\w.frozen? ⟨q,3,none⟩=false:=by
 simp [World.cell?,World.frozen?,h]
theorem U0 (w:World) (o:Obj):(w.alloc o).heap[w.heap.size]?=some o:=by unfold World.alloc;simp
theorem N0 {w:World} {q:Nat} {o:Obj} (a:w.heap[q]?=some o) (o2:Obj):(w.alloc o2).heap[q]?=some o:=(A_ w o2 q (Array.getElem?_eq_some_iff.1 a).1).trans a
theorem jx:i7 none=.tuple #[.agg #[.int .i64 0,.string ⟨#[]⟩],.bool false]:=rfl
theorem x7 (r:R):i7 (some r)=.tuple #[.agg #[.int .i64 r.p,.string r.k],.bool true]:=rfl
theorem V5 (E:Option R): ∃(p:Int) (k:ByteArray) (b:Bool),i7 E=.tuple #[.agg #[.int .i64 p,.string k],.bool b]/\b=E.isSome:=by
 cases E with
 |none=>exact⟨0,⟨#[]⟩,false,rfl,rfl⟩
 |some r=>exact⟨r.p,r.k,true,rfl,rfl⟩
set_option maxRecDepth 100000 in
theorem rd_infix (t:Tok) (w:World):
 Calls Tryz.prog 118 #[Y1 t] w fun e w'=>e=.returned (i7 t.infix)/\Below w.heap.size w w':=by
 have s:=D_ (fun W=>B7 t W);have y:=D_ (fun W=>P9 t [44] W);have x:=D_ (fun W=>oX ⟨t.text.toArray⟩ W);have z:=D_ (fun o o2:Obj=>((F_ w.heap.size w).alloc (R_ _) o).alloc (by simp) o2);have B:t.infix=if t.isAtom||t.isP [44]then opR t.text 3 else none:=rfl;unfold opR at B;generalize t.isAtom=ba at*;generalize t.isP [44]=bp at*;generalize L2 q4 ⟨t.text.toArray⟩ 3=E at*;have r:=D_ B;clear B;unfold Y1 at s y⊢;generalize (⟨t.text.toArray⟩:ByteArray)=u at*;obtain⟨p,k,b,A,D⟩:=V5 E;clear D;rw [A]at x;have C:=D_ A;clear A;cases ba with
 |true=>
  have q:Hid (t.infix=E):=D_ r.out;rw [q.out,C.out];clear r y;go_enter Tryz.func118,Tryz.ntmps118;go_wp2_with fail;refine(s.out _).mono ?_;rintro e w1 ⟨rfl,c⟩;have i:=B0 c (N0 (U0 w (.cells #[.int .i64 t.kind,.string u,.int .i64 t.n,.int .i64 (t.pos:Nat)] 96)) (.cells #[.int .i64 0,.string ⟨#[]⟩] 126));have a:=B0 c (U0 (w.alloc (.cells #[.int .i64 t.kind,.string u,.int .i64 t.n,.int .i64 (t.pos:Nat)] 96)) (.cells #[.int .i64 0,.string ⟨#[]⟩] 126));have g:=(z.out _ _).trans (c.mono (by simp;omega));obtain⟨c0,c1,c2,c3,_⟩:=A0 i;have l:=D_ a;have d:=D_ g;clear i a c g;go_wp2_with fail;refine(x.out _).mono ?_;rintro e w2 ⟨rfl,j⟩;have a:=B0 j l.out;rw [Z_]at a;obtain⟨d0,d1,e0,e1⟩:=E0 a;have m:=D_ (d.out.trans (j.mono d.out.size));clear j a c0 c1 c2 c3 l;go_wp2_with fail;refine B_ (v:=.tuple #[.agg #[.int .i64 p,.string k],.bool b]) (by simp [results,Tryz.results118,go_sem,d0,d1]) rfl ⟨rfl,?_⟩;exact(m.out.setCell (p:=⟨w.heap.size+1,0,none⟩) (Nat.le_succ _) _).setCell (p:=⟨w.heap.size+1,1,none⟩) (Nat.le_succ _) _
 | false=>
  cases bp with
  |true=>
   have q:Hid (t.infix=E):=D_ r.out;rw [q.out,C.out];clear r;go_enter Tryz.func118,Tryz.ntmps118;go_wp2_with fail;refine(s.out _).mono ?_;rintro e w1 ⟨rfl,c⟩;have i:=B0 c (N0 (U0 w (.cells #[.int .i64 t.kind,.string u,.int .i64 t.n,.int .i64 (t.pos:Nat)] 96)) (.cells #[.int .i64 0,.string ⟨#[]⟩] 126));have a:=B0 c (U0 (w.alloc (.cells #[.int .i64 t.kind,.string u,.int .i64 t.n,.int .i64 (t.pos:Nat)] 96)) (.cells #[.int .i64 0,.string ⟨#[]⟩] 126));have g:=(z.out _ _).trans (c.mono (by simp;omega));obtain⟨c0,c1,c2,c3,_⟩:=A0 i;have F:=D_ i;have l:=D_ a;have d:=D_ g;clear i a c g;go_wp2_with fail;refine(y.out _).mono ?_;rintro e w5 ⟨rfl,h⟩;have i:=B0 h F.out;have a:=B0 h l.out;obtain⟨c0,c1,c2,c3,_⟩:=A0 i;have l:=D_ a;have d:=D_ (d.out.trans (h.mono d.out.size));clear i a h;go_wp2_with fail;refine(x.out _).mono ?_;rintro e w2 ⟨rfl,j⟩;have a:=B0 j l.out;rw [Z_]at a;obtain⟨d0,d1,e0,e1⟩:=E0 a;have m:=D_ (d.out.trans (j.mono d.out.size));clear j a c0 c1 c2 c3 l;go_wp2_with fail;refine B_ (v:=.tuple #[.agg #[.int .i64 p,.string k],.bool b]) (by simp [results,Tryz.results118,go_sem,d0,d1]) rfl ⟨rfl,?_⟩;exact(m.out.setCell (p:=⟨w.heap.size+1,0,none⟩) (Nat.le_succ _) _).setCell (p:=⟨w.heap.size+1,1,none⟩) (Nat.le_succ _) _
  |false=>
   have q:Hid (t.infix=none):=D_ r.out;rw [q.out,jx];clear r x;go_enter Tryz.func118,Tryz.ntmps118;go_wp2_with fail;refine(s.out _).mono ?_;rintro e w1 ⟨rfl,c⟩;have i:=B0 c (N0 (U0 w (.cells #[.int .i64 t.kind,.string u,.int .i64 t.n,.int .i64 (t.pos:Nat)] 96)) (.cells #[.int .i64 0,.string ⟨#[]⟩] 126));have a:=B0 c (U0 (w.alloc (.cells #[.int .i64 t.kind,.string u,.int .i64 t.n,.int .i64 (t.pos:Nat)] 96)) (.cells #[.int .i64 0,.string ⟨#[]⟩] 126));have g:=(z.out _ _).trans (c.mono (by simp;omega));obtain⟨c0,c1,c2,c3,_⟩:=A0 i;have l:=D_ a;have d:=D_ g;clear i a c g;go_wp2_with fail;refine(y.out _).mono ?_;rintro e w5 ⟨rfl,h⟩;have a:=B0 h l.out;rw [Z_]at a;obtain⟨d0,d1,e0,e1⟩:=E0 a;have m:=D_ (d.out.trans (h.mono d.out.size));clear a h c0 c1 c2 c3 l;go_wp2_with fail;refine B_ (v:=.tuple #[.agg #[.int .i64 0,.string ⟨#[]⟩],.bool false]) (by simp [results,Tryz.results118,go_sem,d0,d1]) rfl ⟨rfl,?_⟩;exact(m.out.setCell (p:=⟨w.heap.size+1,0,none⟩) (Nat.le_succ _) _).setCell (p:=⟨w.heap.size+1,1,none⟩) (Nat.le_succ _) _
theorem yj (b:UInt8):decide (0<=Lib.indexByte [41,93,125,44,124] b)=(([b]:List UInt8)== [41]||([b]:List UInt8)== [93]||([b]:List UInt8)== [125]||([b]:List UInt8)== [44]||([b]:List UInt8)== [124]):=by
 have key: ∀n:Fin 256,decide (0<=Lib.indexByte [41,93,125,44,124] (UInt8.ofNat n.val))=(([UInt8.ofNat n.val]:List UInt8)== [41]||([UInt8.ofNat n.val]:List UInt8)== [93]||([UInt8.ofNat n.val]:List UInt8)== [125]||([UInt8.ofNat n.val]:List UInt8)== [44]||([UInt8.ofNat n.val]:List UInt8)== [124]):=by decide+kernel
 have:=key ⟨b.toNat,b.toNat_lt⟩;rwa [UInt8.ofNat_toNat]at this
set_option maxRecDepth 100000 in
theorem fQ (w:World) (g k cap:Nat) (ts:List Tok) (ht:S5 w g k ts) (m:T0 ts):
 Calls Tryz.prog 173 #[.slice (some ⟨g,k,none⟩) ts.length cap] w fun e w'=>e=.returned (.bool (I3 (j0 ts) (j0 ts.tail)))/\Below w.heap.size w w':=by
 obtain⟨c0,c1,c2,c3,U⟩:=ht.first m.pos;have D:=L_ w ⟨g,k,none⟩ c0;have D:g<w.heap.size:=D;have b_:(0:Int)<(ts.length:Int):=by have:=m.pos;omega
 have E:=m.first.punct;have C:I3 (j0 ts) (j0 ts.tail)=if(j0 ts).kind==8||(j0 ts).kind==9 then true else if(j0 ts).kind==6 then(j0 ts).text== [41]||(j0 ts).text== [93]||(j0 ts).text== [125]||(j0 ts).text== [44]||(j0 ts).text== [124]else(j0 ts).isAtom&&(opR (j0 ts).text 3).isSome&&(opR (j0 ts).text 2).isNone&& !((j0 ts.tail).kind==7):=rfl;have v:(j0 ts).isAtom=true->2<=ts.length/\w.cell? ⟨g,k+4,none⟩=some (.int .i64 (j0 ts.tail).kind):=fun Z=>by
  obtain⟨B,h2⟩:=m.tail (A2 Z);exact⟨m.two (A2 Z),(U.first B.pos).1⟩
 have x:=D_ (fun W=>B7 (j0 ts) W);have h:=D_ (fun W=>p8 ⟨(j0 ts).text.toArray⟩ W);have i:=D_ (fun W=>oX ⟨(j0 ts).text.toArray⟩ W);have a_:=m.first.kind;have G:=D_ (fun o:Obj=>(F_ w.heap.size w).alloc (R_ _) o);have A:=D_ v;have H:=D_ C;have I:=D_ E;clear ht U m v C E;rw [H.out];unfold Y1 opR at*;generalize (j0 ts.tail).kind=k2 at*;generalize j0 ts=t at*;generalize ts.length=L at*;by_cases r:t.kind=8\/t.kind=9
 · rw [J_ (by simpa using r)];clear x h i H I A;obtain⟨a,tx,n,po⟩:=t;dsimp only at*;generalize (⟨tx.toArray⟩:ByteArray)=u at*;rcases r with rfl|rfl
   all_goals
    go_enter Tryz.func173,Tryz.ntmps173;go_wp2_with fail;go_ret;exact⟨rfl,G.out _⟩
 have e8:(t.kind==8)=false:=by simp;omega
 have e9:(t.kind==9)=false:=by simp;omega
 rw [I_ (by rw [e8,e9];decide)];by_cases J:t.kind=6
 · rw [J_ (by simpa using J)];obtain⟨b,hb,_⟩:=I.out (.inl J);have V:=D_ (fun W=>Tryz.strings_Contains_one ⟨#[41,93,125,44,124]⟩ b W);have N:=D_ (yj b);rw [hb]at c1⊢;rw [<-N.out];clear x h i H I A r N e8 e9;obtain⟨a,tx,n,po⟩:=t;dsimp only at*;subst J;have HU:Hid ((⟨[b].toArray⟩:ByteArray)=⟨#[b]⟩):=D_ rfl;have V:Hid (∀W,Calls Tryz.prog 190 #[.string ⟨#[41,93,125,44,124]⟩,.string ⟨[b].toArray⟩] W fun e w'=>e=.returned (.bool (decide (0<=Lib.indexByte [41,93,125,44,124] b)))/\w'=W):=V;generalize decide (0<=Lib.indexByte [41,93,125,44,124] b)=res at*;clear HU hb;generalize (⟨[b].toArray⟩:ByteArray)=u at*;go_enter Tryz.func173,Tryz.ntmps173;go_wp2_with fail;refine(V.out _).mono ?_;rintro e w1 ⟨rfl,rfl⟩;go_wp2_with fail;go_ret;exact⟨rfl,G.out _⟩
 have e6:(t.kind==6)=false:=by simp;omega
 rw [I_ (by rw [e6];decide)];clear I H r J;cases j:t.isAtom with
 |false=>
  rw [j]at x;rw [show(false&&(L2 q4 ⟨t.text.toArray⟩ 3).isSome&&(L2 q4 ⟨t.text.toArray⟩ 2).isNone&& !(k2==7))=false by simp];clear h i A j;generalize (⟨t.text.toArray⟩:ByteArray)=u at*;go_enter Tryz.func173,Tryz.ntmps173;go_wp2_with fail;refine(x.out _).mono ?_;rintro e w1 ⟨rfl,c⟩;have q:=D_ ((G.out _).trans (c.mono (by simp)));clear c;go_wp2_with fail;go_ret;exact⟨rfl,q.out⟩
 | true=>
  obtain⟨c_,c4⟩:=A.out j;have C4:=D_ c4;have d_:(1:Int)<(L:Int):=by omega
  rw [j]at x;obtain⟨p2,k2',b2,O,d⟩:=V5 (L2 q4 ⟨t.text.toArray⟩ 2);obtain⟨p3,k3',b3,R,l⟩:=V5 (L2 q4 ⟨t.text.toArray⟩ 3);rw [O]at h;rw [R]at i;have F:(true&&(L2 q4 ⟨t.text.toArray⟩ 3).isSome&&(L2 q4 ⟨t.text.toArray⟩ 2).isNone&& !(k2==7))=(b3&&!b2&&(k2 !=7)):=by
   rw [d,l];cases L2 q4 ⟨t.text.toArray⟩ 3<;>cases L2 q4 ⟨t.text.toArray⟩ 2<;>rfl
  rw [F];clear d l O R F A c4 j;generalize (⟨t.text.toArray⟩:ByteArray)=u at*;have T:=U0 w (.cells #[.int .i64 t.kind,.string u,.int .i64 t.n,.int .i64 (t.pos:Nat)] 96);have Y:=D_ T;clear T;cases b3<;>cases b2
  all_goals
   cases e7:(k2 !=7)
   all_goals
    go_enter Tryz.func173,Tryz.ntmps173;go_wp2_with fail;refine(x.out _).mono ?_;rintro e w1 ⟨rfl,c⟩;have y:=B0 c Y.out;obtain⟨d0,d1,d2,d3,_⟩:=A0 y;have X:=D_ y;have q:=D_ ((G.out _).trans (c.mono (by simp)));clear c y;go_wp2_with fail;refine(h.out _).mono ?_;rintro e w2 ⟨rfl,d⟩;have y:=B0 d X.out;have z:=D_ (q.out.trans (d.mono q.out.size));have B:=N0 y (.cells #[.int .i64 p2,.string k2'] 126);obtain⟨d0,d1,d2,d3,_⟩:=A0 B;have H1:=D_ B;clear d y B X;go_wp2_with fail;refine(i.out _).mono ?_;rintro e w3 ⟨rfl,l⟩;have s:=(z.out.alloc z.out.size (.cells #[.int .i64 p2,.string k2'] 126)).trans (l.mono (by have:=z.out.size;simp;omega));have c4:(w3.alloc (.cells #[.int .i64 p3,.string k3'] 126)).cell? ⟨g,k+4,none⟩=some (.int .i64 k2):=(((s.alloc s.size (.cells #[.int .i64 p3,.string k3'] 126))).cell (p:=⟨g,k+4,none⟩) D).trans C4.out;have M:=D_ s;clear l s H1;go_wp2_with fail;go_ret;exact⟨rfl,M.out.alloc M.out.size _⟩
end Go.Proofs.YtinefdlkajnomaaGreatDoor
