import Derived.Test.YtinefdlkajnomaaGreatDoorMReadFA
import Derived.Test.YtinefdlkajnomaaGreatDoorMReadB
namespace Go.Proofs.YtinefdlkajnomaaGreatDoor
open Go.RowKit
set_option maxHeartbeats 20000000
attribute [-go_sem] sliced
theorem CZ (w:World) (r:Nat) (v:Value) (ts:List Tok) (ns:Nms) (er at_:Int) (h:Z0 w r v ts ns er at_) (x:2<=ts.length):
 Calls Tryz.prog 158 #[.pointer (some ⟨r,0,none⟩)] w fun e w'=>e=.returned (Y1 (j0 ts.tail))/\Below w.heap.size w w':=by
 have l:=D_ (fun o:Obj=>(F_ w.heap.size w).alloc (R_ _) o);have t:=h.lt;obtain⟨g,k,cap,y,i,z,hc,j⟩:=h.ex;obtain⟨_,_,_,_,c⟩:=j.first (by omega);obtain⟨c0,c1,c2,c3,_⟩:=c.first (by rw [List.length_tail];omega);obtain⟨r0,_⟩:=l5 i;have p:(1:Int)<(ts.length:Int):=by omega
 have q:min (1:Int) ((ts.length:Int)-1)=1:=by omega
 have s:(ts.length:Int)<=9223372036854775807:=by unfold maxLen at hc;omega
 have m:g<w.heap.size:=by omega
 unfold Y1;clear h i j hc c;generalize (⟨(j0 ts.tail).text.toArray⟩:ByteArray)=u at*;generalize (j0 ts.tail).kind=a at*;generalize (j0 ts.tail).n=b at*;generalize (j0 ts.tail).pos=d at*;generalize ts.length=L at*;go_enter Tryz.func158,Tryz.ntmps158;go_wp2_with fail;go_region
 go_wp2_with fail;exact B_ (v:=.agg #[.int .i64 a,.string u,.int .i64 b,.int .i64 (d:Nat)]) (by simp [results,Tryz.results158,go_sem]) rfl ⟨rfl,(l.out _).drew⟩
set_option maxRecDepth 100000 in
theorem rf_alone (t c:Tok) (w:World):
 Calls Tryz.prog 161 #[Y1 t,Y1 c] w fun e w'=>e=.returned (.bool (I3 t c))/\Below w.heap.size w w':=by
 have l:=D_ (fun o o2:Obj=>((F_ w.heap.size w).alloc (R_ _) o).alloc (by simp) o2);have s:=D_ (fun W=>AX t W);have p:=D_ (fun W=>lQ ⟨t.text.toArray⟩ W);have q:=D_ (fun W=>yX ⟨t.text.toArray⟩ W);have d:I3 t c=if t.kind==8||t.kind==9 then true else if t.kind==6 then t.text== [41]||t.text== [93]||t.text== [125]||t.text== [44]||t.text== [124]else t.isAtom&&(opR t.text 3).isSome&&(opR t.text 2).isNone&& !(c.kind==7):=rfl;rw [<-O1 t.text [41],<-O1 t.text [93],<-O1 t.text [125],<-O1 t.text [44],<-O1 t.text [124]]at d;obtain⟨p2,k2,b2,z,i⟩:=V5 (L2 q4 ⟨t.text.toArray⟩ 2);obtain⟨p3,k3,b3,A,k⟩:=V5 (L2 q4 ⟨t.text.toArray⟩ 3);unfold opR at d;rw [<-k,show(L2 q4 ⟨t.text.toArray⟩ 2).isNone=!b2 by rw [i];cases L2 q4 ⟨t.text.toArray⟩ 2<;>rfl]at d;rw [z]at p;rw [A]at q;generalize I3 t c=res at*;generalize t.isAtom=ba at*;have j:=D_ d;clear d i k z A;unfold Y1 at*;generalize (⟨t.text.toArray⟩:ByteArray)=u at*;generalize (⟨c.text.toArray⟩:ByteArray)=u2 at*;generalize t.kind=a at*;generalize t.n=n at*;generalize t.pos=po at*;generalize c.kind=a2 at*;generalize c.n=n2 at*;generalize c.pos=po2 at*;have x:=D_ (N0 (U0 w (.cells #[.int .i64 a,.string u,.int .i64 n,.int .i64 (po:Nat)] 96)) (.cells #[.int .i64 a2,.string u2,.int .i64 n2,.int .i64 (po2:Nat)] 96));have y:=D_ (U0 (w.alloc (.cells #[.int .i64 a,.string u,.int .i64 n,.int .i64 (po:Nat)] 96)) (.cells #[.int .i64 a2,.string u2,.int .i64 n2,.int .i64 (po2:Nat)] 96));cases e8:(a==8)with
 |true=>
  have g:res=true:=by rw [j.out,e8];rfl
  rw [g];clear j g;go_enter Tryz.func161,Tryz.ntmps161;go_wp2_with fail;go_ret;exact⟨rfl,l.out _ _⟩
 |false=>
 cases e9:(a==9)with
 |true=>
  have g:res=true:=by rw [j.out,e8,e9];rfl
  rw [g];clear j g;go_enter Tryz.func161,Tryz.ntmps161;go_wp2_with fail;go_ret;exact⟨rfl,l.out _ _⟩
 |false=>
 cases e6:(a==6)with
 | true=>
  have g:Hid (res=(u.toList== [41]||u.toList== [93]||u.toList== [125]||u.toList== [44]||u.toList== [124])):=D_ (by rw [j.out,e8,e9,e6];rfl);rw [g.out];clear j g p q s;cases x1:(u.toList== [41])<;>cases x2:(u.toList== [93])<;>cases x3:(u.toList== [125])<;>cases x4:(u.toList== [44])<;>cases x5:(u.toList== [124])
  all_goals
   first
   |(exfalso;simp_all;done)
   | (go_enter Tryz.func161,Tryz.ntmps161
      go_wp2_with fail;go_ret;exact⟨rfl,l.out _ _⟩)
 |false=>
 have g:Hid (res=(ba&&b3&&!b2&& !(a2==7))):=D_ (by rw [j.out,e8,e9,e6];rfl);rw [g.out];clear j g;cases ba with
 |false=>
  rw [show(false&&b3&&!b2&& !(a2==7))=false by simp];go_enter Tryz.func161,Tryz.ntmps161;go_wp2_with fail;refine(s.out _).mono ?_;rintro e w1 ⟨rfl,b⟩;have h:=D_ ((l.out _ _).trans (b.mono (by simp;omega)));clear b;go_wp2_with fail;go_ret;exact⟨rfl,h.out⟩
 |true=>
 cases e7:(a2==7)with
 |true=>
  rw [show(true&&b3&&!b2&&!true)=false by simp];go_enter Tryz.func161,Tryz.ntmps161;go_wp2_with fail;refine(s.out _).mono ?_;rintro e w1 ⟨rfl,b⟩;obtain⟨d0,_⟩:=A0 (B0 b y.out);rw [Z_]at d0;have h:=D_ ((l.out _ _).trans (b.mono (by simp;omega)));clear b;go_wp2_with fail;go_ret;exact⟨rfl,h.out⟩
 | false=>
  have r:(true&&b3&&!b2&&!false)=(b3&&!b2):=by cases b3<;>cases b2<;>rfl
  rw [r];clear r;cases b3<;>cases b2
  all_goals
   go_enter Tryz.func161,Tryz.ntmps161;go_wp2_with fail;refine(s.out _).mono ?_;rintro e w1 ⟨rfl,b⟩;obtain⟨d0,_⟩:=A0 (B0 b y.out);rw [Z_]at d0;obtain⟨_,d1,_⟩:=A0 (B0 b x.out);have C:=D_ (B0 b x.out);have h:=D_ ((l.out _ _).trans (b.mono (by simp;omega)));clear b;go_wp2_with fail;refine(q.out _).mono ?_;rintro e w2 ⟨rfl,i⟩;have B:=B0 i C.out;have m:=D_ (h.out.trans (i.mono h.out.size));obtain⟨_,d1,_⟩:=A0 (N0 B (.cells #[.int .i64 p3,.string k3] 126));clear i B d0;go_wp2_with fail;refine(p.out _).mono ?_;rintro e w3 ⟨rfl,k⟩;have v:=D_ ((m.out.alloc m.out.size (.cells #[.int .i64 p3,.string k3] 126)).trans (k.mono (by have:=m.out.size;simp;omega)));clear k;go_wp2_with fail;go_ret;exact⟨rfl,v.out.alloc v.out.size _⟩
end Go.Proofs.YtinefdlkajnomaaGreatDoor
