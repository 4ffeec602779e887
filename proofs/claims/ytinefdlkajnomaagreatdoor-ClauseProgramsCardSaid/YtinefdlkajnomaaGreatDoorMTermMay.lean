import Derived.Test.YtinefdlkajnomaaGreatDoorMTermMR
import Derived.Test.YtinefdlkajnomaaGreatDoorMCharRef
import Derived.Lib.Strings
namespace Go.Proofs.YtinefdlkajnomaaGreatDoor
open Go.RowKit
set_option maxHeartbeats 20000000
def p9 (k:Int) (s:ByteArray) (n:Int) (len:Nat) (all:Bool):Bool:=
 if k=1 then decide (0<=n)&&(decide (s.data.toList= [])&&decide (len=0))
 else if k=2 then decide (n=0)&&(K2 s.data.toList&&decide (len=0))
 else if k=3 then decide (s.data.toList= [])&&decide (len=0)
 else if k=4 then decide (n=0)&&(K2 s.data.toList&&(decide (1<=len)&&(decide (len<=16)&&all)))
 else false
mutual
def Tm.may:Tm->Bool
 | .mk k s n l=>p9 k s n l.length (Tm.mays l)
def Tm.mays:List Tm->Bool
 | []=>true
 |t::l=>t.may&&Tm.mays l
end
theorem Tm.may_eq (t:Tm):t.may=p9 t.kind t.name t.n t.args.length (Tm.mays t.args):=by cases t;rfl
theorem Tm.mays_all (l:List Tm):Tm.mays l=l.all Tm.may:=by
 induction l with
 |nil=>rfl
 |cons t l ih=>show(t.may&&Tm.mays l)=_;rw [ih,List.all_cons]
theorem mays_snoc (l:List Tm) (k:Nat) (h:k<l.length):Tm.mays (l.take (k+1))=(Tm.mays (l.take k)&&(l[k]'h).may):=by
 rw [Tm.mays_all,Tm.mays_all,U_ h,List.all_append];simp
theorem mays_hit (l:List Tm) (k:Nat) (h:k<l.length) (a:(l[k]'h).may=false):Tm.mays l=false:=by
 rw [Tm.mays_all,List.all_eq_false];exact⟨l[k],List.getElem_mem h,by rw [a];simp⟩
theorem iJ (s:ByteArray):s.toList.isEmpty=decide (s.data.toList= []):=by
 rw [ByteArray.toList_eq];cases s.data.toList<;>rfl
theorem S1 {w w1:World} {C:Array Value} {t:TypeId} (b:Below (w.alloc (.cells C t)).heap.size (w.alloc (.cells C t)) w1):
 (∀i,w1.cell? ⟨w.heap.size,i,none⟩=C[i]?)/\(∀i,w1.frozen? ⟨w.heap.size,i,none⟩=(w.alloc (.cells C t)).frozen? ⟨w.heap.size,i,none⟩):=by
 have a:w.heap.size<(w.alloc (.cells C t)).heap.size:=by simp
 exact⟨fun i=>(b.cell (p:=⟨w.heap.size,i,none⟩) a).trans (World.cell?_alloc_at _ _ _ _ rfl),fun i=>b.frozen (p:=⟨w.heap.size,i,none⟩) a⟩
set_option maxRecDepth 100000 in
theorem yZ (k n:Int) (s:ByteArray) (len:Nat) (ad:Option Addr) (cap:Nat) (w:World) (all:Bool) (q:Tabs w) (y:s.size<=maxLen) (h:k≠4):
 Calls Tryz.prog 61 #[.agg #[.int .i64 k,.string s,.int .i64 n,.slice ad len cap]] w fun e w'=>e=.returned (.bool (p9 k s n len all))/\Below w.heap.size w w':=by
 have t:=fun w q=>xX s w y q;have x:=D_ q;unfold p9;obtain⟨b0,f0⟩: ∃b,s.toList.isEmpty=b:=⟨_,rfl⟩;rw [<-iJ s,f0];obtain⟨ck,p⟩: ∃c,K2 s.data.toList=c:=⟨_,rfl⟩;rw [p]at t;rw [p];have v:=D_ t;clear t q p y;have r: ∀o:Obj,Below w.heap.size w (w.alloc o):=fun o=>(F_ _ w).alloc (R_ _) _;have a:=D_ r;clear r;by_cases j:k=1
 · rw [J_ j];subst j;clear h;by_cases i:0<=n
   · rw [decide_eq_true i];by_cases g:len=0
     · subst g;cases b0
       all_goals
        go_enter Tryz.func61,Tryz.ntmps61;go_wp2_with fail;go_ret;exact⟨rfl,a.out _⟩
     · rw [decide_eq_false g];have ez:((len:Int)==0)=false:=by simp;omega
       clear g;cases b0
       all_goals
        go_enter Tryz.func61,Tryz.ntmps61;go_wp2_with fail;go_ret;exact⟨rfl,a.out _⟩
   · rw [decide_eq_false i];have A:n<0:=by omega
     clear i f0;go_enter Tryz.func61,Tryz.ntmps61;go_wp2_with fail;go_ret;exact⟨rfl,a.out _⟩
 rw [I_ j];have e1:(k==1)=false:=by simpa using j
 by_cases l:k=2
 · rw [J_ l];subst l;clear h j f0;by_cases i:n=0
   · rw [decide_eq_true i];subst i;by_cases g:len=0
     · subst g;cases ck
       all_goals
        go_enter Tryz.func61,Tryz.ntmps61;go_wp2_with fail;refine(v.out _ (x.out.on (a.out _))).mono ?_;rintro e w2 ⟨rfl,d⟩;have u:=(a.out _).trans (d.mono (by simp));obtain⟨hc,z⟩:=S1 d;clear d;go_wp2_with fail;go_ret;exact⟨rfl,u⟩
     · rw [decide_eq_false g];have ez:((len:Int)==0)=false:=by simp;omega
       clear g;cases ck
       all_goals
        go_enter Tryz.func61,Tryz.ntmps61;go_wp2_with fail;refine(v.out _ (x.out.on (a.out _))).mono ?_;rintro e w2 ⟨rfl,d⟩;have u:=(a.out _).trans (d.mono (by simp));obtain⟨hc,z⟩:=S1 d;clear d;go_wp2_with fail;go_ret;exact⟨rfl,u⟩
   · rw [decide_eq_false i];have en:(n==0)=false:=by simpa using i
     clear i;go_enter Tryz.func61,Tryz.ntmps61;go_wp2_with fail;go_ret;exact⟨rfl,a.out _⟩
 rw [I_ l];have e2:(k==2)=false:=by simpa using l
 by_cases m:k=3
 · rw [J_ m];subst m;clear h j l;by_cases g:len=0
   · subst g;cases b0
     all_goals
      go_enter Tryz.func61,Tryz.ntmps61;go_wp2_with fail;go_ret;exact⟨rfl,a.out _⟩
   · rw [decide_eq_false g];have ez:((len:Int)==0)=false:=by simp;omega
     clear g;cases b0
     all_goals
      go_enter Tryz.func61,Tryz.ntmps61;go_wp2_with fail;go_ret;exact⟨rfl,a.out _⟩
 rw [I_ m,I_ h];have e3:(k==3)=false:=by simpa using m
 have e4:(k==4)=false:=by simpa using h
 clear j l m h f0;go_enter Tryz.func61,Tryz.ntmps61;go_wp2_with fail;go_ret;exact⟨rfl,a.out _⟩
set_option maxRecDepth 100000 in
theorem ref_may_no (n:Int) (s:ByteArray) (len:Nat) (ad:Option Addr) (cap:Nat) (w:World) (ck:Bool) (j:Tabs w) (i: ∀w,Tabs w->Calls Tryz.prog 77 #[.string s] w fun e w'=>e=.returned (.bool ck)/\Below w.heap.size w w')
 (h:n≠0\/(n=0/\ck=false)\/(n=0/\ck=true/\len<1)\/(n=0/\ck=true/\16<len)):
 Calls Tryz.prog 61 #[.agg #[.int .i64 4,.string s,.int .i64 n,.slice ad len cap]] w fun e w'=>e=.returned (.bool false)/\Below w.heap.size w w':=by
 have g:=D_ j;have d:=D_ i;have b:=D_ (fun o:Obj=>(F_ w.heap.size w).alloc (R_ _) o);clear j i;rcases h with h|⟨rfl,rfl⟩|⟨rfl,rfl,h⟩|⟨rfl,rfl,h⟩
 · have en:(n !=0)=true:=by simpa using h
   clear h;go_enter Tryz.func61,Tryz.ntmps61;go_wp2_with fail;go_ret;exact⟨rfl,b.out _⟩
 · go_enter Tryz.func61,Tryz.ntmps61;go_wp2_with fail;refine(d.out _ (g.out.on (b.out _))).mono ?_;rintro e w2 ⟨rfl,a⟩;have c:=(b.out _).trans (a.mono (by simp));obtain⟨hc,k⟩:=S1 a;clear a;go_wp2_with fail;go_ret;exact⟨rfl,c⟩
 · obtain rfl:len=0:=by omega
   clear h;go_enter Tryz.func61,Tryz.ntmps61;go_wp2_with fail;refine(d.out _ (g.out.on (b.out _))).mono ?_;rintro e w2 ⟨rfl,a⟩;have c:=(b.out _).trans (a.mono (by simp));obtain⟨hc,k⟩:=S1 a;clear a;go_wp2_with fail;go_ret;exact⟨rfl,c⟩
 · have l:(16:Int)<(len:Int):=by omega
   go_enter Tryz.func61,Tryz.ntmps61;go_wp2_with fail;refine(d.out _ (g.out.on (b.out _))).mono ?_;rintro e w2 ⟨rfl,a⟩;have c:=(b.out _).trans (a.mono (by simp));obtain⟨hc,k⟩:=S1 a;clear a;go_wp2_with fail;go_ret;exact⟨rfl,c⟩
set_option maxRecDepth 100000 in
theorem ref_may (m:Nat): ∀(T:Tm) (ad:Option Addr) (cap:Nat) (w:World),T.size<=m->Tabs w->G6 w T ad cap->
 Calls Tryz.prog 61 #[tmv T ad cap] w fun e w'=>e=.returned (.bool T.may)/\Below w.heap.size w w':=by
 induction m with
 |zero=>intro T ad cap w h;have:=T.size_pos;omega
 | succ m ih=>
  intro T ad cap w hm s d;have IH:=D_ ih;clear ih;rw [T.may_eq];by_cases q:T.kind=4
  · have y :=fun w s=>xX T.name w d.name s;have C:p9 T.kind T.name T.n T.args.length (Tm.mays T.args)=(decide (T.n=0)&&(K2 T.name.data.toList&&(decide (1<=T.args.length)&&(decide (T.args.length<=16)&&Tm.mays T.args)))):=by
     unfold p9;rw [I_ (by omega),I_ (by omega),I_ (by omega),J_ q]
    rw [C];unfold tmv;rw [q];clear C;have no:=fun h=>ref_may_no T.n T.name T.args.length ad cap w (K2 T.name.data.toList) s y h;by_cases g:T.n=0
    · cases u:K2 T.name.data.toList with
      |false=>
       rw [u]at no;have i:=no (.inr (.inl ⟨g,rfl⟩));simpa using i
      | true=>
       rw [u]at no y;by_cases A:T.args.length<1
       · have i:=no (.inr (.inr (.inl ⟨g,rfl,A⟩)));rw [decide_eq_false (show¬1<=T.args.length by omega)];simpa using i
       by_cases B:16<T.args.length
       · have i:=no (.inr (.inr (.inr ⟨g,rfl,B⟩)));rw [decide_eq_false (show¬T.args.length<=16 by omega)];simpa using i
       rw [decide_eq_true g,decide_eq_true (show 1<=T.args.length by omega),decide_eq_true (show T.args.length<=16 by omega),Bool.true_and,Bool.true_and,Bool.true_and,Bool.true_and,g];obtain⟨E,H⟩: ∃E,Tm.mays T.args=E:=⟨_,rfl⟩;rw [H];have J:=D_ H;have X:=D_ y;have O:=D_ s;have M:=D_ d;have N:=D_ T.size_eq;have z:=D_ (fun o:Obj=>(F_ w.heap.size w).alloc (R_ _) o);have W:=d.len;have a_:(1:Int)<=(T.args.length:Int):=by omega
       have b_:(T.args.length:Int)<=16:=by omega
       clear no y s d H u A B g q;go_enter Tryz.func61,Tryz.ntmps61;go_wp2_with fail;refine(X.out _ (O.out.on (z.out _))).mono ?_;rintro e w2 ⟨rfl,t⟩;have Z:=(z.out _).trans (t.mono (by simp));obtain⟨hc,hf⟩:=S1 t;clear t;go_wp2_with fail;clear hc hf;go_loopw [76] (fun iv wr=> ∃k:Nat,k<=T.args.length/\iv=.int .i64 k/\Below w.heap.size w wr/\Hid (Tm.mays (T.args.take k)=true)) (fun iv _=>T.args.length-(intOf iv).toNat)
       case atStart=>exact⟨0,Nat.zero_le _,rfl,Z,D_ rfl⟩
       case round=>
        obtain⟨k,hk,rfl,a,D⟩:=hrel;by_cases r:k<T.args.length
        · obtain⟨b,o,rfl⟩:=M.out.args.addr (by omega);obtain⟨ad1,cap1,c0,c1,c2,c3,p⟩:=(M.out.args.on a).get k r;have v:=Tm.mem_size (List.getElem_mem r);have U:=D_ (mays_snoc T.args k r);have R:=D_ (mays_hit T.args k r);generalize T.args[k]=x at*;have V:x.size<=m:=by have:=N.out;omega
          have j:=IH.out x ad1 cap1 (wr.alloc (.cells #[.int .i64 x.kind,.string x.name,.int .i64 x.n,.slice ad1 x.args.length cap1] 26)) V (O.out.on (a.alloc a.size _)) (p.on ((F_ _ wr).alloc (R_ _) _));unfold tmv at j;cases hx:x.may with
          |false=>
           rw [hx]at j;have F:=D_ j;have G:Hid (E=false):=D_ (J.out.symm.trans (R.out hx));clear j hx p v;go_wp2_with fail;refine F.out.mono ?_;rintro e w3 ⟨rfl,c⟩;have l:=(a.alloc a.size _).trans (c.mono (Nat.le_trans a.size (by simp)));clear c a c0 c1 c2 c3;go_wp2_with fail;go_ret;exact⟨N7 G.out.symm,l⟩
          |true=>
           rw [hx]at j;have F:=D_ j;have Y:Hid (Tm.mays (T.args.take (k+1))=true):=D_ (by rw [U.out,D.out,hx];rfl);clear j hx p v;go_wp2_with fail;refine F.out.mono ?_;rintro e w3 ⟨rfl,c⟩;have l:=(a.alloc a.size _).trans (c.mono (Nat.le_trans a.size (by simp)));clear c a c0 c1 c2 c3;go_wp2_with fail;go_roundw
           case rel=>exact⟨k+1,by omega,by go_num,l,Y⟩
           case measure=>simp [intOf];omega
        · have I:=D.out;rw [List.take_of_length_le (by omega)]at I;have G:Hid (E=true):=D_ (J.out.symm.trans I);clear I D;go_wp2_with fail;go_ret;exact⟨N7 G.out.symm,a⟩
    · have i:=no (.inl g);rw [decide_eq_false g,Bool.false_and];exact i
  · unfold tmv;exact yZ T.kind T.n T.name T.args.length ad cap w (Tm.mays T.args) s d.name q
def Tm.chk (t:Tm):Int:=if t.may then(if 60<t.deep then 3 else 0)else 30
set_option maxRecDepth 100000 in
theorem D6 (T:Tm) (ad:Option Addr) (cap:Nat) (w:World) (t:T.size<=1000000) (n:Tabs w) (d:G6 w T ad cap):
 Calls Tryz.prog 42 #[tmv T ad cap] w fun e w'=>e=.returned (.int .i64 T.chk)/\Below w.heap.size w w':=by
 have h: ∀o:Obj,Below w.heap.size w (w.alloc o):=fun o=>(F_ _ w).alloc (R_ _) o;have b:=fun o=>ref_may T.size T ad cap (w.alloc o) (R_ _) (n.on (h o)) (d.on (h o));have g:=fun w' d=>ref_Deep T.size T ad cap w' (R_ _) t d;have v:=T.deep_le_size;unfold Tm.chk;have s:=D_ d;have k:=D_ h;cases j:T.may with
 |false=>
  rw [j]at b;have m:=D_ b;clear b g j n d h;unfold tmv at*;go_enter Tryz.func42,Tryz.ntmps42;go_wp2_with fail;refine(m.out _).mono ?_;rintro e w2 ⟨rfl,a⟩;have c:=(k.out _).trans (a.mono (by simp));clear a;go_wp2_with fail;go_ret;exact⟨rfl,c⟩
 |true=>
  rw [j]at b;have m:=D_ b;have r:=D_ g;clear b g j n d h;unfold tmv at*;by_cases p:60<T.deep
  · rw [J_ rfl,J_ p];go_enter Tryz.func42,Tryz.ntmps42;go_wp2_with fail;refine(m.out _).mono ?_;rintro e w2 ⟨rfl,a⟩;have c:=(k.out _).trans (a.mono (by simp));obtain⟨hc,q⟩:=S1 a;clear a;go_wp2_with fail;refine(r.out _ (s.out.on c)).mono ?_;rintro e w3 ⟨rfl,i⟩;have l:=c.trans (i.mono c.size);clear i c hc q;go_wp2_with fail;go_ret;exact⟨rfl,l⟩
  · rw [J_ rfl,I_ p];have u:(T.deep:Int)<=60:=by omega
    clear p;go_enter Tryz.func42,Tryz.ntmps42;go_wp2_with fail;refine(m.out _).mono ?_;rintro e w2 ⟨rfl,a⟩;have c:=(k.out _).trans (a.mono (by simp));obtain⟨hc,q⟩:=S1 a;clear a;go_wp2_with fail;refine(r.out _ (s.out.on c)).mono ?_;rintro e w3 ⟨rfl,i⟩;have l:=c.trans (i.mono c.size);clear i c hc q;go_wp2_with fail;go_ret;exact⟨rfl,l⟩
end Go.Proofs.YtinefdlkajnomaaGreatDoor
