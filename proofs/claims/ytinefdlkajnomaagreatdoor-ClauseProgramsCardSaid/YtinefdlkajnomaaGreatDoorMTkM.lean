import Derived.IntWalk
import Derived.Test.YtinefdlkajnomaaGreatDoorChecked
import Derived.WalkKit
import Derived.WalkSpells
import Derived.Lib.Hide
import Derived.Lib.ItoaMem
import Derived.Lib.OthersKept
import Derived.Laws.RangeAny
import Derived.Laws.RangeString
import Derived.Lib.ItoaLen
import Derived.Laws.IdiomStrings
import Derived.Test.YtinefdlkajnomaaGreatDoorMCharM
import Derived.Lib.SpaceUEq
namespace Go.Proofs.YtinefdlkajnomaaGreatDoor
open Go.RowKit
set_option maxHeartbeats 20000000
def In64 (x:Int):Prop:= -9223372036854775808<=x/\x<=9223372036854775807
def X8 (x:Int):Int:=if-9223372036854775808<=x/\x<=9223372036854775807 then x else 0
def I9 (x:Int):Int:=if-9223372036854775808<=x/\x<=9223372036854775807 then 0 else 10
theorem d8 {x:Int} (h:In64 x):X8 x=x:=J_ h
theorem E8 {x:Int} (h:In64 x):I9 x=0:=J_ h
theorem Q6 {x:Int} (h: ¬In64 x):X8 x=0:=I_ h
theorem P6 {x:Int} (h: ¬In64 x):I9 x=10:=I_ h
theorem tdiv_mul (a b:Int) (c:b≠0):(a*b).tdiv b=a:=Int.mul_tdiv_cancel a c
theorem tdiv_off (p b:Int):p=b*p.tdiv b+p.tmod b:=(Int.mul_tdiv_add_tmod p b).symm
theorem tmod_lt (p b:Int) (c:b≠0): -(b.natAbs:Int)<p.tmod b/\p.tmod b<b.natAbs:=by
 have h:=Int.natAbs_tmod p b;have a:p.natAbs%b.natAbs<b.natAbs:=Nat.mod_lt _ (by omega);omega
theorem mul_back (a b:Int) (d:b≠0) (g:In64 b) (h:(wrap64 (a*b)).tdiv b=a):In64 (a*b):=by
 have c:=tdiv_off (wrap64 (a*b)) b;have i:=tmod_lt (wrap64 (a*b)) b d;rw [h,Int.mul_comm b a]at c;generalize (wrap64 (a*b)).tmod b=r at*;generalize a*b=p at*;unfold In64 at*;unfold wrap64 at c;omega
theorem mul_fwd (a b:Int) (c:b≠0) (h:In64 (a*b)):(wrap64 (a*b)).tdiv b=a:=by
 rw [IntWalk.wrap64_in _ h,tdiv_mul a b c]
theorem sub_over {a b:Int} (g:In64 a) (i:In64 b) (h:(!decide (0<b)==decide (wrap64 (a-b)<a))=true): ¬In64 (a-b):=by
 unfold In64 at*;by_cases d:0<b<;>by_cases c:wrap64 (a-b)<a<;>simp [d,c]at h<;>unfold wrap64 at c<;>omega
theorem sub_good {a b:Int} (g:In64 a) (i:In64 b) (h:(!decide (0<b)==decide (wrap64 (a-b)<a))=false):In64 (a-b):=by
 unfold In64 at*;by_cases d:0<b<;>by_cases c:wrap64 (a-b)<a<;>simp [d,c]at h<;>unfold wrap64 at c<;>omega
theorem tdiv_in {p b:Int} (d:In64 p) (g:b≠0) (i:b≠ -1):In64 (p.tdiv b):=by
 by_cases c:b=1
 · subst c;rw [Int.tdiv_one];exact d
 · have h:(p.tdiv b).natAbs=p.natAbs/b.natAbs:=Int.natAbs_tdiv p b;have a:p.natAbs/b.natAbs<=p.natAbs/2:=Nat.div_le_div_left (by omega) (by omega);rw [<-h]at a;clear h;generalize p.tdiv b=e at a⊢;unfold In64 at*;omega
theorem AJ {a b:Int} (g:In64 a) (d:b≠0) (h:(wrap64 ((wrap64 (a*b)).tdiv b) !=a)=true): ¬In64 (a*b):=by
 intro c;rw [mul_fwd a b d c,IntWalk.wrap64_in _ g]at h;simp at h
theorem zJ {a b:Int} (k:In64 a) (i:In64 b) (d:b≠0) (g:b= -1->a≠ -9223372036854775808) (h:(wrap64 ((wrap64 (a*b)).tdiv b) !=a)=false):In64 (a*b):=by
 by_cases c:b= -1
 · have:=g c;subst c;unfold In64 at*;omega
 · refine mul_back a b d i ?_;have j:In64 (wrap64 (a*b)):=by unfold In64 wrap64;omega
   rw [IntWalk.wrap64_in _ (tdiv_in j d c)]at h;simpa using h
def quoV (a b:Int):Int:=if b=0 then 0 else X8 (a.tdiv b)
def quoE (a b:Int):Int:=if b=0 then 11 else I9 (a.tdiv b)
def remV (a b:Int):Int:=if b=0 then 0 else a.tmod b
def zeroE (b:Int):Int:=if b=0 then 11 else 0
def adj (r b:Int):Int:=if r≠0/\ ¬(r<0↔b<0)then r+b else r
def modV (a b:Int):Int:=if b=0 then 0 else adj (a.tmod b) b
def cmpV (a b:Int):Int:=if a<b then-1 else if b<a then 1 else 0
theorem Q8 {x v:Int} (hx:In64 x) (a:v=x):Ending.returned (.tuple #[.int .i64 v,.int .i64 0])=.returned (.tuple #[.int .i64 (X8 x),.int .i64 (I9 x)]):=by
 rw [d8 hx,E8 hx,a]
theorem C8 {x:Int} (hx: ¬In64 x):Ending.returned (.tuple #[.int .i64 0,.int .i64 10])=.returned (.tuple #[.int .i64 (X8 x),.int .i64 (I9 x)]):=by
 rw [Q6 hx,P6 hx]
theorem K5 {v e v' e':Int} (b:v=v') (a:e=e'):Ending.returned (.tuple #[.int .i64 v,.int .i64 e])=.returned (.tuple #[.int .i64 v',.int .i64 e']):=by
 rw [b,a]
theorem M2 {a b:Int} (h:a=b):Ending.returned (.int .i64 a)=.returned (.int .i64 b):=by rw [h]
theorem num_Sub (a b:Int) (w:World) (g:In64 a) (i:In64 b):
 Calls Tryz.prog 183 #[.int .i64 a,.int .i64 b] w fun e w'=>e=.returned (.tuple #[.int .i64 (X8 (a-b)),.int .i64 (I9 (a-b))])/\w=w':=by
 have c:=g;have d:=i;unfold In64 at g i;obtain⟨j,k⟩:=g;obtain⟨l,m⟩:=i;go_enter Tryz.func183,Tryz.ntmps183;go_wp2
 · go_ret2;exact⟨C8 (sub_over c d ‹_›),rfl⟩
 · go_ret2;have h:=sub_good c d ‹_›;exact⟨Q8 h (IntWalk.wrap64_in _ h),rfl⟩
theorem num_Neg (a:Int) (w:World) (b:In64 a):
 Calls Tryz.prog 165 #[.int .i64 a] w fun e w'=>e=.returned (.tuple #[.int .i64 (X8 (-a)),.int .i64 (I9 (-a))])/\w=w':=by
 unfold In64 at b;obtain⟨g,i⟩:=b;go_enter Tryz.func165,Tryz.ntmps165;go_wp2
 · go_ret2;rename_i h
   have d:a= -9223372036854775808:=by simpa using h
   exact⟨C8 (by unfold In64;omega),rfl⟩
 · go_ret2;rename_i h
   have d:a≠ -9223372036854775808:=by simpa using h
   have c:In64 (-a):=by unfold In64;omega
   exact⟨Q8 c (by first|exact IntWalk.wrap64_in _ c|rfl),rfl⟩
theorem num_Mul (a b:Int) (w:World) (i:In64 a) (j:In64 b):
 Calls Tryz.prog 182 #[.int .i64 a,.int .i64 b] w fun e w'=>e=.returned (.tuple #[.int .i64 (X8 (a*b)),.int .i64 (I9 (a*b))])/\w=w':=by
 have c:=i;have k:=j;unfold In64 at i j;obtain⟨l,m⟩:=i;obtain⟨n,o⟩:=j;by_cases d:b=0
 · subst d;go_enter Tryz.func182,Tryz.ntmps182;go_wp2;go_ret2;exact⟨Q8 (by unfold In64;omega) (by omega),rfl⟩
 by_cases g:b= -1
 · subst g;go_enter Tryz.func182,Tryz.ntmps182;go_wp2_with (go_at_call 165;refine(num_Neg _ _ c).mono ?_;rintro e w' ⟨rfl,rfl⟩);go_ret2;exact⟨K5 (congrArg X8 (show-a=a* -1 by omega)) (congrArg I9 (show-a=a* -1 by omega)),rfl⟩
 · have e0:(b==0)=false:=by simpa using d
   have e1:(b== -1)=false:=by simpa using g
   go_enter Tryz.func182,Tryz.ntmps182;go_wp2_with fail
   · go_ret2;exact⟨C8 (AJ c d ‹_›),rfl⟩
   · go_ret2;have h:=zJ c k d (fun h=>absurd h g) ‹_›;exact⟨Q8 h (IntWalk.wrap64_in _ h),rfl⟩
theorem xZ (a b:Int) (w:World) (c:In64 a) (d:In64 b):
 Calls Tryz.prog 153 #[.int .i64 a,.int .i64 b] w fun e w'=>e=.returned (.tuple #[.int .i64 (X8 (a-b)),.int .i64 (I9 (a-b))])/\w=w':=by
 unfold In64 at c d;obtain⟨g,h⟩:=c;obtain⟨i,j⟩:=d;go_enter Tryz.func153,Tryz.ntmps153;go_wp2
 all_goals
  go_ret2;first
   |exact⟨Q8 (by unfold In64;omega) rfl,rfl⟩
   |exact⟨C8 (by unfold In64;omega),rfl⟩
theorem ij (a b:Int) (w:World) (j:In64 a) (k:In64 b):
 Calls Tryz.prog 152 #[.int .i64 a,.int .i64 b] w fun e w'=>e=.returned (.tuple #[.int .i64 (X8 (a*b)),.int .i64 (I9 (a*b))])/\w=w':=by
 have g:=j;have l:=k;unfold In64 at j k;obtain⟨m,n⟩:=j;obtain⟨o,p⟩:=k;by_cases c:b=0
 · subst c;go_enter Tryz.func152,Tryz.ntmps152;go_wp2
   all_goals
    go_ret2;exact⟨Q8 (by unfold In64;omega) (by omega),rfl⟩
 by_cases g0:a=0
 · subst g0;go_enter Tryz.func152,Tryz.ntmps152;go_wp2;go_ret2;exact⟨Q8 (by unfold In64;omega) (by omega),rfl⟩
 by_cases g1:a= -1
 · subst g1;by_cases d:b= -9223372036854775808
   · subst d;go_enter Tryz.func152,Tryz.ntmps152;go_wp2;go_ret2;exact⟨C8 (by unfold In64;omega),rfl⟩
   · have e0:(b==0)=false:=by simpa using c
     have el:(b== -9223372036854775808)=false:=by simpa using d
     go_enter Tryz.func152,Tryz.ntmps152;go_wp2
     all_goals
      go_ret2;exact⟨Q8 (by unfold In64;omega) (by omega),rfl⟩
 by_cases i:b= -1
 · subst i;by_cases d:a= -9223372036854775808
   · subst d;go_enter Tryz.func152,Tryz.ntmps152;go_wp2;go_ret2;exact⟨C8 (by unfold In64;omega),rfl⟩
   · have e0:(a==0)=false:=by simpa using g0
     have e1:(a== -1)=false:=by simpa using g1
     have el:(a== -9223372036854775808)=false:=by simpa using d
     have q: -9223372036854775807<=a:=by omega
     go_enter Tryz.func152,Tryz.ntmps152;go_wp2
     all_goals
      go_ret2;exact⟨Q8 (by unfold In64;omega) (by omega),rfl⟩
 · have e0:(b==0)=false:=by simpa using c
   have e1:(a==0)=false:=by simpa using g0
   have e2:(a== -1)=false:=by simpa using g1
   have e3:(b== -1)=false:=by simpa using i
   go_enter Tryz.func152,Tryz.ntmps152;go_wp2
   · go_ret2;exact⟨C8 (AJ g c ‹_›),rfl⟩
   · go_ret2;have h:=zJ g l c (fun h=>absurd h i) ‹_›;exact⟨Q8 h (IntWalk.wrap64_in _ h),rfl⟩
theorem ref_Neg (a:Int) (w:World) (b:In64 a):
 Calls Tryz.prog 154 #[.int .i64 a] w fun e w'=>e=.returned (.tuple #[.int .i64 (X8 (-a)),.int .i64 (I9 (-a))])/\w=w':=by
 go_enter Tryz.func154,Tryz.ntmps154;go_wp2_with (go_at_call 153;refine(xZ _ _ _ (by unfold In64;omega) b).mono ?_;rintro e w' ⟨rfl,rfl⟩;rw [show 0-a= -a by omega]);go_ret2;exact⟨rfl,rfl⟩
def absI (a:Int):Int:=if 0<=a then a else-a
def T1 (c:UInt8):Bool:=decide (48<=c.toNat/\c.toNat<=57)
def val (l:List UInt8):Int:=l.foldl (fun n c=>10*n+((c.toNat:Int)-48)) 0
def body:List UInt8->List UInt8
 | []=> []
 |c::t=>if c.toNat=45 then t else c::t
def neg:List UInt8->Bool
 | []=>false
 |c::_=>decide (c.toNat=45)
def L8 (l:List UInt8):Int:=if neg l then-(val (body l))else val (body l)
def B5 (l:List UInt8):Int:=if body l= []\/(body l).all T1=false then 0 else X8 (L8 l)
def X5 (l:List UInt8):Int:=if body l= []\/(body l).all T1=false then 20 else I9 (L8 l)
theorem CQ (l:List UInt8) (c:UInt8):val (l++ [c])=10*val l+((c.toNat:Int)-48):=by
 unfold val;rw [List.foldl_append];rfl
theorem L4 (c:UInt8):T1 c=true↔48<=c.toNat/\c.toNat<=57:=by unfold T1;simp
theorem k8 (c:UInt8):T1 c=false↔c.toNat<48\/57<c.toNat:=by unfold T1;simp;omega
theorem E9: ∀(l:List UInt8) (n:Int),0<=n->l.all T1=true->0<=l.foldl (fun n c=>10*n+((c.toNat:Int)-48)) n
 | [],n,h,_=>h
 |c::t,n,h,ha=>by
  rw [List.all_cons,Bool.and_eq_true]at ha;have hc:=(L4 c).1 ha.1;exact E9 t (10*n+((c.toNat:Int)-48)) (by omega) ha.2
theorem Z5 {l:List UInt8} (h:l.all T1=true):0<=val l:=E9 l 0 (Int.le_refl 0) h
theorem cz (p:List UInt8) (c:UInt8) (h:p= []->c.toNat≠45):body (p++ [c])=body p++ [c]/\neg (p++ [c])=neg p:=by
 cases p with
 |nil=>
  have:=h rfl;constructor
  · show(if c.toNat=45 then []else [c])= [c]
    rw [I_ this]
  · show decide (c.toNat=45)=false
    simpa using this
 |cons x t=>
  constructor
  · show(if x.toNat=45 then t++ [c]else x::(t++ [c]))=(if x.toNat=45 then t else x::t)++ [c]
    split<;>rfl
  · rfl
theorem YZ (p t:List UInt8) (c:UInt8) (hc:T1 c=false) (h:p= []->c.toNat≠45):(body (p++c::t)).all T1=false:=by
 cases p with
 |nil=>
  have:=h rfl;show(if c.toNat=45 then t else c::t).all T1=false
  rw [I_ this,List.all_cons,hc,Bool.false_and]
 |cons x q=>
  show(if x.toNat=45 then q++c::t else x::(q++c::t)).all T1=false
  split<;>simp [List.all_append,hc]
def St (p:List UInt8) (n e:Int):Prop:=
 (body p).all T1=true/\((e=0/\n= -(val (body p))/\In64 n)\/(e=10/\n=0/\ ¬In64 (-(val (body p)))))
theorem St_start:St [] 0 0:=⟨rfl,.inl ⟨rfl,rfl,by unfold In64;omega⟩⟩
theorem St_nil {m k:Int} (h:St [] m k):m=0/\k=0:=by
 obtain⟨_,⟨a,c,_⟩|⟨_,_,b⟩⟩:=h
 · exact⟨c,a⟩
 · exact absurd (show In64 (-(val (body []))) by show In64 0;unfold In64;omega) b
theorem St_neg (c:UInt8) (h:c.toNat=45):St [c] 0 0:=by
 have e:body [c]= []:=by show(if c.toNat=45 then []else [c])= [];rw [J_ h]
 refine⟨by rw [e];rfl,.inl ⟨rfl,?_,by unfold In64;omega⟩⟩;rw [e];rfl
theorem uj (c:UInt8) (h:c.toNat=45):body [c]= []/\neg [c]=true:=
 ⟨by show(if c.toNat=45 then []else [c])= [];rw [J_ h],by show decide (c.toNat=45)=true;simpa using h⟩
theorem St_step {p:List UInt8} {n:Int} {c:UInt8} (h:St p n 0) (hc:T1 c=true):St (p++ [c]) (X8 (n*10-((c.toNat:Int)-48))) (I9 (n*10-((c.toNat:Int)-48))):=by
 obtain⟨a,⟨_,d,i⟩|⟨b,_⟩⟩:=h
 · have g:=(L4 c).1 hc;obtain⟨e1,_⟩:=cz p c (fun _=>by omega);have hx:n*10-((c.toNat:Int)-48)= -(val (body (p++ [c]))):=by rw [e1,CQ,d];omega
   refine⟨by rw [e1,List.all_append,a];simp [hc],?_⟩;rw [hx];by_cases h:In64 (-(val (body (p++ [c]))))
   · exact .inl ⟨E8 h,d8 h,by rw [d8 h];exact h⟩
   · exact .inr ⟨P6 h,Q6 h,h⟩
 · exact absurd b (by decide)
theorem St_over {p:List UInt8} {n:Int} {c:UInt8} (h:St p n 10) (hc:T1 c=true):St (p++ [c]) n 10:=by
 obtain⟨a,⟨b,_⟩|⟨_,d,j⟩⟩:=h
 · exact absurd b (by decide)
 · have i:=(L4 c).1 hc;obtain⟨e1,_⟩:=cz p c (fun _=>by omega);have g:=Z5 a;refine⟨by rw [e1,List.all_append,a];simp [hc],.inr ⟨rfl,d,?_⟩⟩;rw [e1,CQ];unfold In64 at*;omega
theorem St_e {p:List UInt8} {n e:Int} (h:St p n e):e=0\/e=10:=by
 obtain⟨_,⟨a,_⟩|⟨a,_⟩⟩:=h
 · exact .inl a
 · exact .inr a
theorem St_n {p:List UInt8} {n:Int} (h:St p n 0):In64 n/\n<=0:=by
 obtain⟨a,⟨_,d,c⟩|⟨b,_⟩⟩:=h
 · exact⟨c,by have:=Z5 a;omega⟩
 · exact absurd b (by decide)
theorem s8 {l:List UInt8} (h:body l= []\/(body l).all T1=false):B5 l=0/\X5 l=20:=⟨J_ h,J_ h⟩
theorem L6 {l:List UInt8} (a:body l≠ []) (h:(body l).all T1=true):B5 l=X8 (L8 l)/\X5 l=I9 (L8 l):=by
 have: ¬(body l= []\/(body l).all T1=false):=by simp [a,h]
 exact⟨I_ this,I_ this⟩
theorem read_over {l:List UInt8} {n:Int} (b:body l≠ []) (h:St l n 10):B5 l=0/\X5 l=10:=by
 obtain⟨a,⟨d,_⟩|⟨_,i,g⟩⟩:=h
 · exact absurd d (by decide)
 · have hx:=Z5 a;have c: ¬In64 (L8 l):=by
    unfold L8 In64 at*;split<;>omega
   rw [(L6 b a).1,(L6 b a).2,Q6 c,P6 c];exact⟨rfl,rfl⟩
theorem WJ {l:List UInt8} {n:Int} (a:body l≠ []) (h:St l n 0) (g:neg l=true):B5 l=n/\X5 l=0:=by
 obtain⟨b,⟨_,e,c⟩|⟨d,_⟩⟩:=h
 · have:L8 l=n:=by unfold L8;rw [J_ g,e]
   rw [(L6 a b).1,(L6 a b).2,this,d8 c,E8 c];exact⟨rfl,rfl⟩
 · exact absurd d (by decide)
theorem XJ {l:List UInt8} {n:Int} (a:body l≠ []) (h:St l n 0) (d:neg l=false):B5 l=X8 (-n)/\X5 l=I9 (-n):=by
 obtain⟨b,⟨_,e,g⟩|⟨c,_⟩⟩:=h
 · have:L8 l= -n:=by unfold L8;rw [d,e];simp
   rw [(L6 a b).1,(L6 a b).2,this];exact⟨rfl,rfl⟩
 · exact absurd c (by decide)
theorem num_lay (n d:Int) (w:World) (g:In64 n) (k:n<=0) (j:0<=d) (l:d<=9):
 Calls Tryz.prog 164 #[.int .i64 n,.int .i64 d] w fun e w'=>e=.returned (.tuple #[.int .i64 (X8 (n*10-d)),.int .i64 (I9 (n*10-d))])/\w=w':=by
 by_cases h:In64 (n*10)
 · have a:=num_Mul n 10 w g (by unfold In64;omega);rw [d8 h,E8 h]at a;have b:=D_ a;clear a;have c:=num_Sub (n*10) d w h (by unfold In64;omega);have i:=D_ c;clear c;go_enter Tryz.func164,Tryz.ntmps164;go_wp2_with (first
    |(go_at_call 182;refine b.out.mono ?_;rintro e w' ⟨rfl,rfl⟩)
    |(go_at_call 183;refine i.out.mono ?_;rintro e w' ⟨rfl,rfl⟩))
   go_ret2;exact⟨rfl,rfl⟩
 · have a:=num_Mul n 10 w g (by unfold In64;omega);rw [Q6 h,P6 h]at a;have b:=D_ a;clear a;go_enter Tryz.func164,Tryz.ntmps164;go_wp2_with (go_at_call 182;refine b.out.mono ?_;rintro e w' ⟨rfl,rfl⟩);go_ret2;exact⟨C8 (by unfold In64 at*;omega),rfl⟩
theorem Az (s:ByteArray) (k:Nat) (h:k<s.size):s.data.toList.take (k+1)=s.data.toList.take k++ [s[k]]:=by
 rw [U_ (by simpa using h)];rfl
theorem C9 (s:ByteArray) (k:Nat) (h:k<s.size):s.data.toList=s.data.toList.take k++s[k]::s.data.toList.drop (k+1):=by
 have a:s.data.toList.drop k=s[k]::s.data.toList.drop (k+1):=List.drop_eq_getElem_cons (by simpa using h);rw [<-a,List.take_append_drop]
theorem take_nil (s:ByteArray) (k:Nat) (h:k<s.size):s.data.toList.take k= []↔k=0:=by
 have:s.data.toList.length=s.size:=by simp
 rw [List.take_eq_nil_iff];constructor
 · rintro(a|a)
   · exact a
   · rw [a]at this;have b:([]:List UInt8).length=0:=rfl;omega
 · exact .inl
set_option maxRecDepth 100000 in
theorem num_Read (s:ByteArray) (w:World) (Y:s.size<=maxLen):
 Calls Tryz.prog 136 #[.string s] w fun e w'=>e=.returned (.tuple #[.int .i64 (B5 s.data.toList),.int .i64 (X5 s.data.toList)])/\Below w.heap.size w w':=by
 have i_:s.size<=9223372036854775807:=by unfold maxLen at Y;omega
 clear Y;go_enter Tryz.func136,Tryz.ntmps136;go_wp2;go_loopw [4,5,6,7] (fun b d n e wr=> ∃(pos:Nat) (m k:Int) (ng:Bool) (len:Nat),pos<=s.size/\wr.heap[w.heap.size]?=some (.stringIter s pos)/\Below w.heap.size w wr/\
  b=.bool ng/\d=.int .i64 (len:Nat)/\n=.int .i64 m/\e=.int .i64 k/\St (s.data.toList.take pos) m k/\Hid (neg (s.data.toList.take pos)=ng)/\Hid ((body (s.data.toList.take pos)).length=len)/\len<=pos)
  (fun _ _ _ _ wr=>s.size-wr.iterPos w.heap.size)
 case atStart=>
  exact⟨0,0,0,false,0,Nat.zero_le _,by simpa using World.iter_heap w s 0,(F_ _ w).alloc (R_ _) _,rfl,rfl,rfl,rfl,St_start,D_ rfl,D_ rfl,R_ _⟩
 case round =>
  obtain⟨pos,m,k,ng,len,a_,r,u,rfl,rfl,rfl,rfl,j,p,i,h_⟩:=hrel;have j_:w.heap.size<wr.heap.size:=(Array.getElem?_eq_some_iff.1 r).1;by_cases y:pos<s.size
  · by_cases X:(s[pos]'y).toNat<128
    · have B : ∀ty,(Instr.next (.pointer (some ⟨w.heap.size,0,none⟩)) true ty).run Tryz.prog wr=_:=fun ty=>Lib.run_next_ascii_at wr w.heap.size s pos ty r y X;have l:=Lib.iterAt_heap wr w.heap.size s pos (pos+1) r;have g:=Lib.below_iterAt u (k:=w.heap.size) (R_ _) s (pos+1);have x:=D_ (Az s pos y);have R:=D_ (C9 s pos y);have T:=D_ (take_nil s pos y);generalize wr.iterAt w.heap.size s (pos+1)=W2 at B l g;generalize s[pos]=c at*;have b_:(0:Int)<=(c.toNat:Int):=by omega
      have c_:(c.toNat:Int)<128:=by omega
      by_cases A:pos=0/\c.toNat=45
      · obtain⟨rfl,hc⟩:=A;have e1:((c.toNat:Int)==45)=true:=by simp;omega
        obtain⟨rfl,rfl⟩:=St_nil j;have v:len=0:=i.out.symm;subst v;have hx:s.data.toList.take (0+1)= [c]:=x.out;have H:=D_ hx;clear hx x j p i;go_wp2;go_roundw
        case rel=>
         exact⟨0+1,0,0,true,0,by omega,l,g,rfl,rfl,rfl,rfl,by rw [H.out];exact St_neg c hc,D_ (by rw [H.out];exact(uj c hc).2),D_ (by rw [H.out,(uj c hc).1];rfl),by omega⟩
        case measure=>
         simp only [World.iterPos,l,r]
         omega
      · have G:s.data.toList.take pos= []->c.toNat≠45:=fun h1 h2=>A ⟨T.out.1 h1,h2⟩;have D:=D_ G;by_cases C:T1 c=true
        · have q:=(L4 c).1 C;have U:=D_ C;clear C A G;obtain⟨d_,e_⟩:=q;have e1:((c.toNat:Int)==45)=false:=by simp;omega
          have I:=cz _ c D.out;have W:k=0->St (s.data.toList.take (pos+1)) (X8 (m*10-((c.toNat:Int)-48))) (I9 (m*10-((c.toNat:Int)-48))):=by
           rintro rfl;rw [x.out];exact St_step j U.out
          have J:k=10->St (s.data.toList.take (pos+1)) m 10:=by
           rintro rfl;rw [x.out];exact St_over j U.out
          rw [<-x.out]at I;have M:=D_ I.1;have N:=D_ I.2;clear I;have Z:=D_ W;have V:=D_ J;have o:=D_ j;clear W J j;have hk:=St_e o.out;by_cases A:pos=0
          all_goals
           first
            |(have e0:((pos:Int)==0)=true:=by(simp;omega))
            |(have e0:((pos:Int)==0)=false:=by(simp;omega))
           clear A;rcases hk with rfl|rfl
           · go_wp2_with (go_at_call 164;refine(num_lay _ _ _ (St_n o.out).1 (St_n o.out).2 (by omega) (by omega)).mono ?_;rintro e w' ⟨rfl,rfl⟩);go_roundw
             case rel=>
              exact⟨pos+1,_,_,ng,len+1,by omega,l,g,rfl,by go_num,rfl,rfl,Z.out (by first|rfl|trivial),D_ (by rw [N.out];exact p.out),D_ (by rw [M.out,P_,i.out];rfl),by omega⟩
             case measure=>
              simp only [World.iterPos,l,r]
              omega
           · go_wp2_with fail;go_roundw
             case rel=>
              exact⟨pos+1,_,_,ng,len+1,by omega,l,g,rfl,by go_num,rfl,rfl,V.out (by first|rfl|trivial),D_ (by rw [N.out];exact p.out),D_ (by rw [M.out,P_,i.out];rfl),by omega⟩
             case measure=>
              simp only [World.iterPos,l,r]
              omega
        · have q:=(k8 c).1 (by simpa using C);have t:(body s.data.toList).all T1=false:=by
           rw [R.out];exact YZ _ _ c (by simpa using C) D.out
          have a:=D_ (s8 (.inr t));clear t C G j p i x R T D;by_cases z:pos=0
          · have e0:((pos:Int)==0)=true:=by simp;omega
            have e1:((c.toNat:Int)==45)=false:=by simp;omega
            clear A z;rcases q with q|q
            all_goals
             go_wp2;go_ret2;exact⟨K5 a.out.1.symm a.out.2.symm,g⟩
          · have e0:((pos:Int)==0)=false:=by simp;omega
            clear A z;rcases q with q|q
            all_goals
             go_wp2;go_ret2;exact⟨K5 a.out.1.symm a.out.2.symm,g⟩
    · have B: ∀ty,(Instr.next (.pointer (some ⟨w.heap.size,0,none⟩)) true ty).run Tryz.prog wr=_:=fun ty=>Lib.run_next_any_at wr w.heap.size s pos ty r y;have f_:=(decode_high s pos y (by omega)).1;have g_:=decode_le s pos;have g:=Lib.below_iterAt u (k:=w.heap.size) (R_ _) s (pos+(Utf8.decode s pos).2);have t:(body s.data.toList).all T1=false:=by
       rw [C9 s pos y];exact YZ _ _ _ ((k8 _).2 (by omega)) (fun _=>by omega)
      have a:=D_ (s8 (.inr t));clear t j p i X;generalize wr.iterAt w.heap.size s (pos+(Utf8.decode s pos).2)=W2 at B g;generalize (Utf8.decode s pos).1=c at*;have e1:((c:Int)==45)=false:=by simp;omega
      by_cases z:pos=0
      · have e0:((pos:Int)==0)=true:=by simp;omega
        clear z;go_wp2;go_ret2;exact⟨K5 a.out.1.symm a.out.2.symm,g⟩
      · have e0:((pos:Int)==0)=false:=by simp;omega
        clear z;go_wp2;go_ret2;exact⟨K5 a.out.1.symm a.out.2.symm,g⟩
  · have B: ∀ty,(Instr.next (.pointer (some ⟨w.heap.size,0,none⟩)) true ty).run Tryz.prog wr=_:=fun ty=>Lib.run_next_end_at wr w.heap.size s pos ty r y;have F:s.data.toList.take pos=s.data.toList:=List.take_of_length_le (by simp;omega);rw [F]at j p i;clear F;have o:=D_ j;clear j;by_cases v:len=0
    · have e0:((len:Int)==0)=true:=by simp;omega
      have a:=D_ (s8 (.inl (List.eq_nil_of_length_eq_zero (i.out.trans v))));clear v i p;go_wp2;go_ret2;exact⟨K5 a.out.1.symm a.out.2.symm,u⟩
    · have e0:((len:Int)==0)=false:=by simp;omega
      have O:body s.data.toList≠ []:=fun h=>v (by rw [<-i.out,h];rfl);have E:=D_ O;clear O v;rcases St_e o.out with rfl|rfl
      · cases ng
        · go_wp2_with (go_at_call 165;refine(num_Neg _ _ (St_n o.out).1).mono ?_;rintro e w' ⟨rfl,rfl⟩);go_ret2;have a:=XJ E.out o.out p.out;exact⟨K5 a.1.symm a.2.symm,u⟩
        · go_wp2_with fail;go_ret2;have a:=WJ E.out o.out p.out;exact⟨K5 a.1.symm a.2.symm,u⟩
      · go_wp2_with fail;go_ret2;have a:=read_over E.out o.out;exact⟨K5 a.1.symm a.2.symm,u⟩
theorem ofNat_toNat (k:Nat) (h:k<=9):(UInt8.ofNat (48+k)).toNat=48+k:=by
 rw [UInt8.toNat_ofNat'];omega
theorem eX (k:Nat) (h:k<=9):T1 (UInt8.ofNat (48+k))=true:=by
 rw [L4,ofNat_toNat k h];omega
theorem Tq (u:Nat):(Lib.decDigits u).all T1=true:=by
 induction u using Nat.strongRecOn with
 |_ u ih=>
  rw [Lib.decDigits];split
  · rw [List.all_cons,eX u (by omega),List.all_nil];rfl
  · rw [List.all_append,ih (u/10) (by omega),List.all_cons,eX (u%10) (by omega),List.all_nil];rfl
theorem RX (u:Nat):Lib.decDigits u≠ []:=by
 rw [Lib.decDigits];split<;>simp
theorem itoa_pos (a:Int) (h:0<=a):Lib.itoa a=Lib.decDigits a.toNat:=by
 obtain⟨u,rfl⟩:=Int.eq_ofNat_of_zero_le h;exact Lib.itoa_nonneg u
theorem itoa_neg' (a:Int) (h:a<0):Lib.itoa a=45::Lib.decDigits (-a).toNat:=by
 obtain⟨u,b⟩:=Int.eq_ofNat_of_zero_le (show 0<= -a by omega);have:a= -(u:Int):=by omega
 rw [this,Lib.itoa_neg u (by omega)];simp
end Go.Proofs.YtinefdlkajnomaaGreatDoor
namespace Go.Proofs.YtinefdlkajnomaaGreatDoor
open Go.RowKit
set_option maxHeartbeats 20000000
def LQ (b:UInt8):Bool:=decide (b.toNat=40\/b.toNat=41\/b.toNat=44)
def Ends (r:List UInt8):Prop:=r= []\/ ∃b t,r=b::t/\LQ b=true
theorem eJ: ∀(x y r s:List UInt8),x.all (fun b=>!LQ b)=true->y.all (fun b=>!LQ b)=true->Ends r->Ends s->x++r=y++s->x=y/\r=s
 | [],[],r,s,_,_,_,_,h=>⟨rfl,h⟩
 | [],b::y,r,s,_,hy,d,_,h=>by
  rcases d with rfl|⟨c,t,rfl,hc⟩
  · cases h
  · injection h with h1 h2;subst h1;rw [List.all_cons,hc]at hy;cases hy
 |a::x,[],r,s,hx,_,_,g,h=>by
  rcases g with rfl|⟨c,t,rfl,hc⟩
  · cases h
  · injection h with h1 h2;subst h1;rw [List.all_cons,hc]at hx;cases hx
 |a::x,b::y,r,s,hx,hy,d,g,h=>by
  injection h with h1 h2;rw [List.all_cons,Bool.and_eq_true]at hx hy;obtain⟨e1,e2⟩:=eJ x y r s hx.2 hy.2 d g h2;exact⟨by rw [h1,e1],e2⟩
theorem Lj {r:List UInt8} (h:Ends r):r.headD 0≠39:=by
 rcases h with rfl|⟨b,t,rfl,a⟩
 · decide
 · intro e;have e':b=39:=e;subst e';revert a;decide
theorem ascii_rune {l:List UInt8} (c:l≠ []) (m:Lib.validD l=true) (h:(Lib.decodeL l).1<128): ∃b t,l=b::t/\b.toNat=(Lib.decodeL l).1/\l.drop (Lib.decodeL l).2=t:=by
 obtain⟨j,_⟩:=Z9 c m;obtain⟨_,a⟩:=R6 l c j;rw [encL_ascii _ (by omega) (by omega)]at a;have n:=Lib.decodeL_width l;cases l with
 |nil=>exact absurd rfl c
 | cons b t=>
  obtain⟨k,g⟩: ∃k,(Lib.decodeL (b::t)).2=k+1:=by
   have:=congrArg List.length a;rw [List.length_take,List.length_singleton]at this;exact⟨(Lib.decodeL (b::t)).2-1,by omega⟩
  rw [g,List.take_succ_cons]at a;injection a with h1 h2;refine⟨b,t,rfl,?_,?_⟩
  · have e:((Lib.decodeL (b::t)).1:Int).toNat=(Lib.decodeL (b::t)).1:=by omega
    rw [e]at h1;have d:=congrArg UInt8.toNat h1;rw [D2 _ (by omega)]at d;exact d.symm
  · rw [g,List.drop_succ_cons];have i:(List.take k t).length=0:=by rw [<-h2];rfl
    rw [List.length_take]at i;rcases Nat.eq_zero_or_pos k with rfl|hp
    · rfl
    · have:t.length=0:=by omega
      rw [List.eq_nil_of_length_eq_zero this];simp
theorem Yj {c:Int} (h:X2 c=true\/U1 c=true):c<128/\c≠40/\c≠41/\c≠44/\c≠39:=by
 unfold X2 U1 cls at h;simp only [decide_eq_true_eq]at h
 refine⟨?_,?_,?_,?_,?_⟩
 · apply Classical.byContradiction
   intro hc;rw [I_ (by omega),I_ (by omega),I_ (by omega),I_ (by omega),I_ (by omega),I_ (by omega),I_ (by omega),I_ (by omega)]at h;omega
 all_goals
  intro hc;subst hc;revert h;decide
theorem Sz: ∀(n:Nat) (l:List UInt8),l.length<=n->Lib.validD l=true->(∀c∈S2 l,X2 c=true\/U1 c=true)->S2 l=l.map (fun b=>(b.toNat:Int))
 |0,l,h,_,_=>by rw [List.eq_nil_of_length_eq_zero (Nat.le_zero.1 h)];rfl
 |n+1,l,h,hv,hr=>by
  by_cases a:l= []
  · subst a;rfl
  · have hc:=vq l a;rw [hc]at hr;have i:=Yj (hr _ (.head _));obtain⟨b,t,e1,e2,e3⟩:=ascii_rune a hv (by omega);have d:=(Z9 a hv).2;rw [e3]at hc d hr;have g:t.length<=n:=by rw [e1]at h;exact Nat.le_of_succ_le_succ h
    rw [hc,Sz n t g d (fun c hc=>hr c (.tail _ hc)),<-e2,e1];rfl
theorem bare_parts {l:List UInt8} (h:Dx l=true):Lib.validD l=true/\l≠ []/\(l= [91,93]\/l= [123,125]\/l= [33]\/l= [59]\/(cls ((S2 l).headD 0)=1/\(S2 l).all X2=true)\/(S2 l).all U1=true):=by
 unfold Dx at h;simp only [Bool.and_eq_true,Bool.or_eq_true,Bool.not_eq_true',Bool.or_eq_false_iff,decide_eq_true_eq,decide_eq_false_iff_not]at h
 obtain⟨⟨b,c⟩,a⟩:=h;unfold K2 at b;rw [Bool.and_eq_true]at b;refine⟨b.2,c.1.1,?_⟩;rcases a with((((a|a)|a)|a)|a)|a
 · exact .inl a
 · exact .inr (.inl a)
 · exact .inr (.inr (.inl a))
 · exact .inr (.inr (.inr (.inl a)))
 · exact .inr (.inr (.inr (.inr (.inl a))))
 · exact .inr (.inr (.inr (.inr (.inr a))))
theorem bare_free {l:List UInt8} (h:Dx l=true):l.all (fun b=>!LQ b)=true/\ ∃b t,l=b::t/\b.toNat≠39/\b.toNat≠95/\T1 b=false/\(b.toNat=45-> ∀c s,t=c::s->T1 c=false):=by
 obtain⟨p,i,n⟩:=bare_parts h;have go:(∀c∈S2 l,X2 c=true\/U1 c=true)->S2 l=l.map (fun b=>(b.toNat:Int)):=Sz _ l (R_ _) p;have free:(∀c∈S2 l,X2 c=true\/U1 c=true)->l.all (fun b=>!LQ b)=true:=fun g=>by
  have e:=go g;rw [List.all_eq_true];intro b a;have o:(b.toNat:Int)∈S2 l:=by rw [e];exact List.mem_map.2 ⟨b,a,rfl⟩
  have d:=Yj (g _ o);unfold LQ;rw [Bool.not_eq_true',decide_eq_false_iff_not];omega
 rcases n with rfl|rfl|rfl|rfl|⟨k,d⟩|d
 · exact⟨by decide,91,[93],rfl,by decide,by decide,by decide,fun h=>absurd h (by decide)⟩
 · exact⟨by decide,123,[125],rfl,by decide,by decide,by decide,fun h=>absurd h (by decide)⟩
 · exact⟨by decide,33,[],rfl,by decide,by decide,by decide,fun h=>absurd h (by decide)⟩
 · exact⟨by decide,59,[],rfl,by decide,by decide,by decide,fun h=>absurd h (by decide)⟩
 · have g: ∀c∈S2 l,X2 c=true\/U1 c=true:=fun c hc=>.inl (List.all_eq_true.1 d c hc);refine⟨free g,?_⟩;have e:=go g;cases l with
   |nil=>exact absurd rfl i
   | cons b t=>
    rw [e]at k;have j:cls (b.toNat:Int)=1:=k;have q:97<=b.toNat/\b.toNat<=122:=by
     apply Classical.byContradiction
     intro hc;unfold cls at j;rw [I_ (by omega)]at j;repeat' split at j
     all_goals omega
    exact⟨b,t,rfl,by omega,by omega,(k8 b).2 (by omega),fun h=>by omega⟩
 · have g: ∀c∈S2 l,X2 c=true\/U1 c=true:=fun c hc=>.inr (List.all_eq_true.1 d c hc);refine⟨free g,?_⟩;have e:=go g;have sg: ∀b:UInt8,U1 (b.toNat:Int)=true->b.toNat≠39/\b.toNat≠95/\T1 b=false:=fun b a=>by
    unfold U1 at a;rw [decide_eq_true_eq]at a;have r: ¬(65<=(b.toNat:Int)/\(b.toNat:Int)<=90\/(b.toNat:Int)=95)/\ ¬(48<=(b.toNat:Int)/\(b.toNat:Int)<=57)/\(b.toNat:Int)≠39:=by
     refine⟨fun hc=>?_,fun hc=>?_,fun hc=>?_⟩
     · unfold cls at a;rw [I_ (by omega),J_ hc]at a;omega
     · unfold cls at a;rw [I_ (by omega),I_ (by omega),J_ hc]at a;omega
     · rw [hc]at a;revert a;decide
    exact⟨by omega,by omega,(k8 b).2 (by omega)⟩
   rw [e]at d;cases l with
   |nil=>exact absurd rfl i
   |cons b t=>
    rw [List.map_cons,List.all_cons,Bool.and_eq_true]at d;obtain⟨s1,s2,s3⟩:=sg b d.1;refine⟨b,t,rfl,s1,s2,s3,fun _ c s m=>?_⟩;subst m;rw [List.map_cons,List.all_cons,Bool.and_eq_true]at d;exact(sg c d.2.1).2.2
theorem jX (n:Int):(Lib.itoa n).all (fun b=>!LQ b)=true/\ ∃b t,Lib.itoa n=b::t/\(T1 b=true\/(b=45/\ ∃c s,t=c::s/\T1 c=true)):=by
 have d: ∀u,(Lib.decDigits u).all (fun b=>!LQ b)=true:=fun u=>by
  rw [List.all_eq_true];intro b a;have:=(L4 b).1 (List.all_eq_true.1 (Tq u) b a);unfold LQ;rw [Bool.not_eq_true',decide_eq_false_iff_not];omega
 have g: ∀u,∃b t,Lib.decDigits u=b::t/\T1 b=true:=fun u=>by
  cases e:Lib.decDigits u with
  |nil=>exact absurd e (RX u)
  |cons b t=>exact⟨b,t,rfl,List.all_eq_true.1 (Tq u) b (by rw [e];exact .head _)⟩
 by_cases h:0<=n
 · rw [itoa_pos n h];obtain⟨b,t,e,a⟩:=g n.toNat;exact⟨d _,b,t,e,.inl a⟩
 · rw [itoa_neg' n (by omega)];obtain⟨c,s,e,hc⟩:=g (-n).toNat;refine⟨by rw [List.all_cons,d];rfl,45,_,rfl,.inr ⟨rfl,c,s,e,hc⟩⟩
inductive Tk where
 |var (n:Int)
 |num (n:Int)
 |atom (s:List UInt8)
def Tk.ok:Tk->Prop
 | .var n=>In64 n
 | .num n=>In64 n
 | .atom s=>K2 s=true
def Tk.txt:Tk->List UInt8
 | .var n=>95::Lib.itoa n
 | .num n=>Lib.itoa n
 | .atom s=>xx s
def Tk.quoted:Tk->Bool
 | .atom s=>!Dx s
 |_=>false
theorem Tk.plain {k:Tk} (h:k.ok) (i:k.quoted=false):k.txt.all (fun b=>!LQ b)=true/\ ∃b t,k.txt=b::t/\b.toNat≠39:=by
 cases k with
 |var n=>
  refine⟨?_,95,_,rfl,by decide⟩;show(95::Lib.itoa n).all _=true
  rw [List.all_cons,(jX n).1];rfl
 |num n=>
  obtain⟨c,b,t,d,a⟩:=jX n;refine⟨c,b,t,d,?_⟩;rcases a with a|⟨rfl,_⟩
  · have:=(L4 b).1 a;omega
  · decide
 | atom s=>
  have g:Dx s=true:=by
   have:(!Dx s)=false:=i;simpa using this
  have e:(Tk.atom s).txt=s:=by show xx s=s;unfold xx;rw [J_ (show K2 s=true from h),J_ g]
  rw [e];obtain⟨c,b,t,d,a,_⟩:=bare_free g;exact⟨c,b,t,d,a⟩
theorem Tk.quote {k:Tk} (h:k.ok) (b:k.quoted=true): ∃s,k=.atom s/\k.txt=sq s/\Lib.validD s=true:=by
 cases k with
 |var n=>cases b
 |num n=>cases b
 | atom s=>
  have c:Dx s=false:=by
   have:(!Dx s)=true:=b;simpa using this
  have a:K2 s=true:=h;refine⟨s,rfl,?_,?_⟩
  · show xx s=_;unfold xx;rw [J_ a,c];rfl
  · unfold K2 at a;rw [Bool.and_eq_true]at a;exact a.2
theorem cQ (s r:List UInt8):sq s++r=39::(((S2 s).flatMap Fj++ [39])++r):=rfl
theorem Tk.cut {a b:Tk} (g:a.ok) (d:b.ok) {r s:List UInt8} (i:Ends r) (j:Ends s) (h:a.txt++r=b.txt++s):a.txt=b.txt/\r=s:=by
 cases qa:a.quoted with
 | false=>
  obtain⟨a1,a2⟩:=a.plain g qa;cases qb:b.quoted with
  |false=>exact eJ _ _ r s a1 (b.plain d qb).1 i j h
  |true=>
   obtain⟨x,rfl,e,_⟩:=b.quote d qb;obtain⟨c,t,e2,hc⟩:=a2;rw [e2,e,cQ]at h;injection h with h1 _;rw [h1]at hc;exact absurd rfl hc
 | true=>
  obtain⟨x,rfl,ex,vx⟩:=a.quote g qa;cases qb:b.quoted with
  |false=>
   obtain⟨_,c,t,e2,hc⟩:=b.plain d qb;rw [e2,ex,cQ]at h;injection h with h1 _;rw [<-h1]at hc;exact absurd rfl hc
  |true=>
   obtain⟨y,rfl,ey,vy⟩:=b.quote d qb;rw [ex,ey]at h⊢;have e1:=jQ x r vx (Lj i);have e2:=jQ y s vy (Lj j);rw [h,e2]at e1;injection e1 with e1;injection e1 with e1 e3;subst e1;exact⟨rfl,List.append_cancel_left h⟩
structure Lx where
 kind:Int
 text:List UInt8
 n:Int
 w:Nat
def lx0:Lx:=⟨0,[],0,0⟩
def O0 (P:Int->Bool) (l:List UInt8):Nat:=(l.takeWhile fun b=>P (b.toNat:Int)).length
def J3 (c:Int):Bool:=decide (cls c=3)
def A5 (c:Int):Bool:=decide (c≠10)
def V1 (x:Lx):Lx:=if K2 x.text then x else lx0
def Bq (k:Int) (l:List UInt8):Lx:=⟨k,l.take (O0 X2 l),0,O0 X2 l⟩
def z7 (l:List UInt8):Bool:=match l with| []=>true|b::_=>decide (b=37)||decide (cls (b.toNat:Int)=5)
def U9 (l:List UInt8):Lx:=⟨if l.take (O0 U1 l)= [46]/\z7 (l.drop (O0 U1 l))=true then 8 else 3,l.take (O0 U1 l),0,O0 U1 l⟩
def Q4 (l:List UInt8):Lx:=match N3 l with|some (t,k)=>⟨2,t,0,k⟩|none=>lx0
def G4 (b:UInt8):Lx:=⟨if b=33\/b=59 then 1 else 6,[b],0,1⟩
def T4 (r:List UInt8):Int×Nat:=
 if r.take 2= [39,39]then(39,4)
 else if r= []\/(Lib.decodeL r).1<32\/(Lib.decodeL r).1=39\/(Lib.decodeL r).1=92\/((Lib.decodeL r).1=65533/\(Lib.decodeL r).2<2)then(0,0)
 else(((Lib.decodeL r).1:Int),2+(Lib.decodeL r).2)
def B1 (l:List UInt8):Int×Nat:=if l.take 2= [48,39]then T4 (l.drop 2)else(0,0)
def C2 (l:List UInt8):Lx:=
 if 0<(B1 l).2 then⟨5,[],(B1 l).1,(B1 l).2⟩
 else if X5 (45::l.take (O0 J3 l))=0 then⟨5,[],wrap64 (-(B5 (45::l.take (O0 J3 l)))),O0 J3 l⟩else lx0
def A4:List UInt8->Option Nat
 | []=>none
 |b::t=>if b=42/\t.headD 0=47/\t≠ []then some 2 else(A4 t).map (· +1)
def X6 (l:List UInt8):Lx:=match A4 (l.drop 2)with|some k=>⟨0,[],0,k+2⟩|none=>lx0
def G0 (l:List UInt8):Lx:=
 match l with
 | []=>lx0
 |b::t=>
  if cls (b.toNat:Int)=5 then⟨0,[],0,1⟩
  else if cls (b.toNat:Int)=1 then V1 (Bq 1 (b::t))
  else if cls (b.toNat:Int)=2 then Bq 4 (b::t)
  else if cls (b.toNat:Int)=3 then C2 (b::t)
  else if cls (b.toNat:Int)=4 then(if(b::t).take 2= [47,42]then X6 (b::t)else V1 (U9 (b::t)))
  else if cls (b.toNat:Int)=8 then V1 (Q4 (b::t))
  else if cls (b.toNat:Int)=6\/cls (b.toNat:Int)=7 then G4 b
  else if b=37 then⟨0,[],0,O0 A5 (b::t)⟩
  else lx0
structure Tok where
 kind:Int
 text:List UInt8
 n:Int
 pos:Nat
inductive Out where
 |bad (o:Nat)
 |good (l:List Tok)
def Out.pre (ts:List Tok):Out->Out
 | .bad o=>.bad o
 | .good l=>.good (ts++l)
def V3 (k:Int) (t:List UInt8):Bool:=decide (k=1)||decide (k=2)||decide (k=3)||(decide (k=6)&&(decide (t= [93])||decide (t= [125])))
def A3 (tight:Bool) (x:Lx):Int:=if tight=true/\x.text= [40]/\x.kind=6 then 7 else x.kind
def Ex:Nat->List UInt8->Nat->Bool->Out
 |0,_,o,_=>.good [⟨9,[],0,o⟩]
 |f+1,l,o,tight=>
  if l= []then .good [⟨9,[],0,o⟩]
  else if(G0 l).w=0 then .bad o
  else if(G0 l).kind=0 then Ex f (l.drop (G0 l).w) (o+(G0 l).w) false
  else(Ex f (l.drop (G0 l).w) (o+(G0 l).w) (V3 (A3 tight (G0 l)) (G0 l).text)).pre [⟨A3 tight (G0 l),(G0 l).text,(G0 l).n,o⟩]
def C5 (l:List UInt8) (o:Nat) (tight:Bool):Out:=Ex l.length l o tight
theorem J9: ∀(f:Nat) (l:List UInt8) (o:Nat) (t:Bool),l.length<=f->Ex f l o t=Ex l.length l o t
 |0,l,o,t,h=>by rw [List.eq_nil_of_length_eq_zero (Nat.le_zero.1 h)];rfl
 | f + 1,l,o,t,h=>by
  by_cases a:l= []
  · subst a;rfl
  · have g:0<l.length:=List.length_pos_iff.2 a;obtain⟨m,d⟩: ∃m,l.length=m+1:=⟨l.length-1,by omega⟩;rw [d];unfold Ex;rw [I_ a,I_ a];by_cases b:(G0 l).w=0
    · rw [J_ b,J_ b]
    · have c:(l.drop (G0 l).w).length<=m:=by rw [List.length_drop];omega
      rw [I_ b,I_ b];have ih: ∀o t,Ex f (l.drop (G0 l).w) o t=Ex m (l.drop (G0 l).w) o t:=fun o t=>by
       rw [J9 f _ _ _ (by omega),J9 m _ _ _ c]
      rw [ih,ih]
theorem Aj (o:Nat) (t:Bool):C5 [] o t=.good [⟨9,[],0,o⟩]:=rfl
theorem Z8 (l:List UInt8) (o:Nat) (t:Bool) (c:l≠ []):C5 l o t=
 if(G0 l).w=0 then .bad o
 else if(G0 l).kind=0 then C5 (l.drop (G0 l).w) (o+(G0 l).w) false
 else(C5 (l.drop (G0 l).w) (o+(G0 l).w) (V3 (A3 t (G0 l)) (G0 l).text)).pre [⟨A3 t (G0 l),(G0 l).text,(G0 l).n,o⟩]:=by
 have g:0<l.length:=List.length_pos_iff.2 c;obtain⟨m,d⟩: ∃m,l.length=m+1:=⟨l.length-1,by omega⟩;conv=>lhs;unfold C5;rw [d];unfold Ex
 rw [I_ c];by_cases a:(G0 l).w=0
 · rw [J_ a,J_ a]
 · have b:(l.drop (G0 l).w).length<=m:=by rw [List.length_drop];omega
   rw [I_ a,I_ a];rw [J9 m _ _ _ b,J9 m _ _ _ b];rfl
theorem pre_pre (a b:List Tok) (o:Out):(o.pre b).pre a=o.pre (a++b):=by cases o<;>simp [Out.pre]
theorem pre_nil (o:Out):o.pre []=o:=by cases o<;>rfl
theorem F1 (P:Int->Bool) (l:List UInt8):O0 P l<=l.length:=(List.takeWhile_sublist _).length_le
theorem take_spanL (P:Int->Bool) (l:List UInt8):l.take (O0 P l)=l.takeWhile fun b=>P (b.toNat:Int):=by
 unfold O0;induction l with
 |nil=>rfl
 |cons b t ih=>
  rw [List.takeWhile_cons];split
  · rw [List.length_cons,List.take_succ_cons,ih]
  · rfl
theorem Y2 (P:Int->Bool) (b:UInt8) (t:List UInt8) (h:P (b.toNat:Int)=true):0<O0 P (b::t):=by
 unfold O0;rw [List.takeWhile_cons,J_ h,List.length_cons];omega
theorem Y8: ∀(l:List UInt8) (k:Nat),A4 l=some k->k<=l.length/\2<=k
 | [],k,h=>by cases h
 | b ::t,k,h=>by
  unfold A4 at h;split at h
  · rename_i hc
    injection h with h;have:0<t.length:=List.length_pos_iff.2 hc.2.2;rw [List.length_cons];omega
  · cases hc:A4 t with
    |none=>rw [hc]at h;cases h
    |some m=>
     rw [hc]at h;have:=Y8 t m hc;simp only [Option.map_some,Option.some.injEq]at h
     rw [List.length_cons];omega
theorem runeB_le (r:List UInt8):(T4 r).2<=r.length+2:=by
 unfold T4;by_cases b:r.take 2= [39,39]
 · have a:=congrArg List.length b;rw [List.length_take]at a;simp only [List.length_cons,List.length_nil]at a
   rw [J_ b];show 4<=_
   omega
 rw [I_ b];by_cases a:r= []\/(Lib.decodeL r).1<32\/(Lib.decodeL r).1=39\/(Lib.decodeL r).1=92\/((Lib.decodeL r).1=65533/\(Lib.decodeL r).2<2)
 · rw [J_ a];exact Nat.zero_le _
 · rw [I_ a];have c:r≠ []:=fun e=>a (.inl e);have:=Lib.decodeL_le r c;show 2+_<=_
   omega
theorem pQ (l:List UInt8):(B1 l).2<=l.length:=by
 unfold B1;split
 · rename_i h
   have a:=congrArg List.length h;rw [List.length_take]at a;simp only [List.length_cons,List.length_nil]at a
   have:=runeB_le (l.drop 2);rw [List.length_drop]at this;omega
 · exact Nat.zero_le _
theorem cx (l out:List UInt8) (a:Nat): ∀o k,j3 l out a=some (o,k)->k<=a+l.length/\a<k:=by
 induction h:l.length using Nat.strongRecOn generalizing l out a with
 |_ n ih=>
  intro o k b;by_cases c:l= []
  · subst c;cases b
  · have r:0<l.length:=List.length_pos_iff.2 c;have s:=Lib.decodeL_width l;have q:=Lib.decodeL_le l c;rw [i4 l out a c]at b;by_cases d:(Lib.decodeL l).1=39
    · rw [J_ d]at b;by_cases j:l.getD 1 0=39/\1<l.length
      · rw [J_ j]at b;have:=ih _ (by rw [List.length_drop];omega) (l.drop 2) _ _ rfl o k b;rw [List.length_drop]at this;omega
      · rw [I_ j]at b;simp only [Option.some.injEq,Prod.mk.injEq]at b
        omega
    rw [I_ d]at b;by_cases g:(Lib.decodeL l).1=92
    · rw [J_ g]at b;by_cases i:(K3 (l.drop 1)).2=0
      · rw [J_ i]at b;cases b
      · rw [I_ i]at b;have p:=Mx (l.drop 1);rw [List.length_drop]at p;have:=ih _ (by rw [List.length_drop];omega) (l.drop ((K3 (l.drop 1)).2+1)) _ _ rfl o k b;rw [List.length_drop]at this;omega
    rw [I_ g]at b;by_cases m:(Lib.decodeL l).1<32\/((Lib.decodeL l).1=65533/\(Lib.decodeL l).2=1)
    · rw [J_ m]at b;cases b
    · rw [I_ m]at b;have:=ih _ (by rw [List.length_drop];omega) (l.drop (Lib.decodeL l).2) _ _ rfl o k b;rw [List.length_drop]at this;omega
theorem VJ {l:List UInt8} {t:List UInt8} {k:Nat} (h:N3 l=some (t,k)):k<=l.length/\1<k:=by
 by_cases a:l.headD 0=39
 · rw [q8 l a]at h;have:=cx _ _ _ _ _ h;cases l with
   |nil=>cases a
   |cons b t=>rw [List.drop_succ_cons,List.drop_zero]at this;rw [List.length_cons];omega
 · rw [V6 l a]at h;cases h
theorem BJ (x:Lx):(V1 x).w=x.w\/(V1 x).w=0:=by unfold V1;split;exact .inl rfl;exact .inr rfl
theorem Gq (l:List UInt8):(G0 l).w<=l.length:=by
 cases l with
 |nil=>exact R_ 0
 | cons b t=>
  have a: ∀x:Lx,x.w<=(b::t).length->(V1 x).w<=(b::t).length:=fun x hx=>by
   rcases BJ x with h|h<;>rw [h]
   · exact hx
   · exact Nat.zero_le _
  have d:1<=(b::t).length:=by rw [List.length_cons];omega
  unfold G0;dsimp only;repeat' split
  · exact d
  · exact a _ (F1 _ _)
  · exact F1 _ _
  · unfold C2;split
    · exact pQ _
    · split
      · exact F1 _ _
      · exact Nat.zero_le _
  · rename_i i
    unfold X6;split
    · rename_i k c
      have:=(Y8 _ _ c).1;rw [List.length_drop]at this;have g:=congrArg List.length i;rw [List.length_take]at g;simp only [List.length_cons,List.length_nil]at g this⊢
      omega
    · exact Nat.zero_le _
  · exact a _ (F1 _ _)
  · refine a _ ?_;unfold Q4;split
    · rename_i t2 k c
      exact(VJ c).1
    · exact Nat.zero_le _
  · exact d
  · exact F1 _ _
  · exact Nat.zero_le _
inductive F6:List UInt8->Nat->Prop
 |zero (l):F6 l 0
 |step (l) (n):l≠ []->F6 (l.drop (Lib.decodeL l).2) n->F6 l ((Lib.decodeL l).2+n)
theorem F6.next {l:List UInt8} {n:Nat} (h:F6 l n) (a:0<n):(Lib.decodeL l).2<=n/\F6 (l.drop (Lib.decodeL l).2) (n-(Lib.decodeL l).2):=by
 cases h with
 |zero=>omega
 |step _ m _ hm=>exact⟨by omega,by rw [Nat.add_sub_cancel_left];exact hm⟩
theorem F6.mk {l:List UInt8} {n:Nat} (a:l≠ []) (b:(Lib.decodeL l).2<=n) (h:F6 (l.drop (Lib.decodeL l).2) (n-(Lib.decodeL l).2)):F6 l n:=by
 have:=F6.step l _ a h;rwa [show(Lib.decodeL l).2+(n-(Lib.decodeL l).2)=n from by omega]at this
theorem Kx (l:List UInt8) (o:l≠ []) (j:Nat) (g:j<(Lib.decodeL l).2) (i:1<(Lib.decodeL l).2): ∃h:j<l.length,128<=(l[j]).toNat:=by
 have p:=Lib.decodeL_le l o;refine⟨by omega,?_⟩;have m:=Lib.decodeL_N l;have k:=Lib.decodeN_shape l.length (l.getD 0 0).toNat (l.getD 1 0).toNat (l.getD 2 0).toNat (l.getD 3 0).toNat;rw [<-m]at k;have n:l[j]'(by omega)=l.getD j 0:=by rw [List.getD,List.getElem?_eq_getElem (by omega)];rfl
 rw [n];rcases k with⟨_,e⟩|⟨a,_,b,_,e⟩|⟨a,_,b,c,_,_,e⟩|⟨a,_,b,c,d,_,_,e⟩|e
 all_goals rw [e]at g i
 · simp at i
 · have:j=0\/j=1:=by simp at g;omega
   rcases this with rfl|rfl<;>omega
 · have:j=0\/j=1\/j=2:=by simp at g;omega
   rcases this with rfl|rfl|rfl<;>omega
 · have:j=0\/j=1\/j=2\/j=3:=by simp at g;omega
   rcases this with rfl|rfl|rfl|rfl<;>omega
 · simp at i
theorem Uq: ∀(m:Nat) (l:List UInt8),l.length<=m-> ∀(n:Nat) (h:n<l.length),(l[n]).toNat<128->F6 l (n+1)
 |0,l,hm,n,h,_=>by omega
 |m+1,l,hm,n,h,hb=>by
  have a:l≠ []:=fun e=>by rw [e]at h;simp at h
  have g:=Lib.decodeL_width l;have c:=Lib.decodeL_le l a;by_cases d:(Lib.decodeL l).2<=n
  · refine F6.mk a (by omega) ?_;have hx:=Uq m (l.drop (Lib.decodeL l).2) (by rw [List.length_drop];omega) (n-(Lib.decodeL l).2) (by rw [List.length_drop];omega) (by rw [List.getElem_drop];simp only [show(Lib.decodeL l).2+(n-(Lib.decodeL l).2)=n from by omega];exact hb);rwa [show n-(Lib.decodeL l).2+1=n+1-(Lib.decodeL l).2 from by omega]at hx
  · by_cases b:1<(Lib.decodeL l).2
    · obtain⟨_,hc⟩:=Kx l a n (by omega) b;omega
    · refine F6.mk a (by omega) ?_;rw [show n+1-(Lib.decodeL l).2=0 from by omega];exact .zero _
theorem hits_ascii (l:List UInt8) (n:Nat) (h:n<l.length) (a:(l[n]).toNat<128):F6 l (n+1):=Uq _ l (R_ _) n h a
theorem jz (b:UInt8) (t:List UInt8) (h:128<=b.toNat):128<=(Lib.decodeL (b::t)).1:=by
 have d:=Lib.decodeL_N (b::t);have c:=Lib.decodeN_shape (b::t).length ((b::t).getD 0 0).toNat ((b::t).getD 1 0).toNat ((b::t).getD 2 0).toNat ((b::t).getD 3 0).toNat;rw [<-d]at c;rcases c with⟨a,e⟩|⟨_,_,_,a,e⟩|⟨_,_,_,_,a,_,e⟩|⟨_,_,_,_,_,a,_,e⟩|e
 · rw [List.getD_cons_zero]at a;omega
 all_goals (rw [e];simp only;omega)
theorem yq (P:UInt8->Bool): ∀(l:List UInt8) (d:Nat),(∀j (h:j<l.length),j<d->P l[j]=true)->d<=l.length->(l.takeWhile P).length=d+((l.drop d).takeWhile P).length
 |l,0,_,_=>by rw [List.drop_zero];omega
 | [],d+1,_,hd=>by simp at hd
 |b::t,d+1,h,hd=>by
  have a:=h 0 (by simp) (by omega);rw [List.getElem_cons_zero]at a;rw [List.takeWhile_cons,J_ a,List.length_cons,List.drop_succ_cons,yq P t d (fun j g c=>by have:=h (j+1) (by rw [List.length_cons];omega) (by omega);rwa [List.getElem_cons_succ]at this) (by rw [List.length_cons]at hd;omega)];omega
theorem tQ (P:Int->Bool) (g:Bool) (a: ∀c:Int,128<=c->P c=g) (l:List UInt8) (d:l≠ []):
 O0 P l=if P (Lib.decodeL l).1=true then(Lib.decodeL l).2+O0 P (l.drop (Lib.decodeL l).2)else 0:=by
 match l,d with
 | b ::t,d=>
  by_cases i:b.toNat<128
  · rw [Lib.decodeL_ascii b t i];dsimp only;unfold O0;rw [List.takeWhile_cons,List.drop_one,List.tail_cons];split
    · rw [List.length_cons];omega
    · rfl
  · have n:=jz b t (by omega);rw [a _ (by omega)];cases g with
    |false=>
     rw [I_ (by decide)];unfold O0;rw [List.takeWhile_cons,I_ (by rw [a _ (by omega)];decide)];rfl
    |true=>
     rw [J_ rfl];unfold O0;refine yq _ _ _ (fun j m k=>?_) (Lib.decodeL_le _ d);by_cases h:1<(Lib.decodeL (b::t)).2
     · obtain⟨_,hc⟩:=Kx _ d j k h;exact a _ (by omega)
     · have:j=0:=by omega
       subst this;exact a _ (by rw [List.getElem_cons_zero];omega)
theorem J7 (c:Int) (h:128<=c):cls c=0:=by
 unfold cls;rw [I_ (by omega),I_ (by omega),I_ (by omega),I_ (by omega),I_ (by omega),I_ (by omega),I_ (by omega),I_ (by omega)]
theorem N9 (c:Int) (h:128<=c):X2 c=false:=by unfold X2;rw [J7 c h];decide
theorem nx (c:Int) (h:128<=c):U1 c=false:=by unfold U1;rw [J7 c h];decide
theorem dX (c:Int) (h:128<=c):J3 c=false:=by unfold J3;rw [J7 c h];decide
theorem Rj (c:Int) (h:128<=c):A5 c=true:=by unfold A5;rw [decide_eq_true_eq];omega
theorem l9 (P:Int->Bool) (b:Bool) (d: ∀c:Int,128<=c->P c=b) (l:List UInt8):F6 l (O0 P l):=by
 induction e:l.length using Nat.strongRecOn generalizing l with
 |_ m ih=>
  by_cases a:l= []
  · subst a;exact .zero _
  · have h:=Lib.decodeL_width l;have g:0<l.length:=List.length_pos_iff.2 a;rw [tQ P b d l a];split
    · exact .step _ _ a (ih _ (by rw [List.length_drop];omega) _ rfl)
    · exact .zero _
theorem Gz: ∀(l:List UInt8) (k:Nat),A4 l=some k-> ∃h:k-1<l.length,l[k-1]=47
 | [],k,h=>by cases h
 | b ::t,k,h=>by
  unfold A4 at h;split at h
  · rename_i hc
    injection h with h;subst h;match t,hc with
    |c::u,hc=>exact⟨by simp,hc.2.1⟩
  · cases hc:A4 t with
    |none=>rw [hc]at h;cases h
    |some m=>
     rw [hc]at h;have d:=(Y8 t m hc).2;obtain⟨g,a⟩:=Gz t m hc;simp only [Option.map_some,Option.some.injEq]at h
     subst h;refine⟨by rw [List.length_cons];omega,?_⟩;have:(b::t)[m+1-1]'(by rw [List.length_cons];omega)=(b::t)[(m-1)+1]'(by rw [List.length_cons];omega):=by congr 1;omega
     rw [this,List.getElem_cons_succ];exact a
theorem tq: ∀(n:Nat) (l out:List UInt8) (a:Nat),l.length<=n-> ∀o k,j3 l out a=some (o,k)-> ∃h:k-a-1<l.length,l[k-a-1]=39
 |0,l,out,a,hn,o,k,c=>by rw [List.eq_nil_of_length_eq_zero (Nat.le_zero.1 hn)]at c;cases c
 | n +1,l,out,a,hn,o,k,c=>by
  by_cases m:l= []
  · subst m;cases c
  · have A:0<l.length:=List.length_pos_iff.2 m;have w:=Lib.decodeL_width l;have u:=Lib.decodeL_le l m;have go: ∀d o2,0<d->d<=l.length->j3 (l.drop d) o2 (a+d)=some (o,k)-> ∃h:k-a-1<l.length,l[k-a-1]=39:=fun d o2 z y c=>by
     have j:=cx _ _ _ _ _ c;obtain⟨s,g⟩:=tq n (l.drop d) o2 (a+d) (by rw [List.length_drop];omega) o k c;rw [List.length_drop]at s j;rw [List.getElem_drop]at g;refine⟨by omega,?_⟩;rw [<-g];congr 1;omega
    rw [i4 l out a m]at c;by_cases i:(Lib.decodeL l).1=39
    · rw [J_ i]at c;by_cases g:l.getD 1 0=39/\1<l.length
      · rw [J_ g]at c;exact go 2 _ (by omega) (by omega) c
      · rw [I_ g]at c;simp only [Option.some.injEq,Prod.mk.injEq]at c
        obtain⟨s,g⟩:=c;subst g;refine⟨by omega,?_⟩;cases l with
        |nil=>exact absurd rfl m
        |cons b t=>
         simp only [show a+1-a-1=0 from by omega,List.getElem_cons_zero]
         by_cases j:b.toNat<128
         · rw [Lib.decodeL_ascii b t j]at i;have q:b.toNat=39:=i;have:=UInt8.ofNat_toNat (x:=b);rw [q]at this;exact this.symm
         · have:=jz b t (by omega);omega
    rw [I_ i]at c;by_cases p:(Lib.decodeL l).1=92
    · rw [J_ p]at c;by_cases r:(K3 (l.drop 1)).2=0
      · rw [J_ r]at c;cases c
      · rw [I_ r]at c;have v:=Mx (l.drop 1);rw [List.length_drop]at v;exact go ((K3 (l.drop 1)).2+1) _ (by omega) (by omega) (by rw [<-Nat.add_assoc];exact c)
    rw [I_ p]at c;by_cases j:(Lib.decodeL l).1<32\/((Lib.decodeL l).1=65533/\(Lib.decodeL l).2=1)
    · rw [J_ j]at c;cases c
    · rw [I_ j]at c;exact go _ _ w u c
theorem TJ (l out:List UInt8) (a:Nat) (o k) (h:j3 l out a=some (o,k)): ∃h:k-a-1<l.length,l[k-a-1]=39:=tq _ l out a (R_ _) o k h
theorem readL_last {l t:List UInt8} {k:Nat} (h:N3 l=some (t,k)): ∃h:k-1<l.length,l[k-1]=39:=by
 by_cases a:l.headD 0=39
 · rw [q8 l a]at h;have d:=cx _ _ _ _ _ h;obtain⟨c,b⟩:=TJ _ _ _ _ _ h;rw [List.length_drop]at c;rw [List.getElem_drop]at b;refine⟨by omega,?_⟩;rw [<-b];congr 1;omega
 · rw [V6 l a]at h;cases h
theorem hits_at {l:List UInt8} {k:Nat} {b:UInt8} (g:0<k) (d:b.toNat<128) (h: ∃h:k-1<l.length,l[k-1]=b):F6 l k:=by
 obtain⟨a,c⟩:=h;have:=hits_ascii l (k-1) a (by rw [c];exact d);rwa [show k-1+1=k from by omega]at this
theorem hits_rune (l:List UInt8) (h:l≠ []):F6 l (Lib.decodeL l).2:=F6.mk h (R_ _) (by rw [Nat.sub_self];exact .zero _)
theorem R3 (b:UInt8) (t:List UInt8) (a:b.toNat<128) (n:Nat) (h:F6 t n):F6 (b::t) (n+1):=by
 refine F6.mk (by simp) ?_ ?_
 · rw [Lib.decodeL_ascii b t a];simp only;omega
 · rw [Lib.decodeL_ascii b t a];exact h
theorem FZ (l:List UInt8) (h:0<(B1 l).2):F6 l (B1 l).2:=by
 unfold B1 at h⊢;by_cases g:l.take 2= [48,39]
 · rw [J_ g]at h⊢;match l,g with
   | [a],g=>simp at g
   | a ::b::r,g=>
    simp only [List.take_succ_cons,List.take_zero,List.cons.injEq,and_true]at g
    obtain⟨rfl,rfl⟩:=g;rw [List.drop_succ_cons,List.drop_succ_cons,List.drop_zero]at h⊢;unfold T4 at h⊢;by_cases i:r.take 2= [39,39]
    · rw [J_ i];match r,i with
      | [c],i=>simp at i
      |c::d::u,i=>
       simp only [List.take_succ_cons,List.take_zero,List.cons.injEq,and_true]at i
       obtain⟨rfl,rfl⟩:=i;exact R3 _ _ (by decide) _ (R3 _ _ (by decide) _ (R3 _ _ (by decide) _ (R3 _ _ (by decide) _ (.zero _))))
    · rw [I_ i]at h⊢;by_cases j:r= []\/(Lib.decodeL r).1<32\/(Lib.decodeL r).1=39\/(Lib.decodeL r).1=92\/((Lib.decodeL r).1=65533/\(Lib.decodeL r).2<2)
      · rw [J_ j]at h;exact absurd h (by decide)
      · rw [I_ j];have k:r≠ []:=fun e=>j (.inl e);show F6 _ (2+(Lib.decodeL r).2)
        rw [show 2+(Lib.decodeL r).2=(Lib.decodeL r).2+1+1 from by omega];exact R3 _ _ (by decide) _ (R3 _ _ (by decide) _ (hits_rune r k))
 · rw [I_ g]at h;exact absurd h (by decide)
theorem hits_lex (l:List UInt8):F6 l (G0 l).w:=by
 cases l with
 |nil=>exact .zero _
 | cons b t=>
  have g: ∀x:Lx,F6 (b::t) x.w->F6 (b::t) (V1 x).w:=fun x hx=>by
   rcases BJ x with h|h<;>rw [h]
   · exact hx
   · exact .zero _
  have i:b.toNat<128->F6 (b::t) 1:=fun d=>R3 _ _ d _ (.zero _);have d: ∀k:Int,k≠0->cls (b.toNat:Int)=k->b.toNat<128:=fun k a h=>by
   apply Classical.byContradiction
   intro hc;rw [J7 _ (by omega)]at h;exact a h.symm
  unfold G0;dsimp only;repeat' split
  · exact i (d 5 (by decide) (by assumption))
  · exact g _ (l9 _ _ N9 _)
  · exact l9 _ _ N9 _
  · unfold C2;split
    · exact FZ _ (by assumption)
    · split
      · exact l9 _ _ dX _
      · exact .zero _
  · rename_i o
    unfold X6;split
    · rename_i k a
      obtain⟨m,j⟩:=Gz _ _ a;have n:=Y8 _ _ a;rw [List.getElem_drop]at j;rw [List.length_drop]at m n;refine hits_at (b:=47) (by show 0<k+2;omega) (by decide) ⟨by show k+2-1<_;omega,?_⟩;rw [<-j];show(b::t)[k+2-1]'_=_
      congr 1;omega
    · exact .zero _
  · exact g _ (l9 _ _ nx _)
  · refine g _ ?_;unfold Q4;split
    · rename_i t2 k a
      exact hits_at (show 0<k by have:=(VJ a).2;omega) (by decide) (readL_last a)
    · exact .zero _
  · rename_i c
    rcases c with c|c
    · exact i (d 6 (by decide) c)
    · exact i (d 7 (by decide) c)
  · exact l9 _ _ Rj _
  · exact .zero _
def Tok.sh (d:Nat) (t:Tok):Tok:=⟨t.kind,t.text,t.n,t.pos+d⟩
def Out.sh (d:Nat):Out->Out
 | .bad o=>.bad (o+d)
 | .good l=>.good (l.map (Tok.sh d))
theorem pre_good {ts:List Tok} {o:Out} {T:List Tok} (h:o.pre ts=.good T): ∃U,o=.good U/\T=ts++U:=by
 cases o with
 |bad o=>cases h
 |good U=>injection h with h;exact⟨U,rfl,h.symm⟩
theorem cut_cases {l:List UInt8} {o:Nat} {t:Bool} {T:List Tok} (h:C5 l o t=.good T):
 (l= []/\T= [⟨9,[],0,o⟩])\/(l≠ []/\(G0 l).w≠0/\(G0 l).kind=0/\C5 (l.drop (G0 l).w) (o+(G0 l).w) false=.good T)\/
 (l≠ []/\(G0 l).w≠0/\(G0 l).kind≠0/\ ∃U,C5 (l.drop (G0 l).w) (o+(G0 l).w) (V3 (A3 t (G0 l)) (G0 l).text)=.good U/\T=⟨A3 t (G0 l),(G0 l).text,(G0 l).n,o⟩::U):=by
 by_cases b:l= []
 · subst b;rw [Aj]at h;injection h with h;exact .inl ⟨rfl,h.symm⟩
 · rw [Z8 l o t b]at h;by_cases c:(G0 l).w=0
   · rw [J_ c]at h;cases h
   · rw [I_ c]at h;by_cases a:(G0 l).kind=0
     · rw [J_ a]at h;exact .inr (.inl ⟨b,c,a,h⟩)
     · rw [I_ a]at h;obtain⟨U,d,g⟩:=pre_good h;exact .inr (.inr ⟨b,c,a,U,d,g⟩)
theorem cut_ind {P:List UInt8->Nat->Bool->List Tok->Prop}
 (nil: ∀o t,P [] o t [⟨9,[],0,o⟩])
 (skip: ∀l o t T,l≠ []->(G0 l).w≠0->(G0 l).kind=0->C5 (l.drop (G0 l).w) (o+(G0 l).w) false=.good T->P (l.drop (G0 l).w) (o+(G0 l).w) false T->P l o t T)
 (tok: ∀l o t U,l≠ []->(G0 l).w≠0->(G0 l).kind≠0->C5 (l.drop (G0 l).w) (o+(G0 l).w) (V3 (A3 t (G0 l)) (G0 l).text)=.good U->P (l.drop (G0 l).w) (o+(G0 l).w) (V3 (A3 t (G0 l)) (G0 l).text) U->
   P l o t (⟨A3 t (G0 l),(G0 l).text,(G0 l).n,o⟩::U))
 (l:List UInt8): ∀(o:Nat) (t:Bool) (T:List Tok),C5 l o t=.good T->P l o t T:=by
 induction e:l.length using Nat.strongRecOn generalizing l with
 |_ n ih=>
  intro o t T h;rcases cut_cases h with⟨rfl,rfl⟩|⟨b,d,c,a⟩|⟨b,d,c,U,a,rfl⟩
  · exact nil o t
  · have g:0<l.length:=List.length_pos_iff.2 b;exact skip l o t T b d c a (ih _ (by rw [List.length_drop];omega) _ rfl _ _ _ a)
  · have g:0<l.length:=List.length_pos_iff.2 b;exact tok l o t U b d c a (ih _ (by rw [List.length_drop];omega) _ rfl _ _ _ a)
def Alike (x y:Tok):Prop:=x=y\/(y.kind=7/\x.kind=6/\x.text=y.text/\x.n=y.n/\x.pos=y.pos)
def Own (l:List UInt8) (o:Nat) (x:Tok):Prop:=x.kind=2\/x.kind=5\/x.kind=9\/(x.text≠ []/\x.pos+x.text.length<=o+l.length/\(l.drop (x.pos-o)).take x.text.length=x.text)
theorem Bj {l:List UInt8} {o:Nat} {t:Bool} {T:List Tok} (h:C5 l o t=.good T):T.length<=l.length+1:=by
 have a:=Gq;revert h
 refine cut_ind (P:=fun l _ _ T=>T.length<=l.length+1) ?_ ?_ ?_ l o t T
 · intro o t;simp
 · intro l o t T b c _ _ h;rw [List.length_drop]at h;omega
 · intro l o t U b c _ _ h;have:=a l;rw [List.length_drop]at h;rw [List.length_cons];omega
def Pos (k n n' b c:Nat):Prop:=k<n/\b/64=2/\k<n'/\c=b
def Neg (k n n' b c:Nat):Prop:= ¬(k<n/\b/64=2)/\ ¬(k<n'/\c/64=2)
def aheadL:Nat->List UInt8
 |0=> [32]
 |1=> [10]
 |2=> [37,32,120,32,46,32,39,32,121,10]
 |3=> [47,42,32,97,10,32,39,42,47]
 |_=> [47,42,42,47,9]
end Go.Proofs.YtinefdlkajnomaaGreatDoor
