import Derived.Test.YtinefdlkajnomaaGreatDoorMTokAH
namespace Go.Proofs.YtinefdlkajnomaaGreatDoor
open Go.RowKit
set_option maxHeartbeats 20000000
def cl1 (l:List UInt8):Int:=match l with| []=>0|b::_=>cls (b.toNat:Int)
theorem U3 (s:ByteArray) (p:Nat) (h:p<s.size):cl1 (s.data.toList.drop p)=cls (s[p].toNat:Int):=by
 have a:p<s.data.toList.length:=by rw [C0];exact h
 rw [List.drop_eq_getElem_cons a];rfl
theorem cl1_end (s:ByteArray) (p:Nat) (h:s.size<=p):cl1 (s.data.toList.drop p)=0:=by
 rw [List.drop_eq_nil_of_le (by rw [C0];exact h)];rfl
set_option maxRecDepth 100000 in
theorem K1 (s:ByteArray) (p:Nat) (w:World) (j:p<=300000):
 Calls Tryz.prog 95 #[.string s,.int .i64 (p:Nat)] w fun e w'=>e=.returned (.int .i64 (cl1 (s.data.toList.drop p)))/\w=w':=by
 by_cases h:p<s.size
 · rw [U3 s p h];have i:(s[p].toNat:Int)<256:=by have:=s[p].toNat_lt;omega
   have d:(0:Int)<=(p:Int):=by omega
   have g:(p:Int)<(s.size:Int):=by omega
   by_cases a:s[p].toNat<=127
   · have c:(s[p].toNat:Int)<=127:=by omega
     clear a;have b:=D_ (ref_Class (s[p].toNat:Int) w);generalize cls (s[p].toNat:Int)=q at*;go_enter Tryz.func95,Tryz.ntmps95;go_wp2_with fail;refine b.out.mono ?_;rintro e w1 ⟨rfl,rfl⟩;go_wp2_with fail;go_ret;exact⟨rfl,rfl⟩
   · have c:(127:Int)<(s[p].toNat:Int):=by omega
     rw [J7 _ (by omega)];clear a;go_enter Tryz.func95,Tryz.ntmps95;go_wp2_with fail;go_ret;exact⟨rfl,rfl⟩
 · rw [cl1_end s p (by omega)];go_enter Tryz.func95,Tryz.ntmps95;go_wp2_with fail;go_ret;exact⟨rfl,rfl⟩
def Ks (w:World) (g:Nat) (ks:List Int):Prop:= ∀i (h:i<ks.length),w.cell? ⟨g,i,none⟩=some (.int .i64 ks[i])
def O6 (ks:List Int) (c:Int):Bool:=ks.any fun k=>cls c==k
theorem any_step (ks:List Int) (i:Nat) (h:i<ks.length) (f:Int->Bool):(ks.take (i+1)).any f=((ks.take i).any f||f ks[i]):=by
 rw [U_ h,List.any_append];simp
set_option maxRecDepth 100000 in
theorem R4 (s:ByteArray) (p:Nat) (ks:List Int) (g:Nat) (w:World) (N:s.size<=200000) (D:p<=s.size) (z:Ks w g ks) (H:ks.length<=10) (y:ks.any (fun k=>(0:Int)==k)=false):
 Calls Tryz.prog 97 #[.string s,.int .i64 (p:Nat),.slice (some ⟨g,0,none⟩) ks.length ks.length] w fun e w'=>e=.returned (.int .i64 (p+O0 (O6 ks) (s.data.toList.drop p):Nat))/\w=w':=by
 have C:=D_ z;have I:=D_ y;obtain⟨E,x⟩: ∃E:Nat,p+O0 (O6 ks) (s.data.toList.drop p)=E:=⟨_,rfl⟩;rw [x];have B:=D_ x;clear z y x;go_enter Tryz.func97,Tryz.ntmps97;go_wp2_with fail;go_loop [1] (fun av=> ∃a:Nat,a<=s.size/\av=.int .i64 (a:Nat)/\Hid (a+O0 (O6 ks) (s.data.toList.drop a)=E)) (fun av=>s.size-(intOf av).toNat)
 case atStart=>exact⟨p,D,rfl,B⟩
 case round=>
  obtain⟨a,J,rfl,m⟩:=hrel;by_cases t:a<s.size
  · have o:=U3 s a t;have j:s.data.toList.drop a=s[a]::s.data.toList.drop (a+1):=by
     rw [List.drop_eq_getElem_cons (by rw [C0];exact t)];rfl
    have d:O0 (O6 ks) (s.data.toList.drop a)=if O6 ks (s[a].toNat:Int)=true then 1+O0 (O6 ks) (s.data.toList.drop (a+1))else 0:=by
     rw [j];unfold O0;rw [List.takeWhile_cons];split
     · rw [List.length_cons];omega
     · rfl
    have v:=fun W=>K1 s a W (by omega);rw [o]at v;have b:=m.out;rw [d]at b;have n:O6 ks (s[a].toNat:Int)=ks.any fun k=>cls (s[a].toNat:Int)==k:=rfl;rw [n]at b;generalize cls (s[a].toNat:Int)=q at*;have A:=D_ v;have u:=D_ b;clear v o j d b n m;go_wp2_with fail;go_loop [7,16] (fun bv iv=> ∃i:Nat,i<=ks.length/\iv=.int .i64 (i:Nat)/\bv=.bool ((ks.take i).any fun k=>q==k)) (fun _ iv=>ks.length-(intOf iv).toNat)
    case atStart=>exact⟨0,Nat.zero_le _,rfl,rfl⟩
    case round=>
     obtain⟨i,M,rfl,rfl⟩:=hrel;by_cases r:i<ks.length
     · have c0:=C.out i r;have d:=any_step ks i r (fun k=>q==k);have F:(0:Int)<=(i:Int):=by omega
       have G:(i:Int)<(ks.length:Int):=by omega
       generalize ks[i]=kk at*;have h:=D_ d;clear d;cases c:((ks.take i).any fun k=>q==k)with
       |true=>
        rw [c]at h;clear c;go_wp2_with fail;go_round
        case rel=>exact⟨i+1,by omega,by go_num,by rw [h.out];rfl⟩
        case measure=>simp [intOf];omega
       |false=>
        rw [c]at h;clear c;go_wp2_with fail;refine(A.out _).mono ?_;rintro e w' ⟨rfl,rfl⟩;go_wp2_with fail;go_round
        case rel=>exact⟨i+1,by omega,by go_num,by rw [h.out];rfl⟩
        case measure=>simp [intOf];omega
     · have b:=u.out;rw [List.take_of_length_le (by omega)];cases c:(ks.any fun k=>q==k)with
       |true=>
        rw [c,J_ rfl]at b;have l:Hid ((a+1:Nat)+O0 (O6 ks) (s.data.toList.drop (a+1))=E):=D_ (by omega);clear b c u;go_wp2_with fail;go_round
        case rel=>exact⟨a+1,by omega,by go_num,l⟩
        case measure=>simp [intOf];omega
       |false=>
        rw [c,I_ (by decide)]at b;have l:Hid (E=a):=D_ (by omega);clear b c u;go_wp2_with fail;go_ret;exact⟨E6 (by rw [l.out]),rfl⟩
  · have b:=m.out;rw [List.drop_eq_nil_of_le (by rw [C0];omega)]at b;have l:Hid (E=a):=D_ b.symm;clear b m;go_wp2_with fail;go_ret;exact⟨E6 (by rw [l.out]),rfl⟩
def V2 (k:Int) (n:Nat):Bool:=decide (255<n)&&(k==1||k==3)
set_option maxRecDepth 100000 in
theorem l6 (s:ByteArray) (p:Nat) (k:Int) (e:Nat) (w:World) (q:s.size<=200000) (n:p<=e) (m:e<=s.size):
 Calls Tryz.prog 96 #[.string s,.int .i64 (p:Nat),.int .i64 k,.int .i64 (e:Nat)] w fun e' w'=>
  e'=.returned (.tuple #[.agg #[.int .i64 k,.string (s.extract p e),.int .i64 0,.int .i64 (p:Nat)],.int .i64 (e:Nat),.bool (!V2 k (e-p))])/\Below w.heap.size w w':=by
 have c:=D_ (fun o:Obj=>(F_ w.heap.size w).alloc (R_ _) o);obtain⟨E,a⟩: ∃E,V2 k (e-p)=E:=⟨_,rfl⟩;rw [a];unfold V2 at a;have h:(0:Int)<=(p:Int):=by omega
 have i:(p:Int)<=(e:Int):=by omega
 have j:(e:Int)<=(s.size:Int):=by omega
 have l:(s.size:Int)<=200000:=by omega
 have hx:(s.extract p e)=s.extract (p:Int).toNat (e:Int).toNat:=rfl;by_cases b:255<e-p
 · rw [decide_eq_true b,Bool.true_and]at a;have d:(255:Int)<(e:Int)-(p:Int):=by omega
   have g:(k==1)=true/\E=true\/(k==1)=false/\(k==3)=true/\E=true\/(k==1)=false/\(k==3)=false/\E=false:=by
    cases k1:k==1 with
    |true=>rw [k1]at a;exact .inl ⟨rfl,a.symm⟩
    |false=>
     rw [k1]at a;cases k3:k==3 with
     |true=>rw [k3]at a;exact .inr (.inl ⟨rfl,rfl,a.symm⟩)
     |false=>rw [k3]at a;exact .inr (.inr ⟨rfl,rfl,a.symm⟩)
   clear a b hx;rcases g with⟨k1,rfl⟩|⟨k1,k3,rfl⟩|⟨k1,k3,rfl⟩
   all_goals
    go_enter Tryz.func96,Tryz.ntmps96;go_wp2_with fail;refine B_ (v:=.tuple #[.agg #[.int .i64 k,.string (s.extract p e),.int .i64 0,.int .i64 (p:Nat)],.int .i64 (e:Nat),.bool _]) (by simp [results,Tryz.results96,go_sem]) rfl ⟨rfl,c.out _⟩
 · rw [decide_eq_false b,Bool.false_and]at a;have d:(e:Int)-(p:Int)<=255:=by omega
   subst a;clear b hx;go_enter Tryz.func96,Tryz.ntmps96;go_wp2_with fail;refine B_ (v:=.tuple #[.agg #[.int .i64 k,.string (s.extract p e),.int .i64 0,.int .i64 (p:Nat)],.int .i64 (e:Nat),.bool _]) (by simp [results,Tryz.results96,go_sem]) rfl ⟨rfl,c.out _⟩
theorem ref_glues (k n p:Int) (t:List UInt8) (w:World):
 Calls Tryz.prog 83 #[.agg #[.int .i64 k,.string ⟨t.toArray⟩,.int .i64 n,.int .i64 p]] w fun e w'=>e=.returned (.bool (V3 k t))/\Below w.heap.size w w':=by
 have c:=D_ (fun o:Obj=>(F_ w.heap.size w).alloc (R_ _) o);obtain⟨E,a⟩: ∃E,V3 k t=E:=⟨_,rfl⟩;rw [a];unfold V3 at a;have f1:((⟨t.toArray⟩:ByteArray).toList== [93])=decide (t= [93]):=by rw [ByteArray.toList_eq,Bool.eq_iff_iff];simp
 have f2:((⟨t.toArray⟩:ByteArray).toList== [125])=decide (t= [125]):=by rw [ByteArray.toList_eq,Bool.eq_iff_iff];simp
 generalize (⟨t.toArray⟩:ByteArray)=u at*;generalize decide (t= [93])=b1 at*;generalize decide (t= [125])=b2 at*;have d:k=1\/k=2\/k=3\/k=6\/((k==1)=false/\(k==2)=false/\(k==3)=false/\(k==6)=false):=by
  simp only [beq_eq_false_iff_ne];omega
 rcases d with rfl|rfl|rfl|rfl|⟨e1,e2,e3,e4⟩
 iterate 3
  · have b:Hid (E=true):=D_ (by rw [<-a];rfl);clear a;go_enter Tryz.func83,Tryz.ntmps83;go_wp2_with fail;go_ret;exact⟨N4 b.out.symm,c.out _⟩
 · have b:Hid (E=(b1||b2)):=D_ (by rw [<-a];rfl);clear a;cases b1
   all_goals
    go_enter Tryz.func83,Tryz.ntmps83;go_wp2_with fail;go_ret;exact⟨N4 (by rw [b.out];first|rfl|(cases b2<;>rfl)),c.out _⟩
 · have b:Hid (E=false):=D_ (by
    rw [<-a];simp only [beq_eq_false_iff_ne]at e1 e2 e3 e4
    rw [decide_eq_false e1,decide_eq_false e2,decide_eq_false e3,decide_eq_false e4];rfl)
   clear a;go_enter Tryz.func83,Tryz.ntmps83;go_wp2_with fail;go_ret;exact⟨N4 b.out.symm,c.out _⟩
def bj (l:List UInt8):Prop:= ∃b t,l=b::t/\cls (b.toNat:Int)≠5/\b≠37/\l.take 2≠ [47,42]
def G9 (S:List UInt8) (p a:Nat):Prop:= ∀t,C5 (S.drop p) p t=C5 (S.drop a) a (if a=p then t else false)
theorem G9.start (S:List UInt8) (p:Nat):G9 S p p:=fun t=>by rw [J_ rfl]
theorem G9.step {S:List UInt8} {p a n:Nat} (h:G9 S p a) (j:p<=a) (i:a<S.length) (c:(G0 (S.drop a)).kind=0) (g:(G0 (S.drop a)).w=n) (d:n≠0):G9 S p (a+n):=fun t=>by
 have b:S.drop a≠ []:=fun e=>by
  have:=congrArg List.length e;rw [List.length_drop,List.length_nil]at this;omega
 rw [h t,Z8 _ _ _ b,g,I_ d,J_ c,List.drop_drop,I_ (show a+n≠p by omega)]
def Cq (S:List UInt8) (p f:Nat) (ok:Bool):Prop:=p<=f/\f<=S.length/\G9 S p f/\(ok=true->f=S.length\/bj (S.drop f))/\(ok=false->f<S.length/\(G0 (S.drop f)).w=0)
theorem lex_line37 (t:List UInt8):G0 (37::t)=⟨0,[],0,O0 A5 (37::t)⟩:=by
 unfold G0;dsimp only;rw [show cls ((37:UInt8).toNat:Int)=0 from by decide,I_ (by decide),I_ (by decide),I_ (by decide),I_ (by decide),I_ (by decide),I_ (by decide),I_ (by decide),J_ rfl]
theorem lex_remark (t:List UInt8):G0 (47::42::t)=X6 (47::42::t):=by
 unfold G0;dsimp only;rw [show cls ((47:UInt8).toNat:Int)=4 from by decide,I_ (by decide),I_ (by decide),I_ (by decide),I_ (by decide),J_ rfl,J_ (show(47::42::t).take 2= [47,42]from rfl)]
theorem Q0 (s:ByteArray) (a:Nat) (h:a<s.size):s.data.toList.drop a=s[a]::s.data.toList.drop (a+1):=by
 rw [List.drop_eq_getElem_cons (by rw [C0];exact h)];rfl
theorem E1 (b c:UInt8):((b.toNat:Int)==(c.toNat:Int))=decide (b=c):=by
 rw [Bool.eq_iff_iff];simp only [beq_iff_eq,decide_eq_true_eq]
 constructor
 · intro h;apply UInt8.toNat_inj.1;omega
 · rintro rfl;rfl
theorem kX (s:ByteArray) (q:Nat) (h:q<s.size):O0 A5 (s.data.toList.drop q)=if s[q]=10 then 0 else 1+O0 A5 (s.data.toList.drop (q+1)):=by
 rw [Q0 s q h];unfold O0;rw [List.takeWhile_cons];have e:A5 (s[q].toNat:Int)=!decide (s[q]=10):=by
  have:=E1 s[q] 10;unfold A5;rw [Bool.eq_iff_iff];simp only [decide_eq_true_eq,Bool.not_eq_true',decide_eq_false_iff_not]
  have b:((s[q].toNat:Int)=10)↔s[q]=10:=by
   rw [Bool.eq_iff_iff]at this;simpa using this
  rw [<-b]
 rw [e];by_cases a:s[q]=10
 · rw [decide_eq_true a,I_ (by decide),J_ a];rfl
 · rw [decide_eq_false a,J_ (by decide),I_ a,List.length_cons];omega
def Qq (s:ByteArray) (a e:Nat):Prop:=A4 (s.data.toList.drop (a+2))=(A4 (s.data.toList.drop e)).map (· +(e-(a+2)))
theorem wj (s:ByteArray) (e:Nat) (h:e+1<s.size):A4 (s.data.toList.drop e)=if s[e]=42/\s[e+1]=47 then some 2 else(A4 (s.data.toList.drop (e+1))).map (· +1):=by
 have e1:=Q0 s e (by omega);have e2:=Q0 s (e+1) h;rw [e1];conv=>lhs;unfold A4
 rw [e2];by_cases hc:s[e]=42/\s[e+1]=47
 · rw [J_ hc,J_ ⟨hc.1,hc.2,by simp⟩]
 · rw [I_ hc,I_ (fun a=>hc ⟨a.1,a.2.1⟩)]
theorem aJ (l:List UInt8) (h:l.length<=1):A4 l=none:=by
 match l,h with
 | [],_=>rfl
 | [b],_=>unfold A4;rw [I_ (by simp)];rfl
theorem Qq.start (s:ByteArray) (a:Nat):Qq s a (a+2):=by
 unfold Qq;rw [Nat.sub_self];cases A4 (s.data.toList.drop (a+2))<;>rfl
theorem Qq.next {s:ByteArray} {a e:Nat} (h:Qq s a e) (d:a+2<=e) (b:e+1<s.size) (c: ¬(s[e]=42/\s[e+1]=47)):Qq s a (e+1):=by
 unfold Qq at*;rw [h,wj s e b,I_ c];cases A4 (s.data.toList.drop (e+1))with
 |none=>rfl
 |some m=>show some _=some _;congr 1;show m+1+(e-(a+2))=m+(e+1-(a+2));omega
theorem Qq.found {s:ByteArray} {a e:Nat} (h:Qq s a e) (d:a+2<=e) (b:e+1<s.size) (c:s[e]=42/\s[e+1]=47):A4 (s.data.toList.drop (a+2))=some (e-a):=by
 unfold Qq at h;rw [h,wj s e b,J_ c];show some _=some _;congr 1;show 2+(e-(a+2))=e-a;omega
theorem Qq.none {s:ByteArray} {a e:Nat} (h:Qq s a e) (b:s.size<=e+1):A4 (s.data.toList.drop (a+2))=none:=by
 unfold Qq at h;rw [h,aJ _ (by rw [List.length_drop,C0];omega)];rfl
def SkipAns (S:List UInt8) (p:Nat) (e:Ending):Prop:= ∃(f:Nat) (ok:Bool),e=.returned (.tuple #[.int .i64 (f:Nat),.bool ok])/\Cq S p f ok
theorem MQ (s:ByteArray) (a:Nat) (h:a+1<s.size) (b:s[a]=47) (c:s[a+1]=42):G0 (s.data.toList.drop a)=match A4 (s.data.toList.drop (a+2))with|some k=>⟨0,[],0,k+2⟩|none=>lx0:=by
 have e1:=Q0 s a (by omega);have e2:=Q0 s (a+1) h;rw [e1,e2,b,c,lex_remark];unfold X6;rfl
theorem pq (s:ByteArray) (a:Nat) (h:a<s.size) (g:cls (s[a].toNat:Int)≠5) (c:s[a]≠37) (d: ∀b:a+1<s.size,¬(s[a]=47/\s[a+1]=42)):bj (s.data.toList.drop a):=by
 refine⟨s[a],_,Q0 s a h,g,c,fun e=>?_⟩;rw [Q0 s a h]at e;by_cases b:a+1<s.size
 · rw [Q0 s (a+1) b,List.take_succ_cons,List.take_succ_cons,List.take_zero]at e;injection e with e1 e2;injection e2 with e2 _;exact d b ⟨e1,e2⟩
 · rw [List.drop_eq_nil_of_le (by rw [C0];omega)]at e;simp at e
set_option maxRecDepth 100000 in
theorem ref_skip (s:ByteArray) (p:Nat) (w:World) (hs:s.size<=200000) (hp:p<=s.size):
 Calls Tryz.prog 82 #[.string s,.int .i64 (p:Nat)] w fun e w'=>SkipAns s.data.toList p e/\w=w':=by
 go_enter Tryz.func82,Tryz.ntmps82;go_wp2_with fail;go_loop [1] (fun av=> ∃a:Nat,p<=a/\a<=s.size/\av=.int .i64 (a:Nat)/\Hid (G9 s.data.toList p a)) (fun av=>s.size-(intOf av).toNat)
 case atStart=>exact⟨p,R_ _,hp,rfl,D_ (G9.start _ _)⟩
 case round =>
  obtain⟨a,i,ha,rfl,m⟩:=hrel;by_cases l:a<s.size
  · have H := fun W=>K1 s a W (by omega);rw [U3 s a l]at H;have g:=Q0 s a l;have D:((s[a].toNat:Int)==37)=decide (s[a]=37):=E1 s[a] 37;have x:((s[a].toNat:Int)==47)=decide (s[a]=47):=E1 s[a] 47;have G:a<s.data.toList.length:=by rw [C0];exact l
    have c_:(0:Int)<=(a:Int):=by omega
    have d_:(a:Int)<(s.size:Int):=by omega
    by_cases j:cls (s[a].toNat:Int)=5
    · rw [j]at H;have b:G0 (s.data.toList.drop a)=⟨0,[],0,1⟩:=by rw [g];exact Qj _ _ j
      have J:=D_ (m.out.step i G (by rw [b]) (by rw [b]) (by decide:(1:Nat)≠0));have C:=D_ H;clear H g D x b j m;go_wp2_with fail;refine(C.out _).mono ?_;rintro e w' ⟨rfl,rfl⟩;go_wp2_with fail;go_round
      case rel=>exact⟨a+1,by omega,by omega,by go_num,J⟩
      case measure=>simp [intOf];omega
    · have e5 : (cls (s[a].toNat:Int)==5)=false:=by simpa using j
      generalize hq:cls (s[a].toNat:Int)=q at*;have HQ:=D_ hq;have C:=D_ H;clear H hq;by_cases c:s[a]=37
      · rw [decide_eq_true c]at D;have b:G0 (s.data.toList.drop a)=⟨0,[],0,O0 A5 (s.data.toList.drop a)⟩:=by
         rw [g,c];exact lex_line37 _
        have R:O0 A5 (s.data.toList.drop a)≠0:=by
         rw [kX s a l,c,I_ (by decide)];omega
        have X:=F1 A5 (s.data.toList.drop a);rw [List.length_drop,C0]at X;have J:=D_ (m.out.step i G (by rw [b]) (by rw [b]) R);obtain⟨F,hF⟩: ∃F,a+O0 A5 (s.data.toList.drop a)=F:=⟨_,rfl⟩;rw [hF]at J;have k:=D_ hF;have U:a<F/\F<=s.size:=by omega
        obtain⟨U,V⟩:=U;clear g x b m c R X hF j;go_wp2_with fail;refine(C.out _).mono ?_;rintro e w' ⟨rfl,rfl⟩;go_wp2_with fail;go_loop [1] (fun qv=> ∃r:Nat,a<=r/\r<=s.size/\qv=.int .i64 (r:Nat)/\Hid (r+O0 A5 (s.data.toList.drop r)=F)) (fun qv=>s.size-(intOf qv).toNat)
        case atStart=>exact⟨a,R_ _,by omega,rfl,k⟩
        case round=>
         obtain⟨r,f_,g_,rfl,T⟩:=hrel;by_cases hr:r<s.size
         · have u:=kX s r hr;have v:((s[r].toNat:Int)==10)=decide (s[r]=10):=E1 s[r] 10;have h_:(0:Int)<=(r:Int):=by omega
           have i_:(r:Int)<(s.size:Int):=by omega
           by_cases o:s[r]=10
           · rw [decide_eq_true o]at v;have a_:((s[r].toNat:Int) !=10)=false:=by rw [bne,v];rfl
             rw [J_ o]at u;have A:Hid (r=F):=D_ (by have:=T.out;rw [u]at this;omega);clear u o;go_wp2_with fail;go_round
             case rel=>exact⟨F,by omega,V,by rw [A.out],J⟩
             case measure=>have:=A.out;simp [intOf];omega
           · rw [decide_eq_false o]at v;have a_:((s[r].toNat:Int) !=10)=true:=by rw [bne,v];rfl
             rw [I_ o]at u;have b_:Hid (r+1+O0 A5 (s.data.toList.drop (r+1))=F):=D_ (by have:=T.out;rw [u]at this;omega);clear u o T;go_wp2_with fail;go_round
             case rel=>exact⟨r+1,by omega,by omega,by go_num,b_⟩
             case measure=>simp [intOf];omega
         · have A:Hid (r=F):=D_ (by
            have:=T.out;rw [List.drop_eq_nil_of_le (by rw [C0];omega)]at this;exact this)
           go_wp2_with fail;go_round
           case rel=>exact⟨F,by omega,V,by rw [A.out],J⟩
           case measure=>have:=A.out;simp [intOf];omega
      · rw [decide_eq_false c]at D;by_cases d:s[a]=47
        · rw [decide_eq_true d]at x;by_cases Y:a+1<s.size
          · have N : ((s[a+1].toNat:Int)==42)=decide (s[a+1]=42):=E1 s[a+1] 42;have e_:(a:Int)+1<(s.size:Int):=by omega
            by_cases t:s[a+1]=42
            · rw [decide_eq_true t]at N;have I:=D_ (MQ s a Y d t);clear g j c d t;go_wp2_with fail;refine(C.out _).mono ?_;rintro e w' ⟨rfl,rfl⟩;go_wp2_with fail;go_loop [6] (fun ev=> ∃z:Nat,a+2<=z/\z<=s.size/\ev=.int .i64 (z:Nat)/\Hid (Qq s a z)) (fun ev=>s.size-(intOf ev).toNat)
              case atStart=>exact⟨a+2,R_ _,by omega,by go_num,D_ (Qq.start s a)⟩
              case round=>
               obtain⟨z,Z,j_,rfl,HZ⟩:=hrel;by_cases hz:z+1<s.size
               · have k_:(0:Int)<=(z:Int):=by omega
                 have l_:(z:Int)+1<(s.size:Int):=by omega
                 have m_:(z:Int)<(s.size:Int):=by omega
                 have O:((s[z].toNat:Int)==42)=decide (s[z]=42):=E1 s[z] 42;have E:((s[z+1].toNat:Int)==47)=decide (s[z+1]=47):=E1 s[z+1] 47;have y:s[z]=42->s[z+1]=47->Hid (G9 s.data.toList p (z+2)):=fun y1 y2=>D_ (by
                  have h3:=HZ.out.found Z hz ⟨y1,y2⟩;have b:=I.out;rw [h3]at b;have:=m.out.step i G (by rw [b]) (by rw [b]) (show z-a+2≠0 by omega);rwa [show a+(z-a+2)=z+2 from by omega]at this)
                 have B: ¬(s[z]=42/\s[z+1]=47)->Hid (Qq s a (z+1)):=fun n=>D_ (HZ.out.next Z hz n);by_cases y1:s[z]=42
                 · rw [decide_eq_true y1]at O;by_cases y2:s[z+1]=47
                   · rw [decide_eq_true y2]at E;have M:=y y1 y2;clear y B y1 y2;go_wp2_with fail;go_round
                     case rel=>exact⟨z+2,by omega,by omega,by go_num,M⟩
                     case measure=>simp [intOf];omega
                   · rw [decide_eq_false y2]at E;have M:=B (fun h=>y2 h.2);clear y B y1 y2;go_wp2_with fail;go_round
                     case rel=>exact⟨z+1,by omega,by omega,by go_num,M⟩
                     case measure=>simp [intOf];omega
                 · rw [decide_eq_false y1]at O;have M:=B (fun h=>y1 h.1);clear y B y1 E;go_wp2_with fail;go_round
                   case rel=>exact⟨z+1,by omega,by omega,by go_num,M⟩
                   case measure=>simp [intOf];omega
               · have b:=I.out;rw [HZ.out.none (by omega)]at b;have k:=D_ (show Cq s.data.toList p a false from⟨i,by rw [C0];omega,m.out,(fun h=>by cases h),fun _=>⟨G,by rw [b];rfl⟩⟩);clear b;go_wp2_with fail;go_ret2;exact⟨⟨a,false,rfl,k.out⟩,rfl⟩
            · rw [decide_eq_false t]at N;have k:=D_ (show Cq s.data.toList p a true from⟨i,by rw [C0];omega,m.out,fun _=>.inr (pq s a l (by rw [HQ.out];exact j) c (fun _ h=>t h.2)),fun h=>by cases h⟩);clear g j c d t;go_wp2_with fail;refine(C.out _).mono ?_;rintro e w' ⟨rfl,rfl⟩;go_wp2_with fail;go_ret2;exact⟨⟨a,true,rfl,k.out⟩,rfl⟩
          · have k:=D_ (show Cq s.data.toList p a true from⟨i,by rw [C0];omega,m.out,fun _=>.inr (pq s a l (by rw [HQ.out];exact j) c (fun h=>absurd h Y)),fun h=>by cases h⟩);clear g j c d;go_wp2_with fail;refine(C.out _).mono ?_;rintro e w' ⟨rfl,rfl⟩;go_wp2_with fail;go_ret2;exact⟨⟨a,true,rfl,k.out⟩,rfl⟩
        · rw [decide_eq_false d]at x;have k:=D_ (show Cq s.data.toList p a true from⟨i,by rw [C0];omega,m.out,fun _=>.inr (pq s a l (by rw [HQ.out];exact j) c (fun _ h=>d h.1)),fun h=>by cases h⟩);clear g j c d;go_wp2_with fail;refine(C.out _).mono ?_;rintro e w' ⟨rfl,rfl⟩;go_wp2_with fail;go_ret2;exact⟨⟨a,true,rfl,k.out⟩,rfl⟩
  · have hf:Cq s.data.toList p a true:=⟨i,by rw [C0];exact ha,m.out,fun _=>.inl (by rw [C0];omega),fun h=>by cases h⟩;have k:=D_ hf;clear hf;go_wp2_with fail;go_ret2;exact⟨⟨a,true,rfl,k.out⟩,rfl⟩
end Go.Proofs.YtinefdlkajnomaaGreatDoor
