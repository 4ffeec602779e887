import Derived.Test.YtinefdlkajnomaaGreatDoorMTkM
namespace Go.Proofs.YtinefdlkajnomaaGreatDoor
open Go.RowKit
set_option maxHeartbeats 20000000
theorem pJ: ∀(q:List UInt8) (n:Int),0<=n->q.all T1=true->n<=q.foldl (fun n c=>10*n+((c.toNat:Int)-48)) n
 | [],n,_,_=>Int.le_refl n
 |c::t,n,h,ha=>by
  rw [List.all_cons,Bool.and_eq_true]at ha;have hc:=(L4 c).1 ha.1;have:=pJ t (10*n+((c.toNat:Int)-48)) (by omega) ha.2;show n<=t.foldl _ (10*n+((c.toNat:Int)-48))
  omega
theorem val_prefix (l:List UInt8) (k:Nat) (h:l.all T1=true):val (l.take k)<=val l:=by
 have e:l=l.take k++l.drop k:=(List.take_append_drop k l).symm;have a:(l.take k).all T1=true:=by rw [e,List.all_append,Bool.and_eq_true]at h;exact h.1
 have b:(l.drop k).all T1=true:=by rw [e,List.all_append,Bool.and_eq_true]at h;exact h.2
 have g:=pJ (l.drop k) (val (l.take k)) (Z5 a) b;have d:val (l.take k++l.drop k)=(l.drop k).foldl (fun n c=>10*n+((c.toNat:Int)-48)) (val (l.take k)):=by unfold val;rw [List.foldl_append]
 rw [<-e]at d;omega
theorem qj (l:List UInt8) (k:Nat) (h:l.all T1=true):(l.take k).all T1=true:=by
 rw [<-List.take_append_drop k l,List.all_append,Bool.and_eq_true]at h;exact h.1
theorem gj {l d:List UInt8} (k:Nat) (c:body l=d) (a:d≠ []) (h:d.all T1=true) (j: ¬In64 (-(val (d.take k)))):B5 l=0/\X5 l=10:=by
 subst c;have g:=val_prefix (body l) k h;have i:=Z5 (qj (body l) k h);have b: ¬In64 (L8 l):=by
  unfold L8 In64 at*;split<;>omega
 rw [(L6 a h).1,(L6 a h).2,Q6 b,P6 b];exact⟨rfl,rfl⟩
theorem neg_of {l d:List UInt8} {m:Int} (b:body l=d) (a:d≠ []) (h:d.all T1=true) (i:neg l=true) (g:m= -(val d)) (c:In64 m):B5 l=m/\X5 l=0:=by
 subst b;exact WJ a ⟨h,.inl ⟨rfl,g,c⟩⟩ i
theorem pos_of {l d:List UInt8} {m:Int} (b:body l=d) (a:d≠ []) (h:d.all T1=true) (i:neg l=false) (g:m= -(val d)) (c:In64 m):B5 l=X8 (-m)/\X5 l=I9 (-m):=by
 subst b;exact XJ a ⟨h,.inl ⟨rfl,g,c⟩⟩ i
theorem TZ (s:ByteArray) (k:Nat) (h:k<s.size) (a:(s.data.toList.take k).all T1=true) (hc:T1 s[k]=true):(s.data.toList.take (k+1)).all T1=true:=by
 rw [Az s k h,List.all_append,a,List.all_cons,hc];rfl
theorem all_bad (s:ByteArray) (k:Nat) (h:k<s.size) (hc:T1 s[k]=false):s.data.toList.all T1=false:=by
 rw [C9 s k h,List.all_append,List.all_cons,hc];simp
theorem dig_at (s:ByteArray) (k:Nat) (h:k<s.size) (a:s.data.toList.all T1=true):T1 s[k]=true:=by
 rw [C9 s k h,List.all_append,List.all_cons,Bool.and_eq_true,Bool.and_eq_true]at a;exact a.2.1
theorem val_at (s:ByteArray) (k:Nat) (h:k<s.size):val (s.data.toList.take (k+1))=10*val (s.data.toList.take k)+((s[k].toNat:Int)-48):=by
 rw [Az s k h,CQ]
theorem ne_nil (s:ByteArray) (h:0<s.size):s.data.toList≠ []:=fun e=>by
 have:s.data.toList.length=s.size:=by simp
 rw [e]at this;have a:([]:List UInt8).length=0:=rfl;omega
set_option maxRecDepth 100000 in
theorem j4 (s:ByteArray) (w:World) (hs:s.size<=maxLen):
 Calls Tryz.prog 124 #[.string s] w fun e w'=>e=.returned (.tuple #[.int .i64 (B5 s.data.toList),.int .i64 (X5 s.data.toList)])/\w=w':=by
 have c_:s.size<=9223372036854775807:=by unfold maxLen at hs;omega
 clear hs;by_cases V:s.size=0
 · have hl:s.data.toList= []:=List.eq_nil_of_length_eq_zero (by simpa using V);have a:=D_ (s8 (l:=s.data.toList) (.inl (by rw [hl];rfl)));obtain rfl:s=⟨#[]⟩:=by apply ByteArray.ext;simpa using hl
   clear V hl c_;go_enter Tryz.func124,Tryz.ntmps124;go_wp2_with fail;go_ret2;exact⟨K5 a.out.1.symm a.out.2.symm,rfl⟩
 have R:0<s.size:=by omega
 have p:s.data.toList=s[0]::s.data.toList.drop 1:=C9 s 0 R;by_cases H:s[0].toNat=45
 · have e1 : ((s[0].toNat:Int)==45)=true:=by simp;omega
   have hD:(s.extract 1 s.size).data.toList=s.data.toList.drop 1:=by
    rw [ByteArray.data_extract,Array.toList_extract];simp
    exact List.take_of_length_le (by simp)
   have J:body s.data.toList=(s.extract 1 s.size).data.toList:=by
    rw [hD,p];show(if s[0].toNat=45 then _ else _)=_
    rw [J_ H];simp
   have E:neg s.data.toList=true:=by
    rw [p];show decide (s[0].toNat=45)=true
    simpa using H
   have X:(s.extract 1 s.size).size+1=s.size:=by simp;omega
   have A:=D_ J;have I:=D_ E;have a_:=D_ X;have d_:(s.extract 1 s.size).size<s.size:=by omega
   clear hD J E X p H V;by_cases W:(s.extract 1 s.size).size=0
   · have a:=D_ (s8 (l:=s.data.toList) (.inl (by rw [A.out];exact List.eq_nil_of_length_eq_zero (by simpa using W))));have ez:(s.extract 1 s.size).toList.isEmpty=true:=by
      rw [ByteArray.toList_eq,List.isEmpty_iff];exact List.eq_nil_of_length_eq_zero (by simpa using W)
     clear W a_;go_enter Tryz.func124,Tryz.ntmps124;go_wp2_with fail;go_ret2;exact⟨K5 a.out.1.symm a.out.2.symm,rfl⟩
   have z:=ne_nil (s.extract 1 s.size) (by omega);have v:=D_ z;have ez:(s.extract 1 s.size).toList.isEmpty=false:=by
    rw [ByteArray.toList_eq,List.isEmpty_eq_false_iff];exact z
   clear z W;go_enter Tryz.func124,Tryz.ntmps124;go_wp2_with fail;generalize s.extract 1 s.size=D at*;clear ez e1;go_loop [5] (fun i=> ∃k:Nat,k<=D.size/\i=.int .i64 k/\Hid ((D.data.toList.take k).all T1=true)) (fun i=>D.size-(intOf i).toNat)
   case atStart=>exact⟨0,Nat.zero_le _,rfl,D_ rfl⟩
   case round=>
    obtain⟨k,hk,rfl,F⟩:=hrel;by_cases c:k<D.size
    · have T:=D_ (TZ D k c F.out);have M:=D_ (all_bad D k c);by_cases hc:T1 D[k]=true
      · have r:=(L4 _).1 hc;have Y:=D_ hc;clear hc;obtain⟨N,O⟩:=r;go_wp2_with fail;go_round
        case rel=>exact⟨k+1,by omega,by go_num,D_ (T.out Y.out)⟩
        case measure=>simp [intOf];omega
      · have r:=(k8 _).1 (by simpa using hc);have a:=D_ (s8 (l:=s.data.toList) (.inr (by rw [A.out];exact M.out (by simpa using hc))));clear hc;rcases r with r|r
        all_goals
         go_wp2_with fail;go_ret2;exact⟨K5 a.out.1.symm a.out.2.symm,rfl⟩
    · have x :D.data.toList.all T1=true:=by
       have h:=F.out;rw [List.take_of_length_le (by simp;omega)]at h;exact h
      have b:=D_ x;clear x F;go_wp2_with fail;clear c;go_loop [6,7] (fun n i=> ∃(k:Nat) (m:Int),k<=D.size/\n=.int .i64 m/\i=.int .i64 k/\Hid (m= -(val (D.data.toList.take k))/\In64 m)) (fun _ i=>D.size-(intOf i).toNat)
      case atStart=>exact⟨0,0,Nat.zero_le _,rfl,rfl,D_ ⟨rfl,by unfold In64;omega⟩⟩
      case round=>
       obtain⟨k,m,hk,rfl,rfl,u⟩:=hrel;by_cases c:k<D.size
       · have C:=dig_at D k c b.out;have U:=val_at D k c;have r:=(L4 _).1 C;obtain⟨N,O⟩:=r;have hx:m*10-((D[k].toNat:Int)-48)= -(val (D.data.toList.take (k+1))):=by rw [U,u.out.1];omega
         have b_:m<=0:=by
          have:=Z5 (qj D.data.toList k b.out);have:=u.out.1;omega
         have G:=D_ hx;clear C U hx;by_cases j:In64 (m*10)
         · have g:=ij m 10 w u.out.2 (by unfold In64;omega);rw [d8 j,E8 j]at g;have d:=D_ g;have t:=xZ (m*10) ((D[k].toNat:Int)-48) w j (by unfold In64;omega);by_cases o:In64 (m*10-((D[k].toNat:Int)-48))
           · rw [d8 o,E8 o]at t;have q:=D_ t;have Z:=D_ o;clear g t j o;go_wp2_with fail;refine d.out.mono ?_;rintro e w' ⟨rfl,rfl⟩;go_wp2_with fail;refine q.out.mono ?_;rintro e w' ⟨rfl,rfl⟩;go_wp2_with fail;go_round
             case rel=>exact⟨k+1,_,by omega,rfl,by go_num,D_ ⟨G.out,Z.out⟩⟩
             case measure=>simp [intOf];omega
           · rw [Q6 o,P6 o]at t;have q:=D_ t;have a:=D_ (gj (k+1) A.out v.out b.out (by rw [<-G.out];exact o));clear g t j o;go_wp2_with fail;refine d.out.mono ?_;rintro e w' ⟨rfl,rfl⟩;go_wp2_with fail;refine q.out.mono ?_;rintro e w' ⟨rfl,rfl⟩;go_wp2_with fail;go_ret2;exact⟨K5 a.out.1.symm a.out.2.symm,rfl⟩
         · have g:=ij m 10 w u.out.2 (by unfold In64;omega);rw [Q6 j,P6 j]at g;have d:=D_ g;have a:=D_ (gj (k+1) A.out v.out b.out (by rw [<-G.out];unfold In64 at*;omega));clear g j;go_wp2_with fail;refine d.out.mono ?_;rintro e w' ⟨rfl,rfl⟩;go_wp2_with fail;go_ret2;exact⟨K5 a.out.1.symm a.out.2.symm,rfl⟩
       · have y:=u.out;rw [show D.data.toList.take k=D.data.toList from List.take_of_length_le (by simp;omega)]at y;have B:=D_ y;clear y;go_wp2_with fail;go_ret2;have a:=neg_of A.out v.out b.out I.out B.out.1 B.out.2;exact⟨K5 a.1.symm a.2.symm,rfl⟩
 · have e1 : ((s[0].toNat:Int)==45)=false:=by simp;omega
   have J:body s.data.toList=s.data.toList:=by
    rw [p];show(if s[0].toNat=45 then _ else _)=_
    rw [I_ H]
   have E:neg s.data.toList=false:=by
    rw [p];show decide (s[0].toNat=45)=false
    simpa using H
   have A:=D_ J;have I:=D_ E;have z:=ne_nil s R;have v:=D_ z;have ez:s.toList.isEmpty=false:=by
    rw [ByteArray.toList_eq,List.isEmpty_eq_false_iff];exact z
   clear J E p H V z;go_enter Tryz.func124,Tryz.ntmps124;go_wp2_with fail;clear ez e1;go_loop [5] (fun i=> ∃k:Nat,k<=s.size/\i=.int .i64 k/\Hid ((s.data.toList.take k).all T1=true)) (fun i=>s.size-(intOf i).toNat)
   case atStart=>exact⟨0,Nat.zero_le _,rfl,D_ rfl⟩
   case round=>
    obtain⟨k,hk,rfl,F⟩:=hrel;by_cases c:k<s.size
    · have T:=D_ (TZ s k c F.out);have M:=D_ (all_bad s k c);by_cases hc:T1 s[k]=true
      · have r:=(L4 _).1 hc;have Y:=D_ hc;clear hc;obtain⟨N,O⟩:=r;go_wp2_with fail;go_round
        case rel=>exact⟨k+1,by omega,by go_num,D_ (T.out Y.out)⟩
        case measure=>simp [intOf];omega
      · have r:=(k8 _).1 (by simpa using hc);have a:=D_ (s8 (l:=s.data.toList) (.inr (by rw [A.out];exact M.out (by simpa using hc))));clear hc;rcases r with r|r
        all_goals
         go_wp2_with fail;go_ret2;exact⟨K5 a.out.1.symm a.out.2.symm,rfl⟩
    · have x :s.data.toList.all T1=true:=by
       have h:=F.out;rw [List.take_of_length_le (by simp;omega)]at h;exact h
      have b:=D_ x;clear x F;go_wp2_with fail;clear c;go_loop [6,7] (fun n i=> ∃(k:Nat) (m:Int),k<=s.size/\n=.int .i64 m/\i=.int .i64 k/\Hid (m= -(val (s.data.toList.take k))/\In64 m)) (fun _ i=>s.size-(intOf i).toNat)
      case atStart=>exact⟨0,0,Nat.zero_le _,rfl,rfl,D_ ⟨rfl,by unfold In64;omega⟩⟩
      case round=>
       obtain⟨k,m,hk,rfl,rfl,u⟩:=hrel;by_cases c:k<s.size
       · have C:=dig_at s k c b.out;have U:=val_at s k c;have r:=(L4 _).1 C;obtain⟨N,O⟩:=r;have hx:m*10-((s[k].toNat:Int)-48)= -(val (s.data.toList.take (k+1))):=by rw [U,u.out.1];omega
         have b_:m<=0:=by
          have:=Z5 (qj s.data.toList k b.out);have:=u.out.1;omega
         have G:=D_ hx;clear C U hx;by_cases j:In64 (m*10)
         · have g:=ij m 10 w u.out.2 (by unfold In64;omega);rw [d8 j,E8 j]at g;have d:=D_ g;have t:=xZ (m*10) ((s[k].toNat:Int)-48) w j (by unfold In64;omega);by_cases o:In64 (m*10-((s[k].toNat:Int)-48))
           · rw [d8 o,E8 o]at t;have q:=D_ t;have Z:=D_ o;clear g t j o;go_wp2_with fail;refine d.out.mono ?_;rintro e w' ⟨rfl,rfl⟩;go_wp2_with fail;refine q.out.mono ?_;rintro e w' ⟨rfl,rfl⟩;go_wp2_with fail;go_round
             case rel=>exact⟨k+1,_,by omega,rfl,by go_num,D_ ⟨G.out,Z.out⟩⟩
             case measure=>simp [intOf];omega
           · rw [Q6 o,P6 o]at t;have q:=D_ t;have a:=D_ (gj (k+1) A.out v.out b.out (by rw [<-G.out];exact o));clear g t j o;go_wp2_with fail;refine d.out.mono ?_;rintro e w' ⟨rfl,rfl⟩;go_wp2_with fail;refine q.out.mono ?_;rintro e w' ⟨rfl,rfl⟩;go_wp2_with fail;go_ret2;exact⟨K5 a.out.1.symm a.out.2.symm,rfl⟩
         · have g:=ij m 10 w u.out.2 (by unfold In64;omega);rw [Q6 j,P6 j]at g;have d:=D_ g;have a:=D_ (gj (k+1) A.out v.out b.out (by rw [<-G.out];unfold In64 at*;omega));clear g j;go_wp2_with fail;refine d.out.mono ?_;rintro e w' ⟨rfl,rfl⟩;go_wp2_with fail;go_ret2;exact⟨K5 a.out.1.symm a.out.2.symm,rfl⟩
       · have y:=u.out;rw [show s.data.toList.take k=s.data.toList from List.take_of_length_le (by simp;omega)]at y;have B:=D_ y;clear y;go_wp2_with fail;refine(ref_Neg _ _ B.out.2).mono ?_;rintro e w' ⟨rfl,rfl⟩;go_wp2_with fail;go_ret2;have a:=pos_of A.out v.out b.out I.out B.out.1 B.out.2;exact⟨K5 a.1.symm a.2.symm,rfl⟩
end Go.Proofs.YtinefdlkajnomaaGreatDoor
