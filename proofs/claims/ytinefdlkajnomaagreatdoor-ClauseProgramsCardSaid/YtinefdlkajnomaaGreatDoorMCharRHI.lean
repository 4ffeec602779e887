import Derived.Test.YtinefdlkajnomaaGreatDoorMCharRef
import Derived.Test.YtinefdlkajnomaaGreatDoorMCharM
namespace Go.Proofs.YtinefdlkajnomaaGreatDoor
open Go.RowKit
set_option maxHeartbeats 20000000
theorem Y5 {a b c d:Int} (g:a=c) (h:b=d):Ending.returned (.tuple #[.int .i32 a,.int .i64 b])=.returned (.tuple #[.int .i32 c,.int .i64 d]):=by rw [g,h]
def Run (t:List UInt8) (j:Nat) (m:Int):Prop:=
 (J0 6 t 0).1=j+(J0 (6-j) (t.drop j) m).1/\(J0 6 t 0).2=(J0 (6-j) (t.drop j) m).2/\0<=m/\m<16 ^ j
theorem Run_start (t:List UInt8):Run t 0 0:=⟨by simp,rfl,by decide,by decide⟩
theorem hexV_bd (b:Nat): -1<=T3 b/\T3 b<=15:=by
 unfold T3;split
 · omega
 · split
   · omega
   · split<;>omega
theorem hexRun_yes (k:Nat) (b:UInt8) (t:List UInt8) (n:Int) (h:0<=T3 b.toNat):J0 (k+1) (b::t) n=((J0 k t (16*n+T3 b.toNat)).1+1,(J0 k t (16*n+T3 b.toNat)).2):=J_ h
theorem hexRun_no (k:Nat) (b:UInt8) (t:List UInt8) (n:Int) (h: ¬0<=T3 b.toNat):J0 (k+1) (b::t) n=(0,n):=I_ h
theorem Run_step {t:List UInt8} {j:Nat} {m:Int} (h:Run t j m) (l:j<6) (a:j<t.length) (d:0<=T3 (t[j]'a).toNat):Run t (j+1) (16*m+T3 (t[j]'a).toNat):=by
 obtain⟨b,c,g,i⟩:=h;have e:t.drop j=t[j]::t.drop (j+1):=List.drop_eq_getElem_cons a;have e6:6-j=(6-(j+1))+1:=by omega
 have k:=hexV_bd (t[j]'a).toNat;rw [e,e6,hexRun_yes _ _ _ _ d]at b c;refine⟨?_,c,by omega,?_⟩
 · rw [b];show j+(_+1)=_;omega
 · rw [Int.pow_succ];omega
theorem MX {t:List UInt8} {j:Nat} {m:Int} (h:Run t j m) (a:t.length<=j\/6<=j\/ ∃b:j<t.length,T3 (t[j]'b).toNat<0):(J0 6 t 0).1=j/\(J0 6 t 0).2=m:=by
 obtain⟨c,d,_,_⟩:=h;have g:J0 (6-j) (t.drop j) m=(0,m):=by
  rcases a with a|a|⟨b,a⟩
  · rw [List.drop_eq_nil_of_le a];cases 6-j<;>rfl
  · rw [show 6-j=0 by omega];rfl
  · have e:t.drop j=t[j]::t.drop (j+1):=List.drop_eq_getElem_cons b;rw [e];cases 6-j with
    |zero=>rfl
    |succ k=>exact hexRun_no _ _ _ _ (by omega)
 rw [g]at c d;exact⟨c,d⟩
theorem Run_bd {t:List UInt8} {j:Nat} {m:Int} (h:Run t j m) (a:j<=6):0<=m/\m<=16777215:=by
 obtain⟨_,_,b,c⟩:=h;have:(16:Int) ^ j<=16 ^ 6:=by
  have:=Nat.pow_le_pow_right (n:=16) (by decide) a;exact_mod_cast this
 have e:(16:Int) ^ 6=16777216:=by decide
 omega
theorem Run_bd5 {t:List UInt8} {j:Nat} {m:Int} (h:Run t j m) (a:j<=5):m<=1048575:=by
 obtain⟨_,_,b,c⟩:=h;have:(16:Int) ^ j<=16 ^ 5:=by
  have:=Nat.pow_le_pow_right (n:=16) (by decide) a;exact_mod_cast this
 have e:(16:Int) ^ 5=1048576:=by decide
 omega
theorem i9 (b:UInt8) (t:List UInt8):K3 (b::t)=
 if b.toNat=92\/b.toNat=39 then((b.toNat:Int),1)
 else if b.toNat=110 then(10,1)
 else if b.toNat=116 then(9,1)
 else if b.toNat=120 then
  (if(J0 6 t 0).1=0\/t.length<=(J0 6 t 0).1\/(t.getD (J0 6 t 0).1 0).toNat≠92\/1114111<(J0 6 t 0).2\/(55296<=(J0 6 t 0).2/\(J0 6 t 0).2<=57343)then(0,0)
   else((J0 6 t 0).2,(J0 6 t 0).1+2))
 else(0,0):=rfl
theorem escL_x {b:UInt8} {t:List UInt8} {j:Nat} {m:Int} (d:b.toNat=120) (a:(J0 6 t 0).1=j) (c:(J0 6 t 0).2=m):
 K3 (b::t)=if j=0\/t.length<=j\/(t.getD j 0).toNat≠92\/1114111<m\/(55296<=m/\m<=57343)then(0,0)else(m,j+2):=by
 rw [i9,I_ (show¬(b.toNat=92\/b.toNat=39) by omega),I_ (show¬b.toNat=110 by omega),I_ (show¬b.toNat=116 by omega),J_ d,a,c]
set_option maxRecDepth 100000 in
theorem ref_escaped (s:ByteArray) (w:World) (hs:s.size<=200000):
 Calls Tryz.prog 125 #[.string s] w fun e w'=>e=.returned (.tuple #[.int .i32 (K3 s.data.toList).1,.int .i64 ((K3 s.data.toList).2:Nat)])/\w=w':=by
 by_cases O:s.size=0
 · have Y:s.data.toList= []:=List.eq_nil_of_length_eq_zero (by simpa using O);have f0:s.toList.isEmpty=true:=by rw [ByteArray.toList_eq,Y];rfl
   rw [Y];clear O Y;go_enter Tryz.func125,Tryz.ntmps125;go_wp2_with fail;go_ret2;exact⟨rfl,rfl⟩
 have f0:s.toList.isEmpty=false:=by rw [ByteArray.toList_eq,List.isEmpty_eq_false_iff];exact list_ne s O
 have J:0<s.size:=by omega
 obtain⟨t,U⟩: ∃t,s.data.toList=s[0]::t:=⟨s.data.toList.drop 1,by
  have r:s.data.toList.drop 0=s.data.toList[0]'(by simpa using J)::s.data.toList.drop 1:=List.drop_eq_getElem_cons (by simpa using J);exact r⟩
 have W:t.length+1=s.size:=by rw [<-n6,U];rfl
 have H: ∀j (h:j<t.length) (y:j+1<s.size),s[j+1]'y=t[j]'h:=fun j h y=>by
  have e1:s[j+1]'y=s.data.toList[j+1]'(by rw [n6];exact y):=rfl;rw [e1];simp only [U,List.getElem_cons_succ]
 rw [U];have c_:s[0].toNat<256:=s[0].toNat_lt;have HG:=D_ H;have B:=D_ W;clear O H U W;by_cases r:s[0].toNat=92\/s[0].toNat=39
 · have a:K3 (s[0]::t)=((s[0].toNat:Int),1):=by rw [i9,J_ r]
   rw [a];clear a;rcases r with r|r
   · have e1:((s[0].toNat:Int)==92)=true:=by simp;omega
     clear r;go_enter Tryz.func125,Tryz.ntmps125;go_wp2_with fail;go_ret2;exact⟨rfl,rfl⟩
   · have e1:((s[0].toNat:Int)==92)=false:=by simp;omega
     have e2:((s[0].toNat:Int)==39)=true:=by simp;omega
     clear r;go_enter Tryz.func125,Tryz.ntmps125;go_wp2_with fail;go_ret2;exact⟨rfl,rfl⟩
 have e1:((s[0].toNat:Int)==92)=false:=by simp;omega
 have e2:((s[0].toNat:Int)==39)=false:=by simp;omega
 by_cases y:s[0].toNat=110
 · have a:K3 (s[0]::t)=(10,1):=by rw [i9,I_ r,J_ y]
   have e3:((s[0].toNat:Int)==110)=true:=by simp;omega
   rw [a];clear a r y;go_enter Tryz.func125,Tryz.ntmps125;go_wp2_with fail;go_ret2;exact⟨rfl,rfl⟩
 have e3:((s[0].toNat:Int)==110)=false:=by simp;omega
 by_cases G:s[0].toNat=116
 · have a:K3 (s[0]::t)=(9,1):=by rw [i9,I_ r,I_ y,J_ G]
   have e4:((s[0].toNat:Int)==116)=true:=by simp;omega
   rw [a];clear a r y G;go_enter Tryz.func125,Tryz.ntmps125;go_wp2_with fail;go_ret2;exact⟨rfl,rfl⟩
 have e4:((s[0].toNat:Int)==116)=false:=by simp;omega
 by_cases R:s[0].toNat=120
 · have e5 : ((s[0].toNat:Int)==120)=true:=by simp;omega
   have X:=fun j m=>escL_x (b:=s[0]) (t:=t) (j:=j) (m:=m) R;generalize K3 (s[0]::t)=E at X⊢;have l:=D_ X;clear r y G R X;go_enter Tryz.func125,Tryz.ntmps125;go_wp2_with fail;clear e1 e2 e3 e4 e5 f0 c_;go_loop [4,5] (fun n i=> ∃(j:Nat) (m:Int),j<=6/\j+1<=s.size/\i=.int .i64 (j+1:Nat)/\n=.int .i32 m/\Hid (Run t j m)) (fun _ i=>s.size-(intOf i).toNat)
   case atStart=>exact⟨0,0,by omega,by omega,rfl,rfl,D_ (Run_start t)⟩
   case round =>
    obtain⟨j,m,hj,j_,rfl,rfl,d⟩:=hrel;have f_:=Run_bd d.out hj;obtain⟨m_,n_⟩:=f_;by_cases g:j+1<s.size
    · have z :j<t.length:=by have:=B.out;omega
      have x:=HG.out j z g;have d_:(s[j+1]'g).toNat<256:=(s[j+1]'g).toNat_lt;have cV:=fun w=>ref_value (s[j+1]'g).toNat d_ w;have N:=hexV_bd (s[j+1]'g).toNat;by_cases e_:j<6
      · by_cases hv:0<=T3 (s[j+1]'g).toNat
        · have M:=Run_step d.out e_ z (by rw [<-x];exact hv);rw [<-x]at M;have b_:=D_ M;have h5:=Run_bd5 d.out (by omega);have C:=D_ cV;obtain⟨g_,h_⟩:=N;clear M cV x d;generalize T3 (s[j+1]'g).toNat=q at*;go_wp2_with fail;refine(C.out _).mono ?_;rintro e w' ⟨rfl,rfl⟩;go_wp2_with fail;refine(C.out _).mono ?_;rintro e w' ⟨rfl,rfl⟩;go_wp2_with fail;go_round
          case rel=>exact⟨j+1,_,by omega,by omega,by go_num,rfl,b_⟩
          case measure=>simp [intOf];omega
        · have k:=D_ (MX d.out (.inr (.inr ⟨z,by rw [<-x];omega⟩)));have C:=D_ cV;clear cV;obtain⟨g_,h_⟩:=N;have o_:T3 (s[j+1]'g).toNat<0:=by omega
          generalize T3 (s[j+1]'g).toNat=q at*;have F:=D_ x;clear hv x;by_cases D:j=0
          · have a:E=(0,0):=by rw [l.out j m k.out.1 k.out.2];exact J_ (.inl D)
            have c:=D_ a;have k_:(j:Int)<=0:=by omega
            clear D;clear a l d;go_wp2_with fail;refine(C.out _).mono ?_;rintro e w' ⟨rfl,rfl⟩;go_wp2_with fail;go_ret2;exact⟨Y5 (by rw [c.out]) (by rw [c.out];rfl),rfl⟩
          have V:(0:Int)<(j:Int):=by omega
          have ej:((j:Int)+1==1)=false:=by simp;omega
          have o:(t.getD j 0).toNat=(s[j+1]'g).toNat:=by rw [F.out,List.getD,List.getElem?_eq_getElem z];rfl
          by_cases p:(s[j+1]'g).toNat=92
          · have I:((((s[j+1]'g).toNat:Nat):Int) !=92)=false:=by simp;omega
            by_cases u:1114111<m
            · have a:E=(0,0):=by rw [l.out j m k.out.1 k.out.2];exact J_ (.inr (.inr (.inr (.inl u))))
              have c:=D_ a;clear a l d o p;go_wp2_with fail;refine(C.out _).mono ?_;rintro e w' ⟨rfl,rfl⟩;go_wp2_with fail;go_ret2;exact⟨Y5 (by rw [c.out]) (by rw [c.out];rfl),rfl⟩
            by_cases v:55296<=m/\m<=57343
            · have a:E=(0,0):=by rw [l.out j m k.out.1 k.out.2];exact J_ (.inr (.inr (.inr (.inr v))))
              have c:=D_ a;obtain⟨Z,a_⟩:=v;clear a l d o p u;go_wp2_with fail;refine(C.out _).mono ?_;rintro e w' ⟨rfl,rfl⟩;go_wp2_with fail;go_ret2;exact⟨Y5 (by rw [c.out]) (by rw [c.out];rfl),rfl⟩
            have a:E=(m,j+2):=by rw [l.out j m k.out.1 k.out.2];exact I_ (by rw [o];have:=B.out;omega)
            have c:=D_ a;have A:m<55296\/57343<m:=by omega
            have T:m<=1114111:=by omega
            clear a l d o p v u;rcases A with A|A
            all_goals
             go_wp2_with fail;refine(C.out _).mono ?_;rintro e w' ⟨rfl,rfl⟩;go_wp2_with fail;go_ret2;exact⟨Y5 (by rw [c.out];first|done|rfl) (by rw [c.out];first|done|rfl|(show _=(((j+2:Nat):Nat):Int);omega)),rfl⟩
          · have I:((((s[j+1]'g).toNat:Nat):Int) !=92)=true:=by simp;omega
            have a:E=(0,0):=by rw [l.out j m k.out.1 k.out.2];exact J_ (.inr (.inr (.inl (by rw [o];exact p))))
            have c:=D_ a;clear a l d o p;go_wp2_with fail;refine(C.out _).mono ?_;rintro e w' ⟨rfl,rfl⟩;go_wp2_with fail;go_ret2;exact⟨Y5 (by rw [c.out]) (by rw [c.out];rfl),rfl⟩
      · have k:=D_ (MX d.out (.inr (.inl (by omega))));have i_:(6:Int)<=(j:Int):=by omega
        have F:=D_ x;clear cV N x;have V:(0:Int)<(j:Int):=by omega
        have ej:((j:Int)+1==1)=false:=by simp;omega
        have o:(t.getD j 0).toNat=(s[j+1]'g).toNat:=by rw [F.out,List.getD,List.getElem?_eq_getElem z];rfl
        by_cases p:(s[j+1]'g).toNat=92
        · have I:((((s[j+1]'g).toNat:Nat):Int) !=92)=false:=by simp;omega
          by_cases u:1114111<m
          · have a:E=(0,0):=by rw [l.out j m k.out.1 k.out.2];exact J_ (.inr (.inr (.inr (.inl u))))
            have c:=D_ a;clear a l d o p;go_wp2_with fail;go_ret2;exact⟨Y5 (by rw [c.out]) (by rw [c.out];rfl),rfl⟩
          by_cases v:55296<=m/\m<=57343
          · have a:E=(0,0):=by rw [l.out j m k.out.1 k.out.2];exact J_ (.inr (.inr (.inr (.inr v))))
            have c:=D_ a;obtain⟨Z,a_⟩:=v;clear a l d o p u;go_wp2_with fail;go_ret2;exact⟨Y5 (by rw [c.out]) (by rw [c.out];rfl),rfl⟩
          have a:E=(m,j+2):=by rw [l.out j m k.out.1 k.out.2];exact I_ (by rw [o];have:=B.out;omega)
          have c:=D_ a;have A:m<55296\/57343<m:=by omega
          have T:m<=1114111:=by omega
          clear a l d o p v u;rcases A with A|A
          all_goals
           go_wp2_with fail;go_ret2;exact⟨Y5 (by rw [c.out];first|done|rfl) (by rw [c.out];first|done|rfl|(show _=(((j+2:Nat):Nat):Int);omega)),rfl⟩
        · have I:((((s[j+1]'g).toNat:Nat):Int) !=92)=true:=by simp;omega
          have a:E=(0,0):=by rw [l.out j m k.out.1 k.out.2];exact J_ (.inr (.inr (.inl (by rw [o];exact p))))
          have c:=D_ a;clear a l d o p;go_wp2_with fail;go_ret2;exact⟨Y5 (by rw [c.out]) (by rw [c.out];rfl),rfl⟩
    · have k:=D_ (MX d.out (.inl (by have:=B.out;omega)));have l_:(s.size:Int)<=(j:Int)+1:=by omega
      have a:E=(0,0):=by rw [l.out j m k.out.1 k.out.2];exact J_ (.inr (.inl (by have:=B.out;omega)))
      have c:=D_ a;clear a l d;by_cases D:j=0
      · subst D;go_wp2_with fail;go_ret2;exact⟨Y5 (by rw [c.out]) (by rw [c.out];rfl),rfl⟩
      · have V:(0:Int)<(j:Int):=by omega
        clear D;go_wp2_with fail;go_ret2;exact⟨Y5 (by rw [c.out]) (by rw [c.out];rfl),rfl⟩
 · have e5:((s[0].toNat:Int)==120)=false:=by simp;omega
   have a:K3 (s[0]::t)=(0,0):=by rw [i9,I_ r,I_ y,I_ G,I_ R]
   rw [a];clear a r y G R;go_enter Tryz.func125,Tryz.ntmps125;go_wp2_with fail;go_ret2;exact⟨rfl,rfl⟩
theorem O4 {a b:ByteArray} {c d e f:Int} (g:a=b) (h:c=d) (i:e=f):Ending.returned (.tuple #[.string a,.int .i64 c,.int .i64 e])=.returned (.tuple #[.string b,.int .i64 d,.int .i64 f]):=by rw [g,h,i]
theorem head_eq (s:ByteArray) (h:0<s.size):s.data.toList.headD 0=s[0]:=by
 have a:s.data.toList.drop 0=s.data.toList[0]'(by simpa using h)::s.data.toList.drop 1:=List.drop_eq_getElem_cons (by simpa using h);rw [List.drop_zero]at a;rw [a];rfl
theorem drop_ne (s:ByteArray) (p:Nat) (h:p<s.size):s.data.toList.drop p≠ []:=fun e=>by
 have a:=congrArg List.length e;rw [List.length_drop,n6]at a;simp at a
 omega
theorem Jj (s:ByteArray) (p:Nat) (h:p+1<s.size):(s.data.toList.drop p).getD 1 0=s[p+1]:=by
 have a:p+1<s.data.toList.length:=by rw [n6];exact h
 rw [List.getD,List.getElem?_drop,List.getElem?_eq_getElem a];rfl
theorem lj (b:UInt8):b=39↔b.toNat=39:=by
 constructor
 · rintro rfl;rfl
 · intro h;exact UInt8.toNat_inj.1 h
set_option maxRecDepth 100000 in
theorem mQ (s:ByteArray) (w:World) (hs:s.size<=200000) (N:Tabs w):
 Calls Tryz.prog 99 #[.string s] w fun e w'=>
  e=.returned (.tuple #[.string ⟨(vX s.data.toList).toArray⟩,.int .i64 (uX s.data.toList:Nat),.int .i64 (wX s.data.toList)])/\Below w.heap.size w w':=by
 have A:=D_ N;clear N;by_cases G:s.size=0
 · have hl:s.data.toList= []:=List.eq_nil_of_length_eq_zero (by simpa using G);have f0:s.toList.isEmpty=true:=by rw [ByteArray.toList_eq,hl];rfl
   have d:=D_ (P5 (l:=s.data.toList) (V6 _ (by rw [hl];decide)));clear G hl;go_enter Tryz.func99,Tryz.ntmps99;go_wp2_with fail;go_ret3;exact⟨O4 (by rw [d.out.1]) (by rw [d.out.2.1];rfl) (by rw [d.out.2.2]),F_ _ _⟩
 have f0:s.toList.isEmpty=false:=by rw [ByteArray.toList_eq,List.isEmpty_eq_false_iff];exact list_ne s G
 have a_:0<s.size:=by omega
 have E:=head_eq s a_;by_cases B:s[0].toNat=39
 · have e39 :(((s[0].toNat:Nat):Int) !=39)=false:=by simp;omega
   have hL:=q8 s.data.toList (by rw [E,lj];exact B);have HL:=D_ hL;clear G E B hL;go_enter Tryz.func99,Tryz.ntmps99;go_wp2_with fail;clear f0 e39;go_loopw [5,6] (fun ov av wr=> ∃(p:Nat) (o:ByteArray),1<=p/\p<=s.size/\av=.int .i64 (p:Nat)/\ov=.string o/\o.size<=4*p/\Below w.heap.size w wr/\Hid (N3 s.data.toList=j3 (s.data.toList.drop p) o.data.toList p)) (fun _ av _=>s.size-(intOf av).toNat)
   case atStart=>exact⟨1,⟨#[]⟩,by omega,by omega,rfl,rfl,by decide,F_ _ _,HL⟩
   case round=>
    obtain⟨p,o,r_,s_,rfl,rfl,q_,m,M⟩:=hrel;by_cases i_:p<s.size
    · have J :=drop_ne s p i_;have j:=i4 (s.data.toList.drop p) o.data.toList p J;rw [<-M.out]at j;have u_:=Lib.decodeL_width (s.data.toList.drop p);have j_:=Lib.decodeL_le (s.data.toList.drop p) J;have t_:=Lib.decodeL_rune (s.data.toList.drop p);rw [List.length_drop,n6]at j_;have Y:(s.extract p s.size).size≠0:=by simp;omega
      have cD:=fun w (N:Tabs w)=>Tryz.utf8_DecodeRuneInString (s.extract p s.size) w N.1;rw [F8 _ Y,K9]at cD;have HD:=D_ cD;rw [List.drop_drop,List.drop_drop,List.drop_drop]at j;have W:(s.data.toList.drop p).length=s.size-p:=by rw [List.length_drop,n6]
      rw [W]at j;have t:=D_ j;clear j cD Y J W;generalize (Lib.decodeL (s.data.toList.drop p)).1=c at*;generalize (Lib.decodeL (s.data.toList.drop p)).2=n at*;have f_:c=39\/c=92\/(c<32\/(c=65533/\n=1))\/((32<=c/\c≠39/\c≠92)/\ ¬(c=65533/\n=1)):=by omega
      have H:=HD.out;obtain⟨ci,b⟩: ∃ci:Int,(c:Int)=ci:=⟨_,rfl⟩;rw [b]at H;have v:=D_ H;have u:=D_ b;have h_:=iq ci;obtain⟨k_,l_⟩:=h_;clear H HD M HL;have HW:=fun (wr1:World) (a:Below wr.heap.size wr wr1)=>m.trans (a.mono m.size);have x:=D_ HW;clear HW;rcases f_ with hc|hc|hc|hc
      · have e39:(ci==39)=true:=by rw [<-b,hc];rfl
        by_cases F:p+1<s.size
        · by_cases R:(s[p+1]'F).toNat=39
          · have eq1:((((s[p+1]'F).toNat:Nat):Int) !=39)=false:=by simp;omega
            have i:N3 s.data.toList=j3 (s.data.toList.drop (p+2)) (o++Utf8.encode ci).data.toList (p+2):=by
             rw [t.out,J_ hc,Jj s p F,J_ ⟨(lj _).2 R,by omega⟩,Cj,<-b,hc];rfl
            have z:=D_ i;have y:(o++Utf8.encode ci).size<=4*(p+2):=by rw [ByteArray.size_append];omega
            clear hc b R i t u;go_wp2_with fail;refine(v.out _ (A.out.on m)).mono ?_;rintro e w1 ⟨rfl,a⟩;have g:=x.out _ a;clear a;go_wp2_with fail;go_roundw
            case rel=>exact⟨p+2,_,by omega,by omega,by go_num,rfl,y,g,z⟩
            case measure=>simp [intOf];omega
          · have eq1:((((s[p+1]'F).toNat:Nat):Int) !=39)=true:=by simp;omega
            have q:N3 s.data.toList=some (o.data.toList,p+1):=by
             rw [t.out,J_ hc,Jj s p F,I_ (fun h=>R ((lj _).1 h.1))]
            have d:=D_ (D7 q);clear hc b R q t u;go_wp2_with fail;refine(v.out _ (A.out.on m)).mono ?_;rintro e w1 ⟨rfl,a⟩;have g:=x.out _ a;clear a;go_wp2_with fail;go_ret3;exact⟨O4 (by rw [d.out.1];first|done|rfl) (by rw [d.out.2.1];go_num) (by rw [d.out.2.2]),g⟩
        · have q:N3 s.data.toList=some (o.data.toList,p+1):=by
           rw [t.out,J_ hc,I_ (fun h=>by omega)]
          have d:=D_ (D7 q);have p_:(s.size:Int)<=(p:Int)+1:=by omega
          clear hc b F q t u;go_wp2_with fail;refine(v.out _ (A.out.on m)).mono ?_;rintro e w1 ⟨rfl,a⟩;have g:=x.out _ a;clear a;go_wp2_with fail;go_ret3;exact⟨O4 (by rw [d.out.1];first|done|rfl) (by rw [d.out.2.1];go_num) (by rw [d.out.2.2]),g⟩
      · have e39:(ci==39)=false:=by rw [<-b,hc];rfl
        have e92:(ci==92)=true:=by rw [<-b,hc];rfl
        have C:=fun w=>ref_escaped (s.extract (p+1) s.size) w (by simp;omega);rw [K9]at C;have g_:=Mx (s.data.toList.drop (p+1));have X:=escL_rune (s.data.toList.drop (p+1));rw [List.length_drop,n6]at g_;have j:=t.out;rw [I_ (by omega),J_ hc]at j;generalize (K3 (s.data.toList.drop (p+1))).1=r at*;generalize (K3 (s.data.toList.drop (p+1))).2=k at*;have T:=D_ C;have Z:=iq r;obtain⟨m_,n_⟩:=Z;by_cases O:k=0
        · have d:=D_ (P5 (l:=s.data.toList) (by rw [j,J_ O]));have ek:((k:Int)==0)=true:=by simp;omega
          clear hc b C j t u O X;go_wp2_with fail;refine(v.out _ (A.out.on m)).mono ?_;rintro e w1 ⟨rfl,a⟩;have g:=x.out _ a;clear a;go_wp2_with fail;refine(T.out _).mono ?_;rintro e w' ⟨rfl,rfl⟩;go_wp2_with fail;go_ret3;exact⟨O4 (by rw [d.out.1]) (by rw [d.out.2.1];rfl) (by rw [d.out.2.2]),g⟩
        · have ek:((k:Int)==0)=false:=by simp;omega
          have i:N3 s.data.toList=j3 (s.data.toList.drop (p+(k+1))) (o++Utf8.encode r).data.toList (p+(k+1)):=by
           rw [j,I_ O,Cj];rfl
          have z:=D_ i;have y:(o++Utf8.encode r).size<=4*(p+(k+1)):=by rw [ByteArray.size_append];omega
          clear hc b C j t u O i X;go_wp2_with fail;refine(v.out _ (A.out.on m)).mono ?_;rintro e w1 ⟨rfl,a⟩;have g:=x.out _ a;clear a;go_wp2_with fail;refine(T.out _).mono ?_;rintro e w' ⟨rfl,rfl⟩;go_wp2_with fail;go_roundw
          case rel=>exact⟨p+(k+1),_,by omega,by omega,by go_num,rfl,y,g,z⟩
          case measure=>simp [intOf];omega
      · have d:=D_ (P5 (l:=s.data.toList) (by rw [t.out,I_ (by omega),I_ (by omega),J_ hc]));have e39:(ci==39)=false:=by rw [<-b];simp;omega
        have e92:(ci==92)=false:=by rw [<-b];simp;omega
        have I:ci<32\/(32<=ci/\(ci==65533)=true/\((n:Int)==1)=true):=by
         rcases hc with hc|⟨hc,o_⟩
         · left;omega
         · right;refine⟨by omega,by rw [<-b,hc];rfl,by simp;omega⟩
        clear hc b t u;rcases I with I|⟨I,D,e_⟩
        all_goals
         go_wp2_with fail;refine(v.out _ (A.out.on m)).mono ?_;rintro e w1 ⟨rfl,a⟩;have g:=x.out _ a;clear a;go_wp2_with fail;go_ret3;exact⟨O4 (by rw [d.out.1]) (by rw [d.out.2.1];rfl) (by rw [d.out.2.2]),g⟩
      · obtain⟨⟨c_,U,V⟩,d_⟩:=hc;have i:N3 s.data.toList=j3 (s.data.toList.drop (p+n)) (o++Utf8.encode ci).data.toList (p+n):=by
         rw [t.out,I_ U,I_ V,I_ (by omega),Cj,<-b,List.drop_drop];rfl
        have z:=D_ i;have e39:(ci==39)=false:=by rw [<-b];simp;omega
        have e92:(ci==92)=false:=by rw [<-b];simp;omega
        have g32:32<=ci:=by omega
        have D:(ci==65533)=false\/((ci==65533)=true/\((n:Int)==1)=false):=by
         by_cases b_:c=65533
         · right;exact⟨by rw [<-b,b_];rfl,by simp;omega⟩
         · left;rw [<-b];simp;omega
        have y:(o++Utf8.encode ci).size<=4*(p+n):=by rw [ByteArray.size_append];omega
        clear c_ U V d_ b t u i;rcases D with D|⟨D,e_⟩
        all_goals
         go_wp2_with fail;refine(v.out _ (A.out.on m)).mono ?_;rintro e w1 ⟨rfl,a⟩;have g:=x.out _ a;clear a;go_wp2_with fail;go_roundw
         case rel=>exact⟨p+n,_,by omega,by omega,by go_num,rfl,y,g,z⟩
         case measure=>simp [intOf];omega
    · have d:=D_ (P5 (l:=s.data.toList) (by rw [M.out,List.drop_eq_nil_of_le (by rw [n6];omega)];rfl));clear M;go_wp2_with fail;go_ret3;exact⟨O4 (by rw [d.out.1]) (by rw [d.out.2.1];rfl) (by rw [d.out.2.2]),m⟩
 · have e39:(((s[0].toNat:Nat):Int) !=39)=true:=by simp;omega
   have d:=D_ (P5 (l:=s.data.toList) (V6 _ (by rw [E];intro e;exact B ((lj _).1 e))));clear G E B;go_enter Tryz.func99,Tryz.ntmps99;go_wp2_with fail;go_ret3;exact⟨O4 (by rw [d.out.1]) (by rw [d.out.2.1];rfl) (by rw [d.out.2.2]),F_ _ _⟩
end Go.Proofs.YtinefdlkajnomaaGreatDoor
