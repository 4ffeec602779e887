import Derived.Test.YtinefdlkajnomaaGreatDoorMCharA
import Derived.Lib.TrimAscii
import Derived.Lib.Small
import Derived.Laws.RangeAny
namespace Go.Proofs.YtinefdlkajnomaaGreatDoor
open Go.RowKit
set_option maxHeartbeats 20000000
theorem Mx (l:List UInt8):(K3 l).2<=l.length:=by
 cases l with
 |nil=>exact R_ 0
 |cons b t=>
  unfold K3;dsimp only;rw [List.length_cons];repeat' split
  all_goals (try (show _<=t.length+1))
  all_goals (first|omega|skip)
theorem R8: ∀(k:Nat) (t:List UInt8) (n:Int),0<=n->0<=(J0 k t n).2
 |0,t,n,h=>by cases t<;>exact h
 |k+1,[],n,h=>h
 |k+1,b::t,n,h=>by
  by_cases a:0<=T3 b.toNat
  · rw [show J0 (k+1) (b::t) n=((J0 k t (16*n+T3 b.toNat)).1+1,(J0 k t (16*n+T3 b.toNat)).2)from J_ a];exact R8 k t _ (by omega)
  · rw [show J0 (k+1) (b::t) n=(0,n)from I_ a];exact h
theorem escL_rune (l:List UInt8):0<=(K3 l).1/\(K3 l).1<=1114111:=by
 cases l with
 |nil=>exact⟨by decide,by decide⟩
 |cons b t=>
  have a:=R8 6 t 0 (by decide);have c:=b.toNat_lt;unfold K3;dsimp only;repeat' split
  all_goals (constructor<;>(try dsimp only)<;>omega)
theorem K8: ∀(f:Nat) (l out:List UInt8) (a:Nat),l.length<=f->U7 f l out a=U7 l.length l out a
 |0,l,out,a,h=>by rw [List.eq_nil_of_length_eq_zero (Nat.le_zero.1 h)];rfl
 | f +1,l,out,a,h=>by
  by_cases c:l= []
  · subst c;rfl
  · have n:0<l.length:=List.length_pos_iff.2 c;obtain⟨m,i⟩: ∃m,l.length=m+1:=⟨l.length-1,by omega⟩;have j:=Lib.decodeL_width l;have g: ∀k,1<=k->(l.drop k).length<=m:=fun k d=>by rw [List.length_drop];omega
    have ih: ∀k,1<=k-> ∀o b,U7 f (l.drop k) o b=U7 m (l.drop k) o b:=fun k d o b=>by
     rw [K8 f _ _ _ (by have:=g k d;omega),K8 m _ _ _ (g k d)]
    rw [i];unfold U7;rw [I_ c,I_ c,ih 2 (by omega),ih _ (show 1<=(K3 (l.drop 1)).2+1 by omega),ih _ j]
def j3 (l out:List UInt8) (a:Nat):Option (List UInt8×Nat):=U7 l.length l out a
theorem i4 (l out:List UInt8) (a:Nat) (c:l≠ []):j3 l out a=
 if(Lib.decodeL l).1=39 then(if l.getD 1 0=39/\1<l.length then j3 (l.drop 2) (out++ [39]) (a+2)else some (out,a+1))
 else if(Lib.decodeL l).1=92 then(if(K3 (l.drop 1)).2=0 then none else j3 (l.drop ((K3 (l.drop 1)).2+1)) (out++J4 (K3 (l.drop 1)).1) (a+(K3 (l.drop 1)).2+1))
 else if(Lib.decodeL l).1<32\/((Lib.decodeL l).1=65533/\(Lib.decodeL l).2=1)then none
 else j3 (l.drop (Lib.decodeL l).2) (out++J4 (Lib.decodeL l).1) (a+(Lib.decodeL l).2):=by
 have i:0<l.length:=List.length_pos_iff.2 c;obtain⟨m,d⟩: ∃m,l.length=m+1:=⟨l.length-1,by omega⟩;have g:=Lib.decodeL_width l;have ih: ∀k,1<=k-> ∀o b,U7 m (l.drop k) o b=j3 (l.drop k) o b:=fun k h o b=>K8 m _ _ _ (by rw [List.length_drop];omega);rw [<-ih 2 (by omega),<-ih _ (show 1<=(K3 (l.drop 1)).2+1 by omega),<-ih _ g];conv=>lhs;unfold j3;rw [d];unfold U7
 rw [I_ c]
theorem q8 (l:List UInt8) (h:l.headD 0=39):N3 l=j3 (l.drop 1) [] 1:=by
 unfold N3;rw [J_ h];exact K8 _ _ _ _ (by rw [List.length_drop];omega)
theorem V6 (l:List UInt8) (h:l.headD 0≠39):N3 l=none:=I_ h
def vX (l:List UInt8):List UInt8:=((N3 l).map (·.1)).getD []
def uX (l:List UInt8):Nat:=((N3 l).map (·.2)).getD 0
def wX (l:List UInt8):Int:=if(N3 l).isSome then 0 else 20
theorem P5 {l:List UInt8} (h:N3 l=none):vX l= []/\uX l=0/\wX l=20:=by unfold vX uX wX;rw [h];exact⟨rfl,rfl,rfl⟩
theorem D7 {l o:List UInt8} {n:Nat} (h:N3 l=some (o,n)):vX l=o/\uX l=n/\wX l=0:=by unfold vX uX wX;rw [h];exact⟨rfl,rfl,rfl⟩
def B3 (c:Nat):Prop:=c<55296\/(57343<c/\c<=1114111)
theorem valid_of {c:Nat} (h:B3 c):Utf8.valid (c:Int)=true:=by
 unfold B3 at h;unfold Utf8.valid;simp
 omega
set_option maxRecDepth 100000 in
theorem G8 {c:Nat} (h:B3 c):J4 (c:Int)=
 if c<128 then [UInt8.ofNat c]
 else if c<2048 then [UInt8.ofNat (192+c/64),UInt8.ofNat (128+c%64)]
 else if c<65536 then [UInt8.ofNat (224+c/4096),UInt8.ofNat (128+c/64%64),UInt8.ofNat (128+c%64)]
 else [UInt8.ofNat (240+c/262144),UInt8.ofNat (128+c/4096%64),UInt8.ofNat (128+c/64%64),UInt8.ofNat (128+c%64)]:=by
 unfold J4 Utf8.encode;dsimp only;rw [valid_of h,J_ rfl,Int.toNat_natCast];split
 · rfl
 · split
   · rfl
   · split<;>rfl
theorem D2 (n:Nat) (h:n<256):(UInt8.ofNat n).toNat=n:=by
 rw [UInt8.toNat_ofNat'];omega
theorem Hx {c:Nat} (h:B3 c) (t:List UInt8):Lib.decodeL (J4 (c:Int)++t)=(c,(J4 (c:Int)).length):=by
 rw [G8 h];unfold B3 at h;by_cases a:c<128
 · rw [J_ a];show Lib.decodeL (UInt8.ofNat c::t)=(c,1)
   rw [Lib.decodeL_ascii _ _ (by rw [D2 c (by omega)];exact a),D2 c (by omega)]
 rw [I_ a];by_cases b:c<2048
 · rw [J_ b,Lib.decodeL_N];simp only [List.cons_append,List.nil_append,List.length_cons,List.getD_cons_zero,List.getD_cons_succ,List.length_nil]
   rw [D2 (192+c/64) (by omega),D2 (128+c%64) (by omega)];unfold Lib.decodeN;rw [I_ (by omega),J_ (by omega),J_ (by omega)];apply Prod.ext<;>simp only<;>omega
 rw [I_ b];by_cases d:c<65536
 · rw [J_ d,Lib.decodeL_N];simp only [List.cons_append,List.nil_append,List.length_cons,List.getD_cons_zero,List.getD_cons_succ,List.length_nil]
   rw [D2 (224+c/4096) (by omega),D2 (128+c/64%64) (by omega),D2 (128+c%64) (by omega)];unfold Lib.decodeN;rw [I_ (by omega),I_ (by omega),J_ (by omega),J_ (by omega)];apply Prod.ext<;>simp only<;>omega
 · rw [I_ d,Lib.decodeL_N];simp only [List.cons_append,List.nil_append,List.length_cons,List.getD_cons_zero,List.getD_cons_succ,List.length_nil]
   rw [D2 (240+c/262144) (by omega),D2 (128+c/4096%64) (by omega),D2 (128+c/64%64) (by omega),D2 (128+c%64) (by omega)];unfold Lib.decodeN;rw [I_ (by omega),I_ (by omega),I_ (by omega),J_ (by omega),J_ (by omega)];apply Prod.ext<;>simp only<;>omega
theorem Y7 {a:Nat} {b:UInt8} (h:a=b.toNat):UInt8.ofNat a=b:=by rw [h];exact UInt8.ofNat_toNat
theorem R6 (l:List UInt8) (n:l≠ []) (i: ¬((Lib.decodeL l).1=65533/\(Lib.decodeL l).2=1)):B3 (Lib.decodeL l).1/\J4 ((Lib.decodeL l).1:Int)=l.take (Lib.decodeL l).2:=by
 have a:=Lib.decodeL_N l;unfold Lib.decodeN at a;match l,n with
 |b0::t,_=>
  have o:=b0.toNat_lt;simp only [List.getD_cons_zero,List.getD_cons_succ,List.length_cons]at a
  by_cases k:b0.toNat<128
  · rw [J_ k]at a;have c:B3 b0.toNat:=.inl (by omega);rw [a];refine⟨c,?_⟩;rw [G8 c,J_ k];show [UInt8.ofNat b0.toNat]= [b0]
    rw [UInt8.ofNat_toNat]
  rw [I_ k]at a;by_cases h:b0.toNat/32=6/\(1<t.length+1/\(t.getD 0 0).toNat/64=2)
  · rw [J_ h]at a;match t,h with
    |b1::t2,h=>
     have j:=b1.toNat_lt;simp only [List.getD_cons_zero,List.length_cons]at a h
     split at a
     · rename_i hc
       have c:B3 (b0.toNat%32*64+b1.toNat%64):=.inl (by omega);rw [a];refine⟨c,?_⟩;rw [G8 c,I_ (by omega),J_ (by omega)];show [_,_]= [b0,b1]
       rw [Y7 (b:=b0) (by omega),Y7 (b:=b1) (by omega)]
     · exact absurd (by rw [a];exact⟨rfl,rfl⟩) i
  rw [I_ h]at a;by_cases g:b0.toNat/16=14/\(1<t.length+1/\(t.getD 0 0).toNat/64=2)/\(2<t.length+1/\(t.getD 1 0).toNat/64=2)
  · rw [J_ g]at a;match t,g with
    | [b1],g=>exact absurd g.2.2.1 (by simp)
    |b1::b2::t2,g=>
     have j:=b1.toNat_lt;have m:=b2.toNat_lt;simp only [List.getD_cons_zero,List.getD_cons_succ,List.length_cons]at a g
     split at a
     · rename_i hc
       have c:B3 (b0.toNat%16*4096+b1.toNat%64*64+b2.toNat%64):=by unfold B3;omega
       rw [a];refine⟨c,?_⟩;rw [G8 c,I_ (by omega),I_ (by omega),J_ (by omega)];show [_,_,_]= [b0,b1,b2]
       rw [Y7 (b:=b0) (by omega),Y7 (b:=b1) (by omega),Y7 (b:=b2) (by omega)]
     · exact absurd (by rw [a];exact⟨rfl,rfl⟩) i
  rw [I_ g]at a;by_cases d:b0.toNat/8=30/\(1<t.length+1/\(t.getD 0 0).toNat/64=2)/\(2<t.length+1/\(t.getD 1 0).toNat/64=2)/\(3<t.length+1/\(t.getD 2 0).toNat/64=2)
  · rw [J_ d]at a;match t,d with
    | [b1],d=>exact absurd d.2.2.1.1 (by simp)
    | [b1,b2],d=>exact absurd d.2.2.2.1 (by simp)
    |b1::b2::b3::t2,d=>
     have j:=b1.toNat_lt;have m:=b2.toNat_lt;have p:=b3.toNat_lt;simp only [List.getD_cons_zero,List.getD_cons_succ,List.length_cons]at a d
     split at a
     · rename_i hc
       have c:B3 (b0.toNat%8*262144+b1.toNat%64*4096+b2.toNat%64*64+b3.toNat%64):=by unfold B3;omega
       rw [a];refine⟨c,?_⟩;rw [G8 c,I_ (by omega),I_ (by omega),I_ (by omega)];show [_,_,_,_]= [b0,b1,b2,b3]
       rw [Y7 (b:=b0) (by omega),Y7 (b:=b1) (by omega),Y7 (b:=b2) (by omega),Y7 (b:=b3) (by omega)]
     · exact absurd (by rw [a];exact⟨rfl,rfl⟩) i
  rw [I_ d]at a;exact absurd (by rw [a];exact⟨rfl,rfl⟩) i
theorem Y9: ∀(n:Nat) (l:List UInt8),l.length<=n->Lib.validGoD n l=Lib.validD l
 |0,l,h=>by rw [List.eq_nil_of_length_eq_zero (Nat.le_zero.1 h)];rfl
 |n+1,l,h=>by
  by_cases a:l= []
  · subst a;rfl
  · have d:0<l.length:=List.length_pos_iff.2 a;obtain⟨m,c⟩: ∃m,l.length=m+1:=⟨l.length-1,by omega⟩;have g:=Lib.decodeL_width l;have b:(l.drop (Lib.decodeL l).2).length<=m:=by rw [List.length_drop];omega
    unfold Lib.validD;rw [c];unfold Lib.validGoD;rw [I_ a,I_ a,Y9 n _ (by omega),Y9 m _ b]
theorem qx (l:List UInt8) (a:l≠ []):Lib.validD l=if(Lib.decodeL l).1=65533/\(Lib.decodeL l).2=1 then false else Lib.validD (l.drop (Lib.decodeL l).2):=by
 have d:0<l.length:=List.length_pos_iff.2 a;obtain⟨m,c⟩: ∃m,l.length=m+1:=⟨l.length-1,by omega⟩;have g:=Lib.decodeL_width l;have b:(l.drop (Lib.decodeL l).2).length<=m:=by rw [List.length_drop];omega
 conv=>lhs;unfold Lib.validD;rw [c];unfold Lib.validGoD
 rw [I_ a,Y9 m _ b]
theorem Z9 {l:List UInt8} (a:l≠ []) (h:Lib.validD l=true): ¬((Lib.decodeL l).1=65533/\(Lib.decodeL l).2=1)/\Lib.validD (l.drop (Lib.decodeL l).2)=true:=by
 rw [qx l a]at h;split at h
 · cases h
 · exact⟨by assumption,h⟩
theorem head_of (b:UInt8) (t:List UInt8):((Lib.decodeL (b::t)).1<128/\b.toNat=(Lib.decodeL (b::t)).1/\(Lib.decodeL (b::t)).2=1)\/(128<=(Lib.decodeL (b::t)).1/\128<=b.toNat):=by
 by_cases h:b.toNat<128
 · left;rw [Lib.decodeL_ascii b t h];exact⟨h,rfl,rfl⟩
 · right
   have a:0<(⟨(b::t).toArray⟩:ByteArray).size:=by show 0<(b::t).toArray.size;simp
   exact⟨(decode_high ⟨(b::t).toArray⟩ 0 a (show 128<=b.toNat by omega)).1,by omega⟩
def cj (t text:List UInt8) (p:Nat):Option (List UInt8×Nat):=if t.headD 0=39/\t≠ []then j3 (t.drop 1) (text++ [39]) (p+1)else some (text,p)
def Nx (t text:List UInt8) (p:Nat):Option (List UInt8×Nat):=if(K3 t).2=0 then none else j3 (t.drop (K3 t).2) (text++J4 (K3 t).1) (p+(K3 t).2)
def dz (t text:List UInt8) (num:Int) (dig p:Nat):Option (List UInt8×Nat):=
 if(J0 (6-dig) t num).1+dig=0\/t.length<=(J0 (6-dig) t num).1\/(t.getD (J0 (6-dig) t num).1 0).toNat≠92\/1114111<(J0 (6-dig) t num).2\/(55296<=(J0 (6-dig) t num).2/\(J0 (6-dig) t num).2<=57343)then none
 else j3 (t.drop ((J0 (6-dig) t num).1+1)) (text++J4 (J0 (6-dig) t num).2) (p+(J0 (6-dig) t num).1+1)
def QSt (L:List UInt8) (pos:Nat) (a:Int) (text:List UInt8) (num:Int) (dig:Nat):Prop:=
 (a=0/\pos=0/\text= [])\/(a=1/\N3 L=j3 (L.drop pos) text pos)\/(a=2/\N3 L=cj (L.drop pos) text pos)\/(a=3/\N3 L=Nx (L.drop pos) text pos)\/
   (a=4/\0<=num/\num<16 ^ dig/\dig<=6/\N3 L=dz (L.drop pos) text num dig pos)
def p7 (c:Int):Int:=if 48<=c/\c<=57 then c-48 else if 97<=c/\c<=102 then c-87 else if 65<=c/\c<=70 then c-55 else-1
def M6 (a:Int) (text:List UInt8) (num:Int) (dig:Nat) (c:Int):Option (Int×List UInt8×Int×Nat):=
 if a=0 then(if c=39 then some (1,text,num,dig)else none)
 else if a=1 then(if c=39 then some (2,text,num,dig)else if c=92 then some (3,text,num,dig)else if c<32 then none else some (1,text++J4 c,num,dig))
 else if a=2 then(if c=39 then some (1,text++J4 c,num,dig)else none)
 else if a=3 then(if c=92\/c=39 then some (1,text++J4 c,num,dig)else if c=110 then some (1,text++J4 10,num,dig)else if c=116 then some (1,text++J4 9,num,dig)else if c=120 then some (4,text,0,0)else none)
 else(if c=92 then(if 0<dig/\Lib.validRune num=true then some (1,text++J4 num,num,dig)else none)else if p7 c<0\/dig=6 then none else some (4,text,num*16+p7 c,dig+1))
theorem o7 (b:UInt8) (t:List UInt8):K3 (b::t)=
 if b.toNat=92\/b.toNat=39 then((b.toNat:Int),1)else if b.toNat=110 then(10,1)else if b.toNat=116 then(9,1)else if b.toNat=120 then
  (if(J0 6 t 0).1=0\/t.length<=(J0 6 t 0).1\/(t.getD (J0 6 t 0).1 0).toNat≠92\/1114111<(J0 6 t 0).2\/(55296<=(J0 6 t 0).2/\(J0 6 t 0).2<=57343)then(0,0)
   else((J0 6 t 0).2,(J0 6 t 0).1+2))else(0,0):=rfl
theorem kq (k:Nat) (b:UInt8) (t:List UInt8) (num:Int) (h:T3 b.toNat<0):J0 k (b::t) num=(0,num):=by
 cases k with
 |zero=>rfl
 |succ k=>exact I_ (by omega)
theorem hexRun_go (k:Nat) (b:UInt8) (t:List UInt8) (num:Int) (h:0<=T3 b.toNat):J0 (k+1) (b::t) num=((J0 k t (16*num+T3 b.toNat)).1+1,(J0 k t (16*num+T3 b.toNat)).2):=J_ h
theorem XX (b:Nat):T3 b=p7 (b:Int):=by
 unfold T3 p7;repeat' split
 all_goals omega
theorem Nj (c:Int): -1<=p7 c/\p7 c<=15:=by
 unfold p7;repeat' split
 all_goals omega
theorem Mj (c:Int) (h:103<=c):p7 c= -1:=by
 unfold p7;rw [I_ (by omega),I_ (by omega),I_ (by omega)]
theorem ZZ {b:UInt8} {n:Nat} (a:n<256) (h:b.toNat=n):b=UInt8.ofNat n:=UInt8.toNat_inj.1 (by rw [h,D2 n a])
theorem QSt.step {L:List UInt8} {pos:Nat} {a:Int} {text:List UInt8} {num:Int} {dig:Nat} (h:QSt L pos a text num dig) (v:L.drop pos≠ [])
 (G: ¬((Lib.decodeL (L.drop pos)).1=65533/\(Lib.decodeL (L.drop pos)).2=1)) (A: ¬(a=2/\(Lib.decodeL (L.drop pos)).1≠39)):
 match M6 a text num dig ((Lib.decodeL (L.drop pos)).1:Nat)with
 |none=>N3 L=none
 |some (a',t',m',d')=>QSt L (pos+(Lib.decodeL (L.drop pos)).2) a' t' m' d':=by
 obtain⟨b,t,l⟩: ∃b t,L.drop pos=b::t:=by
  match hL:L.drop pos,v with
  |b::t,_=>exact⟨b,t,rfl⟩
 have i: ∀n,L.drop (pos+n)=(b::t).drop n:=fun n=>by rw [<-l,List.drop_drop]
 have C:=head_of b t;unfold M6;rcases h with⟨o,I,M⟩|⟨o,c⟩|⟨o,c⟩|⟨o,c⟩|⟨o,R,T,O,c⟩
 · subst o I M;rw [List.drop_zero]at l;rw [J_ rfl,List.drop_zero];subst l;by_cases hc:(Lib.decodeL (b::t)).1=39
   · rw [J_ (by omega)];refine .inr (.inl ⟨rfl,?_⟩);have q:b=39:=ZZ (n:=39) (by decide) (by omega);rw [q8 _ (by rw [List.headD_cons];exact q),show(Lib.decodeL (b::t)).2=1 by omega]
   · rw [I_ (by omega)];exact V6 _ (by rw [List.headD_cons];rintro rfl;rw [Lib.decodeL_ascii 39 t (by decide)]at hc;exact hc rfl)
 · subst o;rw [I_ (by decide),J_ rfl];rw [i4 _ _ _ v]at c;rw [l]at c G A⊢;by_cases hc:(Lib.decodeL (b::t)).1=39
   · rw [J_ (by omega)];rw [J_ hc]at c;refine .inr (.inr (.inl ⟨rfl,?_⟩));rw [c,i,show(Lib.decodeL (b::t)).2=1 by omega];unfold cj;cases t with
     |nil=>rw [I_ (by simp),I_ (by simp)]
     |cons x y=>
      by_cases hx:x=39
      · subst hx;rw [J_ (by simp),J_ (by simp)];rfl
      · rw [I_ (by simp [hx]),I_ (by simp [hx])]
   rw [I_ (by omega)];rw [I_ hc]at c;by_cases r:(Lib.decodeL (b::t)).1=92
   · rw [J_ (by omega)];rw [J_ r]at c;refine .inr (.inr (.inr (.inl ⟨rfl,?_⟩)));rw [c,i,show(Lib.decodeL (b::t)).2=1 by omega];unfold Nx;rw [List.drop_succ_cons,List.drop_zero,List.drop_succ_cons];by_cases d:(K3 t).2=0
     · rw [J_ d,J_ d]
     · rw [I_ d,I_ d,show pos+(K3 t).2+1=pos+1+(K3 t).2 by omega]
   rw [I_ (by omega)];rw [I_ r]at c;by_cases u:(Lib.decodeL (b::t)).1<32
   · rw [J_ (by omega)];rw [J_ (.inl u)]at c;exact c
   rw [I_ (by omega)];rw [I_ (by omega)]at c;exact .inr (.inl ⟨rfl,by rw [c,i]⟩)
 · subst o;have hc:(Lib.decodeL (b::t)).1=39:=by rw [l]at A;omega
   rw [I_ (by decide),I_ (by decide),J_ rfl];rw [l]at c⊢;rw [J_ (by omega)];have q:b=39:=ZZ (n:=39) (by decide) (by omega);refine .inr (.inl ⟨rfl,?_⟩);rw [c,i,show(Lib.decodeL (b::t)).2=1 by omega,hc];unfold cj;rw [J_ ⟨by rw [List.headD_cons];exact q,by simp⟩];rfl
 · subst o;rw [I_ (by decide),I_ (by decide),I_ (by decide),J_ rfl];rw [l]at c⊢;unfold Nx at c;by_cases B:(Lib.decodeL (b::t)).1=92\/(Lib.decodeL (b::t)).1=39
   · rw [J_ (by omega)];have d:K3 (b::t)=((b.toNat:Int),1):=by rw [o7,J_ (by omega)]
     rw [d,I_ (show¬(1:Nat)=0 by decide)]at c;refine .inr (.inl ⟨rfl,?_⟩);rw [c,i,show(Lib.decodeL (b::t)).2=1 by omega,show b.toNat=(Lib.decodeL (b::t)).1 by omega]
   rw [I_ (by omega)];by_cases r:(Lib.decodeL (b::t)).1=110
   · rw [J_ (by omega)];have d:K3 (b::t)=(10,1):=by rw [o7,I_ (by omega),J_ (by omega)]
     rw [d,I_ (show¬(1:Nat)=0 by decide)]at c;refine .inr (.inl ⟨rfl,?_⟩);rw [c,i,show(Lib.decodeL (b::t)).2=1 by omega]
   rw [I_ (by omega)];by_cases u:(Lib.decodeL (b::t)).1=116
   · rw [J_ (by omega)];have d:K3 (b::t)=(9,1):=by rw [o7,I_ (by omega),I_ (by omega),J_ (by omega)]
     rw [d,I_ (show¬(1:Nat)=0 by decide)]at c;refine .inr (.inl ⟨rfl,?_⟩);rw [c,i,show(Lib.decodeL (b::t)).2=1 by omega]
   rw [I_ (by omega)];by_cases N:(Lib.decodeL (b::t)).1=120
   · rw [J_ (by omega)];have d:=o7 b t;rw [I_ (by omega),I_ (by omega),I_ (by omega),J_ (by omega)]at d;refine .inr (.inr (.inr (.inr ⟨rfl,by decide,by decide,by decide,?_⟩)));rw [c,i,show(Lib.decodeL (b::t)).2=1 by omega,List.drop_succ_cons,List.drop_zero];unfold dz;rw [Nat.sub_zero,Nat.add_zero];by_cases g:(J0 6 t 0).1=0\/t.length<=(J0 6 t 0).1\/(t.getD (J0 6 t 0).1 0).toNat≠92\/1114111<(J0 6 t 0).2\/(55296<=(J0 6 t 0).2/\(J0 6 t 0).2<=57343)
     · rw [J_ g]at d;rw [d,J_ g,J_ rfl]
     · rw [I_ g]at d;rw [d,I_ g,I_ (by simp)];show j3 ((b::t).drop ((J0 6 t 0).1+2)) _ (pos+((J0 6 t 0).1+2))=_
       rw [show pos+((J0 6 t 0).1+2)=pos+1+(J0 6 t 0).1+1 by omega];rfl
   rw [I_ (by omega)];have d:K3 (b::t)=(0,0):=by rw [o7,I_ (by omega),I_ (by omega),I_ (by omega),I_ (by omega)]
   rw [d,J_ rfl]at c;exact c
 · subst o;rw [I_ (by decide),I_ (by decide),I_ (by decide),I_ (by decide)];rw [l]at c⊢;unfold dz at c;by_cases B:(Lib.decodeL (b::t)).1=92
   · rw [J_ (by omega)];have z:T3 b.toNat<0:=by rw [show b.toNat=92 by omega];decide
     rw [kq _ _ _ _ z]at c;have w:((b::t).getD 0 0).toNat=92:=by show b.toNat=92;omega
     by_cases g:0<dig/\Lib.validRune num=true
     · rw [J_ g];have p:=g.2;unfold Lib.validRune at p;rw [decide_eq_true_eq]at p;rw [I_ (by simp only [w];simp only [List.length_cons];omega)]at c;refine .inr (.inl ⟨rfl,?_⟩);rw [c,i,show(Lib.decodeL (b::t)).2=1 by omega];rfl
     · rw [I_ g];rw [J_ ?_]at c
       · exact c
       · by_cases F:dig=0
         · left;omega
         · right;right;right
           have p: ¬(Lib.validRune num=true):=fun e=>g ⟨by omega,e⟩;unfold Lib.validRune at p;rw [decide_eq_true_eq]at p;show 1114111<num\/(55296<=num/\num<=57343)
           omega
   rw [I_ (by omega)];have w:((b::t).getD 0 0).toNat≠92:=by show b.toNat≠92;omega
   by_cases g:p7 ((Lib.decodeL (b::t)).1:Nat)<0\/dig=6
   · rw [J_ g];have J:J0 (6-dig) (b::t) num=(0,num):=by
      rcases g with g|g
      · refine kq _ _ _ _ ?_;rw [XX];rcases C with⟨_,d,_⟩|⟨_,d⟩
        · rw [d];exact g
        · rw [Mj _ (by omega)];decide
      · rw [g];rfl
     rw [J,J_ (.inr (.inr (.inl w)))]at c;exact c
   · rw [I_ g];have V:(Lib.decodeL (b::t)).1<103:=by
      rcases Nat.lt_or_ge (Lib.decodeL (b::t)).1 103 with h|h
      · exact h
      · have:=Mj ((Lib.decodeL (b::t)).1:Nat) (by omega);omega
     have s:b.toNat=(Lib.decodeL (b::t)).1:=by omega
     have z:0<=T3 b.toNat:=by rw [XX,s];omega
     have U:=Nj ((Lib.decodeL (b::t)).1:Nat);obtain⟨k,H⟩: ∃k,6-dig=k+1:=⟨5-dig,by omega⟩;have D:6-(dig+1)=k:=by omega
     have E:T3 b.toNat=p7 ((Lib.decodeL (b::t)).1:Nat):=by rw [XX,s]
     rw [H,hexRun_go k b t num z,E]at c;dsimp only at c;refine .inr (.inr (.inr (.inr ⟨rfl,by omega,?_,by omega,?_⟩)))
     · rw [Int.pow_succ];omega
     rw [c,i,show(Lib.decodeL (b::t)).2=1 by omega,show(b::t).drop 1=t from rfl];unfold dz;rw [D,show num*16+p7 ((Lib.decodeL (b::t)).1:Nat)=16*num+p7 ((Lib.decodeL (b::t)).1:Nat) by omega];generalize (J0 k t (16*num+p7 ((Lib.decodeL (b::t)).1:Nat))).1=j;generalize (J0 k t (16*num+p7 ((Lib.decodeL (b::t)).1:Nat))).2=m;by_cases F:t.length<=j\/(t.getD j 0).toNat≠92\/1114111<m\/(55296<=m/\m<=57343)
     · rw [J_ (.inr (by rw [List.length_cons,List.getD_cons_succ];omega)),J_ (.inr F)]
     · rw [I_ (by rw [List.length_cons,List.getD_cons_succ];omega),I_ (by omega),show pos+(j+1)+1=pos+1+j+1 by omega];rfl
theorem QSt.bad {L:List UInt8} {pos:Nat} {a:Int} {text:List UInt8} {num:Int} {dig:Nat} (h:QSt L pos a text num dig) (j:L.drop pos≠ [])
 (i:(Lib.decodeL (L.drop pos)).1=65533/\(Lib.decodeL (L.drop pos)).2=1) (k:a≠2):N3 L=none:=by
 obtain⟨b,t,d⟩: ∃b t,L.drop pos=b::t:=by
  match hL:L.drop pos,j with
  |b::t,_=>exact⟨b,t,rfl⟩
 have p:=head_of b t;rw [d]at i;rcases h with⟨g,m,s⟩|⟨g,c⟩|⟨g,c⟩|⟨g,c⟩|⟨g,q,r,o,c⟩
 · subst m;rw [List.drop_zero]at d;subst d;exact V6 _ (by rw [List.headD_cons];rintro rfl;rw [Lib.decodeL_ascii 39 t (by decide)]at i;exact absurd i.1 (by decide))
 · rw [i4 _ _ _ j,d,I_ (by omega),I_ (by omega),J_ (.inr i)]at c;exact c
 · exact absurd g k
 · unfold Nx at c;have l:K3 (b::t)=(0,0):=by rw [o7,I_ (by omega),I_ (by omega),I_ (by omega),I_ (by omega)]
   rw [d,l,J_ rfl]at c;exact c
 · unfold dz at c;have n:T3 b.toNat<0:=by rw [XX,Mj _ (by omega)];decide
   rw [d,kq _ _ _ _ n,J_ (.inr (.inr (.inl (by show b.toNat≠92;omega))))]at c;exact c
theorem QSt.shut {L:List UInt8} {pos:Nat} {text:List UInt8} {num:Int} {dig:Nat} (h:QSt L pos 2 text num dig) (hc:L.drop pos= []\/(Lib.decodeL (L.drop pos)).1≠39):N3 L=some (text,pos):=by
 rcases h with⟨a,_⟩|⟨a,_⟩|⟨_,d⟩|⟨a,_⟩|⟨a,_⟩
 · exact absurd a (by decide)
 · exact absurd a (by decide)
 · unfold cj at d;rw [I_ ?_]at d
   · exact d
   · rintro⟨c,g⟩;rcases hc with hc|hc
     · exact g hc
     · match hL:L.drop pos,g with
       |b::t,_=>
        rw [hL]at c hc;rw [List.headD_cons]at c;subst c;rw [Lib.decodeL_ascii 39 t (by decide)]at hc;exact hc rfl
 · exact absurd a (by decide)
 · exact absurd a (by decide)
theorem QSt.over {L:List UInt8} {pos:Nat} {a:Int} {text:List UInt8} {num:Int} {dig:Nat} (h:QSt L pos a text num dig) (d:L.drop pos= []) (g:a≠2):N3 L=none:=by
 rcases h with⟨c,i,m⟩|⟨c,b⟩|⟨c,b⟩|⟨c,b⟩|⟨c,k,l,j,b⟩
 · subst i;rw [List.drop_zero]at d;subst d;exact V6 _ (by decide)
 · rw [b,d];rfl
 · exact absurd c g
 · rw [b,d];rfl
 · rw [b,d];unfold dz;rw [J_];right;left
   exact Nat.zero_le _
theorem QSt.at {L:List UInt8} {pos:Nat} {a:Int} {text:List UInt8} {num:Int} {dig:Nat} (h:QSt L pos a text num dig):0<=a/\a<=4/\(a=4->0<=num/\num<16777216/\dig<=6/\(dig≠6->num<1048576)):=by
 rcases h with⟨b,l,m⟩|⟨b,d⟩|⟨b,d⟩|⟨b,d⟩|⟨b,j,c,i,d⟩
 iterate 4 exact⟨by omega,by omega,fun h=>by omega⟩
 have g:dig=0\/dig=1\/dig=2\/dig=3\/dig=4\/dig=5\/dig=6:=by omega
 refine⟨by omega,by omega,fun _=>⟨j,?_,i,fun k=>?_⟩⟩
 · rcases g with rfl|rfl|rfl|rfl|rfl|rfl|rfl<;>(simp at c;omega)
 · rcases g with rfl|rfl|rfl|rfl|rfl|rfl|rfl<;>(simp at c;omega)
theorem escR_split (n:Nat):((n=39\/n=92\/n=10\/n=9)/\ ∃b:UInt8,Fj n= [92,b]/\ ∀t,K3 (b::t)=((n:Int),1))\/
 (n≠39/\n≠92/\n<32/\Fj n=92::120::(Px n++ [92]))\/(32<=n/\n≠39/\n≠92/\Fj n=J4 n):=by
 unfold Fj;by_cases a:n=39
 · subst a;exact .inl ⟨.inl rfl,39,by rw [J_ (.inl rfl)];rfl,fun t=>rfl⟩
 by_cases c:n=92
 · subst c;exact .inl ⟨.inr (.inl rfl),92,by rw [J_ (.inr rfl)];rfl,fun t=>rfl⟩
 rw [I_ (by omega)];by_cases d:n=10
 · subst d;exact .inl ⟨.inr (.inr (.inl rfl)),110,rfl,fun t=>rfl⟩
 rw [I_ (by omega)];by_cases g:n=9
 · subst g;exact .inl ⟨.inr (.inr (.inr rfl)),116,rfl,fun t=>rfl⟩
 rw [I_ (by omega)];by_cases h:n<32
 · rw [J_ (by omega)];exact .inr (.inl ⟨a,c,h,rfl⟩)
 · rw [I_ (by omega)];exact .inr (.inr ⟨by omega,a,c,rfl⟩)
theorem hexV_hexD: ∀k:Fin 16,T3 (U6 k.val).toNat=(k.val:Int):=by decide
theorem hexV_D (k:Nat) (h:k<16):T3 (U6 k).toNat=(k:Int):=hexV_hexD ⟨k,h⟩
theorem hexV_92: ¬0<=T3 (92:UInt8).toNat:=by decide
theorem qJ (n:Nat) (a:n<32) (t:List UInt8):J0 6 (Px n++92::t) 0=((Px n).length,(n:Int)):=by
 unfold Px;by_cases h:n<16
 · rw [J_ h];have e:=hexV_D n h;show J0 6 (U6 n::92::t) 0=(1,(n:Int))
   rw [show J0 6 (U6 n::92::t) 0=((J0 5 (92::t) (16*0+T3 (U6 n).toNat)).1+1,(J0 5 (92::t) (16*0+T3 (U6 n).toNat)).2)from J_ (by omega)];rw [show J0 5 (92::t) (16*0+T3 (U6 n).toNat)=(0,16*0+T3 (U6 n).toNat)from I_ hexV_92,e];simp
 · rw [I_ h];have e1:=hexV_D (n/16) (by omega);have e2:=hexV_D (n%16) (by omega);show J0 6 (U6 (n/16)::U6 (n%16)::92::t) 0=(2,(n:Int))
   rw [show J0 6 (U6 (n/16)::U6 (n%16)::92::t) 0=((J0 5 (U6 (n%16)::92::t) (16*0+T3 (U6 (n/16)).toNat)).1+1,(J0 5 (U6 (n%16)::92::t) (16*0+T3 (U6 (n/16)).toNat)).2)from J_ (by omega)];rw [show J0 5 (U6 (n%16)::92::t) (16*0+T3 (U6 (n/16)).toNat)=((J0 4 (92::t) (16*(16*0+T3 (U6 (n/16)).toNat)+T3 (U6 (n%16)).toNat)).1+1,(J0 4 (92::t) (16*(16*0+T3 (U6 (n/16)).toNat)+T3 (U6 (n%16)).toNat)).2)from J_ (by omega)];rw [show J0 4 (92::t) (16*(16*0+T3 (U6 (n/16)).toNat)+T3 (U6 (n%16)).toNat)=(0,16*(16*0+T3 (U6 (n/16)).toNat)+T3 (U6 (n%16)).toNat)from I_ hexV_92,e1,e2];apply Prod.ext
   · rfl
   · show 16*(16*0+((n/16:Nat):Int))+((n%16:Nat):Int)=(n:Int)
     omega
theorem escL_hex (n:Nat) (c:n<32) (t:List UInt8):K3 (120::(Px n++92::t))=((n:Int),(Px n).length+2):=by
 have d:=qJ n c t;have b:1<=(Px n).length:=by unfold Px;split<;>simp
 have a:(Px n++92::t).getD (Px n).length 0=92:=by
  rw [List.getD,List.getElem?_append_right (R_ _),Nat.sub_self];rfl
 show(if(J0 6 (Px n++92::t) 0).1=0\/_ then((0:Int),(0:Nat))else _)=_
 rw [d];dsimp only;rw [I_];rw [a,P_,List.length_cons];simp only [show((92:UInt8).toNat≠92)=False from by simp,false_or]
 omega
theorem Qz (x out:List UInt8) (a:Nat):j3 (92::x) out a=if(K3 x).2=0 then none else j3 (x.drop (K3 x).2) (out++J4 (K3 x).1) (a+(K3 x).2+1):=by
 rw [i4 _ _ _ (by simp),Lib.decodeL_ascii 92 x (by decide)];dsimp only;rw [I_ (by decide),J_ (by decide),List.drop_succ_cons,List.drop_zero,List.drop_succ_cons]
theorem read_rune (n:Nat) (l:B3 n) (t out:List UInt8) (a:Nat):j3 (Fj (n:Int)++t) out a=j3 t (out++J4 (n:Int)) (a+(Fj (n:Int)).length):=by
 rcases escR_split n with⟨h,b,c,o⟩|⟨m,i,g,c⟩|⟨m,i,g,c⟩
 · rw [c,List.cons_append,List.cons_append,List.nil_append,Qz,o t];dsimp only;rw [I_ (by simp),List.drop_succ_cons,List.drop_zero];rfl
 · rw [c,List.cons_append,List.cons_append,List.append_assoc,List.singleton_append,Qz,escL_hex n g t];dsimp only;have p:(120::(Px n++92::t)).drop ((Px n).length+2)=t:=by
    rw [List.drop_succ_cons,List.drop_append];simp
   rw [I_ (by simp),p,List.length_cons,List.length_cons,P_,List.length_singleton];rfl
 · rw [c];have k:J4 (n:Int)++t≠ []:=fun e=>by
    have q:=(K7 (n:Int)).1;have d:=congrArg List.length e;rw [P_,List.length_nil]at d;omega
   rw [i4 _ _ _ k,Hx l t];dsimp only;have j: ¬(n<32\/(n=65533/\(J4 (n:Int)).length=1)):=by
    rintro(h|⟨h,d⟩)
    · omega
    · rw [G8 l,I_ (by omega),I_ (by omega),J_ (by omega)]at d;simp at d
   rw [I_ i,I_ g,I_ j,List.drop_append];simp
theorem read_flat (l rest:List UInt8) (p:Lib.validD l=true) (m:rest.headD 0≠39) (out:List UInt8) (a:Nat):
 j3 ((S2 l).flatMap Fj++39::rest) out a=some (out++l,a+((S2 l).flatMap Fj).length+1):=by
 induction h:l.length using Nat.strongRecOn generalizing l out a with
 |_ n ih=>
  by_cases c:l= []
  · subst c;rw [T9];show j3 (39::rest) out a=some (out++ [],a+0+1)
    rw [i4 _ _ _ (by simp),Lib.decodeL_ascii 39 rest (by decide)];dsimp only;rw [J_ (by decide),List.append_nil];refine I_ ?_;rintro⟨g,i⟩;apply m
    cases rest with
    |nil=>simp at i
    |cons b t=>exact g
  · obtain⟨j,d⟩:=Z9 c p;obtain⟨o,k⟩:=R6 l c j;have r:=Lib.decodeL_width l;have q:0<l.length:=List.length_pos_iff.2 c;rw [vq l c,List.flatMap_cons,List.append_assoc,read_rune _ o,ih _ (by rw [List.length_drop];omega) (l.drop (Lib.decodeL l).2) d _ _ rfl,k];rw [P_,List.append_assoc,List.take_append_drop];rw [show∀x y z:Nat,x+y+z+1=x+(y+z)+1 from fun x y z=>by omega]
theorem jQ (l behind:List UInt8) (b:Lib.validD l=true) (a:behind.headD 0≠39):N3 (sq l++behind)=some (l,(sq l).length):=by
 have e:sq l++behind=39::((S2 l).flatMap Fj++39::behind):=by
  unfold sq;simp
 rw [e,q8 _ rfl,List.drop_one,List.tail_cons,read_flat l behind b a];unfold sq;congr 1
 rw [List.nil_append,List.length_cons,P_];congr 1
 simp
 omega
theorem EJ {c:Nat} (h:B3 c): ¬(c=65533/\(J4 (c:Int)).length=1):=by
 rintro⟨b,a⟩;subst b;rw [G8 h,I_ (by omega),I_ (by omega),J_ (by omega)]at a;simp at a
theorem encL_ne (c:Int) (t:List UInt8):J4 c++t≠ []:=fun e=>by
 have b:=(K7 c).1;have a:=congrArg List.length e;rw [P_,List.length_nil]at a;omega
theorem EX {c:Nat} (h:B3 c) (t:List UInt8) (a:Lib.validD t=true):Lib.validD (J4 (c:Int)++t)=true:=by
 rw [qx _ (encL_ne _ _),Hx h t];dsimp only;rw [I_ (EJ h),List.drop_append];simpa using a
theorem KZ (a b:List UInt8) (i:Lib.validD a=true) (j:Lib.validD b=true):Lib.validD (a++b)=true:=by
 induction h:a.length using Nat.strongRecOn generalizing a with
 | _ n ih=>
  by_cases c:a= []
  · subst c;exact j
  · obtain⟨d,g⟩:=Z9 c i;obtain⟨m,k⟩:=R6 a c d;have p:=Lib.decodeL_width a;have o:0<a.length:=List.length_pos_iff.2 c;have l:=ih _ (by rw [List.length_drop];omega) (a.drop (Lib.decodeL a).2) g rfl;have e:a++b=J4 ((Lib.decodeL a).1:Int)++(a.drop (Lib.decodeL a).2++b):=by
     rw [k,<-List.append_assoc,List.take_append_drop]
    rw [e];exact EX m _ l
theorem px (a:List UInt8) {c:Nat} (b:Lib.validD a=true) (h:B3 c):Lib.validD (a++J4 (c:Int))=true:=by
 have:=EX h [] rfl;rw [List.append_nil]at this;exact KZ a _ b this
theorem esc_scalar (l:List UInt8) (h:(K3 l).2≠0): ∃c:Nat,(K3 l).1=(c:Int)/\B3 c:=by
 cases l with
 |nil=>exact absurd rfl h
 | cons b t =>
  have a:=R8 6 t 0 (by decide);have d:=b.toNat_lt;revert h
  unfold K3;dsimp only;split
  · intro _;exact⟨b.toNat,rfl,.inl (by omega)⟩
  · split
    · intro _;exact⟨10,rfl,.inl (by decide)⟩
    · split
      · intro _;exact⟨9,rfl,.inl (by decide)⟩
      · split
        · split
          · intro h;exact absurd rfl h
          · rename_i hc
            intro _;refine⟨(J0 6 t 0).2.toNat,by show(J0 6 t 0).2=_;omega,?_⟩;unfold B3;omega
        · intro h;exact absurd rfl h
theorem YJ (l out:List UInt8) (a:Nat) (t:List UInt8) (n:Nat) (g:Lib.validD out=true) (h:j3 l out a=some (t,n)):Lib.validD t=true/\a+1<=n/\n<=a+l.length:=by
 induction D:l.length using Nat.strongRecOn generalizing l out a with
 | _ m ih =>
  by_cases d:l= []
  · subst d;cases h
  · have E:0<l.length:=List.length_pos_iff.2 d;have y:=Lib.decodeL_width l;have r:=Lib.decodeL_le l d;have go: ∀k o b,1<=k->k<=l.length->b=a+k->Lib.validD o=true->j3 (l.drop k) o b=some (t,n)->Lib.validD t=true/\a+1<=n/\n<=a+m:=fun k o b z A B x w=>by
     have C:(l.drop k).length=l.length-k:=List.length_drop;have v:=ih _ (by omega) (l.drop k) o b x w rfl;exact⟨v.1,by omega,by omega⟩
    rw [i4 l out a d]at h;split at h
    · split at h
      · rename_i p
        exact go 2 _ _ (by omega) (by omega) rfl (px out (c:=39) g (.inl (by decide))) h
      · simp only [Option.some.injEq,Prod.mk.injEq]at h
        obtain⟨rfl,rfl⟩:=h;exact⟨g,by omega,by omega⟩
    · split at h
      · split at h
        · cases h
        · rename_i p
          obtain⟨c,hc,j⟩:=esc_scalar (l.drop 1) p;have q:=Mx (l.drop 1);rw [List.length_drop]at q;rw [hc]at h;exact go _ _ _ (by omega) (by omega) (by omega) (px out g j) h
      · split at h
        · cases h
        · rename_i s
          have i: ¬((Lib.decodeL l).1=65533/\(Lib.decodeL l).2=1):=fun u=>s (.inr u);obtain⟨j,_⟩:=R6 l d i;exact go _ _ _ y r rfl (px out g j) h
theorem wZ (l t:List UInt8) (n:Nat) (h:N3 l=some (t,n)):Lib.validD t=true/\2<=n/\n<=l.length:=by
 by_cases a:l.headD 0=39
 · rw [q8 l a]at h;have c:0<l.length:=by
    cases l with
    |nil=>cases a
    |cons b t=>exact Nat.succ_pos _
   have:=YJ _ _ _ _ _ rfl h;rw [List.length_drop]at this;exact⟨this.1,by omega,by omega⟩
 · rw [V6 l a]at h;cases h
end Go.Proofs.YtinefdlkajnomaaGreatDoor
