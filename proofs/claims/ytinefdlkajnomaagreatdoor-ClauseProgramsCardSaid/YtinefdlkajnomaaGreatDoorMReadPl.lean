import Derived.Test.YtinefdlkajnomaaGreatDoorMReadM
import Derived.Test.YtinefdlkajnomaaGreatDoorMTkM
import Derived.Test.YtinefdlkajnomaaGreatDoorMTermMay
namespace Go.Proofs.YtinefdlkajnomaaGreatDoor
open Go.RowKit
inductive Sim (d:Nat) (e e':Tok) (Z Z':List Tok):List Tok->List Tok->Prop where
 |stop:Sim d e e' Z Z' (e::Z) (e'::Z')
 |cons (t:Tok) (l l':List Tok):t.kind≠8->t.kind≠9->Sim d e e' Z Z' l l'->Sim d e e' Z Z' (t::l) (t.sh d::l')
section
variable {d:Nat} {e e':Tok} {Z Z':List Tok}
structure Sq (e e':Tok):Prop where
 one:e.kind=8\/e.kind=9
 two:e'.kind=8\/e'.kind=9\/(e'.kind=6/\e'.text= [41])
theorem isP_no {t:Tok} {l:List UInt8} (h:t.kind≠6):t.isP l=false:=by
 unfold Tok.isP;rw [beq_eq_false_iff_ne.2 h];rfl
theorem Sq.isP1 (h:Sq e e') (l:List UInt8):e.isP l=false:=isP_no (by have:=h.one;omega)
theorem Sq.isP2 (h:Sq e e') (l:List UInt8) (c:l≠ [41]):e'.isP l=false:=by
 rcases h.two with a|a|⟨_,b⟩
 · exact isP_no (by omega)
 · exact isP_no (by omega)
 · unfold Tok.isP;rw [b];have:(([41]:List UInt8)==l)=false:=beq_eq_false_iff_ne.2 (fun e=>c e.symm);rw [this];simp
theorem Sq.alone1 (h:Sq e e') (c:Tok):I3 e c=true:=by
 unfold I3;rw [J_ (by simp only [Bool.or_eq_true,beq_iff_eq];exact h.one)]
theorem Sq.alone2 (h:Sq e e') (c:Tok):I3 e' c=true:=by
 unfold I3;rcases h.two with a|a|⟨a,b⟩
 · rw [a];rfl
 · rw [a];rfl
 · rw [a,b];rfl
def SimW (d:Nat) (e e':Tok) (Z Z':List Tok) (W W':Rdr) (m m':Nat):Prop:=
 ∀p ts us ns t ts' ns',ts.length<=m->us.length<=m'->T0 ts->T0 us->ns.length<=200->Sim d e e' Z Z' ts us->W p ts ns=.ok t ts' ns'-> ∃us',W' p us ns=.ok t us' ns'/\Sim d e e' Z Z' ts' us'
theorem Sim.isP {ts us:List Tok} (h:Sim d e e' Z Z' ts us) (a:Sq e e') (l:List UInt8) (b:l≠ [41]):(j0 us).isP l=(j0 ts).isP l:=by
 cases h with
 |stop=>rw [j8,j8,a.isP1,a.isP2 _ b]
 |cons t l l' _ _ hs=>rfl
theorem Sim.behind {ts us:List Tok} (h:Sim d e e' Z Z' ts us) (a:Sq e e'):((j0 us).kind=7↔(j0 ts).kind=7)/\((j0 us).kind=5↔(j0 ts).kind=5)/\((j0 ts).kind=5->(j0 us).pos=(j0 ts).pos+d/\(j0 us).n=(j0 ts).n)/\I3 (j0 us) (j0 us.tail)=I3 (j0 ts) (j0 ts.tail):=by
 cases h with
 |stop=>
  rw [j8,j8,a.alone1,a.alone2];have b:=a.one;have c:=a.two;exact⟨⟨fun h=>by omega,fun h=>by omega⟩,⟨fun h=>by omega,fun h=>by omega⟩,fun h=>by omega,rfl⟩
 | cons t l l' _ _ g=>
  refine⟨Iff.rfl,Iff.rfl,fun _=>⟨rfl,rfl⟩,?_⟩;show I3 (t.sh d) (j0 l')=I3 t (j0 l)
  have hc:((j0 l').kind==7)=((j0 l).kind==7):=by
   cases g with
   |stop=>
    rw [j8,j8];have b:=a.one;have c:=a.two;rw [beq_eq_false_iff_ne.2 (by omega),beq_eq_false_iff_ne.2 (by omega)]
   |cons t2 l2 l2' _ _ _=>rfl
  unfold I3;rw [hc];rfl
end
theorem checkL_len {l:List UInt8} (h:K2 l=true):l.length<=255:=by
 unfold K2 at h;simp only [Bool.and_eq_true,decide_eq_true_eq]at h
 exact h.1
theorem rune_le (l:List UInt8):(Lib.decodeL l).1<=1114111:=by
 have d:=Lib.decodeL_N l;have c:=Lib.decodeN_shape l.length (l.getD 0 0).toNat (l.getD 1 0).toNat (l.getD 2 0).toNat (l.getD 3 0).toNat;rw [<-d]at c;have g: ∀i,(l.getD i 0).toNat<256:=fun i=>(l.getD i 0).toNat_lt;have h:=g 0;rcases c with⟨a,e⟩|⟨_,_,_,a,e⟩|⟨_,_,_,_,a,b,e⟩|⟨_,_,_,_,_,a,b,e⟩|e
 all_goals (rw [e];simp only;omega)
theorem runeB_in (r:List UInt8):0<=(T4 r).1/\(T4 r).1<=1114111:=by
 unfold T4;split
 · exact⟨by decide,by decide⟩
 · split
   · exact⟨by decide,by decide⟩
   · have:=rune_le r;exact⟨by show(0:Int)<=((Lib.decodeL r).1:Int);omega,by show((Lib.decodeL r).1:Int)<=_;omega⟩
theorem runeNum_in (r:List UInt8):0<=(B1 r).1/\(B1 r).1<=1114111:=by
 unfold B1;split
 · exact runeB_in _
 · exact⟨by decide,by decide⟩
theorem readV_neg (l:List UInt8): -9223372036854775808<=B5 (45::l)/\B5 (45::l)<=0:=by
 unfold B5;split
 · exact⟨by decide,by decide⟩
 · rename_i h
   have a:(body (45::l)).all T1=true:=by
    cases b:(body (45::l)).all T1 with
    |true=>rfl
    |false=>exact absurd (.inr b) h
   have d:=Z5 a;have c:L8 (45::l)= -(val (body (45::l))):=by
    unfold L8;rw [J_ (show neg (45::l)=true from rfl)]
   rw [c];unfold X8;split<;>omega
theorem wrap64_pos {x:Int} (a:0<=x) (b:x<=9223372036854775807):wrap64 x=x:=by
 unfold wrap64;omega
theorem numberL_in (l:List UInt8):In64 (C2 l).n/\((C2 l).n<0->(C2 l).n= -9223372036854775808)/\(C2 l).text= []:=by
 unfold C2;split
 · have:=runeNum_in l;refine⟨⟨?_,?_⟩,fun h=>?_,rfl⟩
   · show _<=(B1 l).1;omega
   · show(B1 l).1<=_;omega
   · have b:(B1 l).1<0:=h;omega
 · split
   · have c:=readV_neg (l.take (O0 J3 l));generalize B5 (45::l.take (O0 J3 l))=x at*;show In64 (wrap64 (-x))/\(wrap64 (-x)<0->wrap64 (-x)= -9223372036854775808)/\_
     by_cases hx:x= -9223372036854775808
     · have a:wrap64 (-x)= -9223372036854775808:=by rw [hx];unfold wrap64;omega
       rw [a];exact⟨⟨by decide,by decide⟩,fun _=>rfl,rfl⟩
     · rw [wrap64_pos (by omega) (by omega)];exact⟨⟨by omega,by omega⟩,fun h=>by omega,rfl⟩
   · exact⟨⟨by decide,by decide⟩,fun h=>absurd h (by decide),rfl⟩
theorem fZ (x:Lx) (h:(V1 x).kind≠0):K2 (V1 x).text=true/\V1 x=x:=by
 unfold V1 at h⊢;split
 · rename_i hc;exact⟨hc,rfl⟩
 · rename_i hc
   rw [I_ hc]at h;exact absurd rfl h
theorem cls67 (b:UInt8) (h:cls (b.toNat:Int)=6\/cls (b.toNat:Int)=7) (c: ¬(b=33\/b=59)):b=40\/b=41\/b=44\/b=91\/b=93\/b=123\/b=124\/b=125:=by
 have key: ∀b:Fin 256,(cls (b.val:Int)=6\/cls (b.val:Int)=7)->b.val=33\/b.val=59\/b.val=40\/b.val=41\/b.val=44\/b.val=91\/b.val=93\/b.val=123\/b.val=124\/b.val=125:=by decide+kernel
 have a:=key ⟨b.toNat,b.toNat_lt⟩ h;have e: ∀n:Nat,b.toNat=n->b=UInt8.ofNat n:=fun n d=>by rw [<-d,UInt8.ofNat_toNat]
 rcases a with a|a|a|a|a|a|a|a|a|a
 · exact absurd (.inl (e _ a)) c
 · exact absurd (.inr (e _ a)) c
 · exact .inl (e _ a)
 · exact .inr (.inl (e _ a))
 · exact .inr (.inr (.inl (e _ a)))
 · exact .inr (.inr (.inr (.inl (e _ a))))
 · exact .inr (.inr (.inr (.inr (.inl (e _ a)))))
 · exact .inr (.inr (.inr (.inr (.inr (.inl (e _ a))))))
 · exact .inr (.inr (.inr (.inr (.inr (.inr (.inl (e _ a)))))))
 · exact .inr (.inr (.inr (.inr (.inr (.inr (.inr (e _ a)))))))
structure LexOk (l:List UInt8) (x:Lx):Prop where
 kind:1<=x.kind/\x.kind<=8/\x.kind≠7
 name:x.kind=1\/x.kind=2\/x.kind=3->K2 x.text=true
 punct:x.kind=6-> ∃b:UInt8,x.text= [b]/\(b=40\/b=41\/b=44\/b=91\/b=93\/b=123\/b=124\/b=125)
 n:In64 x.n
 neg:x.n<0->x.n= -9223372036854775808
 size:x.text.length<=max l.length 255
theorem lex_fine (l:List UInt8) (a:(G0 l).kind≠0):LexOk l (G0 l):=by
 have z:In64 0:=⟨by decide,by decide⟩;cases l with
 |nil=>exact absurd rfl a
 | cons b t=>
  have o: ∀k,((b::t).take k).length<=max (b::t).length 255:=fun k=>by rw [List.length_take];omega
  have i: ∀x:Lx,(V1 x).kind≠0->(x.kind=1\/x.kind=2\/x.kind=3\/x.kind=8)->x.n=0->LexOk (b::t) (V1 x):=fun x s j d=>by
   obtain⟨hc,v⟩:=fZ x s;rw [v]at hc⊢;have:=checkL_len hc;exact⟨by omega,fun _=>hc,fun h=>by omega,by rw [d];exact z,fun h=>by omega,by omega⟩
  unfold G0 at a⊢;dsimp only at a⊢;split at a
  · exact absurd rfl a
  rename_i u
  rw [I_ u];split at a
  · rename_i j
    rw [J_ j];exact i _ a (.inl rfl) rfl
  rename_i j
  rw [I_ j];split at a
  · rename_i d
    rw [J_ d];exact⟨⟨(by decide:(1:Int)<=4),(by decide:(4:Int)<=8),(by decide:(4:Int)≠7)⟩,fun h=>absurd h (by show¬((4:Int)=1\/(4:Int)=2\/(4:Int)=3);decide),fun h=>absurd h (by show(4:Int)≠6;decide),z,fun h=>absurd h (by show¬(0:Int)<0;decide),o _⟩
  rename_i d
  rw [I_ d];split at a
  · rename_i p
    rw [J_ p];obtain⟨a1,a2,a3⟩:=numberL_in (b::t);have g:(C2 (b::t)).kind=5:=by
     revert a
     unfold C2;split
     · exact fun _=>rfl
     · split
       · exact fun _=>rfl
       · exact fun h=>absurd rfl h
    exact⟨by rw [g];decide,fun h=>by rw [g]at h;exact absurd h (by decide),fun h=>by rw [g]at h;exact absurd h (by decide),a1,a2,by rw [a3];exact Nat.zero_le _⟩
  rename_i p
  rw [I_ p];split at a
  · rename_i q
    rw [J_ q];split at a
    · exfalso
      revert a
      unfold X6;split
      · exact fun h=>absurd rfl h
      · exact fun h=>absurd rfl h
    · rename_i y
      rw [I_ y];refine i _ a ?_ rfl;unfold U9;dsimp only;split
      · exact .inr (.inr (.inr rfl))
      · exact .inr (.inr (.inl rfl))
  rename_i q
  rw [I_ q];split at a
  · rename_i r
    rw [J_ r];unfold Q4 at a⊢;split at a
    · rename_i t2 k w
      exact i _ a (.inr (.inl rfl)) rfl
    · rename_i w
      refine absurd ?_ a;unfold V1;split<;>rfl
  rename_i r
  rw [I_ r];split at a
  · rename_i c
    rw [J_ c];unfold G4;by_cases m:b=33\/b=59
    · rw [J_ m];refine⟨⟨(by decide:(1:Int)<=1),(by decide:(1:Int)<=8),(by decide:(1:Int)≠7)⟩,fun _=>?_,fun h=>absurd h (by show(1:Int)≠6;decide),z,fun h=>absurd h (by show¬(0:Int)<0;decide),?_⟩
      · rcases m with rfl|rfl<;>decide+kernel
      · show 1<=max (b::t).length 255;omega
    · rw [I_ m];exact⟨⟨(by decide:(1:Int)<=6),(by decide:(6:Int)<=8),(by decide:(6:Int)≠7)⟩,fun h=>absurd h (by show¬((6:Int)=1\/(6:Int)=2\/(6:Int)=3);decide),fun _=>⟨b,rfl,cls67 b c m⟩,z,fun h=>absurd h (by show¬(0:Int)<0;decide),by show 1<=max (b::t).length 255;omega⟩
  rename_i c
  rw [I_ c];split at a
  · exact absurd rfl a
  · exact absurd rfl a
theorem tok_fine (l:List UInt8) (t:Bool) (o:Nat) (b:(G0 l).kind≠0) (c:l.length<=4096) (a:o<=4096):SZ ⟨A3 t (G0 l),(G0 l).text,(G0 l).n,o⟩/\A3 t (G0 l)≠9:=by
 obtain⟨k1,k2,k3,k4,k5,k6⟩:=lex_fine l b;generalize G0 l=x at*;unfold A3;by_cases h:t=true/\x.text= [40]/\x.kind=6
 · rw [J_ h];refine⟨⟨(by decide:(1:Int)<=7/\(7:Int)<=9),fun h=>absurd (L7 h) (by show¬((7:Int)=1\/(7:Int)=2\/(7:Int)=3);decide),fun _=>⟨40,h.2.1,.inl rfl⟩,k4,k5,by show x.text.length<=_;omega,a⟩,by decide⟩
 · rw [I_ h];refine⟨⟨⟨k1.1,by show x.kind<=9;omega⟩,fun h=>k2 (L7 h),fun h=>?_,k4,k5,by show x.text.length<=_;omega,a⟩,by omega⟩;rcases h with h|h
   · exact k3 h
   · exact absurd h k1.2.2
theorem Fx {l:List UInt8} {T:List Tok} (c:l.length<=4096) (h:C5 l 0 false=.good T):T0 T:=by
 have a:=Gq;have key:0+l.length<=4096->T0 T:=by
  revert h
  refine cut_ind (P:=fun l o _ T=>o+l.length<=4096->T0 T) ?_ ?_ ?_ l 0 false T
  · intro o t d;exact .stop _ ⟨(by decide:(1:Int)<=9/\(9:Int)<=9),fun h=>absurd (L7 h) (by show¬((9:Int)=1\/(9:Int)=2\/(9:Int)=3);decide),fun h=>absurd h (by show¬((9:Int)=6\/(9:Int)=7);decide),(by unfold In64;decide:In64 0),fun h=>absurd h (by show¬(0:Int)<0;decide),Nat.zero_le _,by show o<=4096;omega⟩ rfl
  · intro l o t T c j b hc h d;have:=a l;exact h (by rw [List.length_drop];omega)
  · intro l o t U c j b hc h d;have:=a l;obtain⟨g,i⟩:=tok_fine l t o b (by omega) (by omega);exact .cons _ _ g i (h (by rw [List.length_drop];omega))
 exact key (by omega)
inductive Wh where
 |syn (o:Nat)
 |deep (o:Nat)
 |ok (t:Tm) (ts:List Tok) (ns:Nms)
def g6 (must:Bool) (ts:List Tok):Wh:=
 match O7 ts.length 1200 ts []with
 | .bad o=>.syn o
 | .ok t ts' ns=>
  if(j0 ts').kind≠8/\must=true then .syn (j0 ts').pos
  else if 60<t.deep then .deep (j0 ts).pos
  else .ok t (if(j0 ts').kind=8 then ts'.tail else ts') ns
inductive Pr (α:Type) where
 |bad (o:Nat) (e:Int)
 |ok (a:α)
def A7:Nat->List Tm->List Tok->Pr (List Tm)
 |0,l,_=>.ok l
 | f+1,l,ts=>
  if(j0 ts).kind=9 then .ok l
  else
   match g6 true ts with
   | .syn o=>.bad o 60
   | .deep o=>.bad o 3
   | .ok t ts' _=>A7 f (l++ [t]) ts'
def Ux (ts:List Tok):Pr (List Tm):=A7 ts.length [] ts
def queryT (ts:List Tok):Pr (Tm×Nms):=
 match g6 false ts with
 | .syn o=>.bad o 60
 | .deep o=>.bad o 3
 | .ok t ts' ns=>if(j0 ts').kind=9 then .ok (t,ns)else .bad (j0 ts').pos 60
def H7 {α:Type} (src:List UInt8) (f:List Tok->Pr α):Pr α:=
 if 4096<src.length then .bad 0 2
 else
  match C5 src 0 false with
  | .bad o=>.bad o 50
  | .good T=>f T
def q9 (src:List UInt8):Pr (List Tm):=H7 src Ux
def queryL (src:List UInt8):Pr (Tm×Nms):=H7 src queryT
theorem Aq {must:Bool} {ts:List Tok} (b:T0 ts) {t:Tm} {ts':List Tok} {ns:Nms} (h:g6 must ts=.ok t ts' ns):T0 ts'/\ts'.length+t.size<=ts.length/\ns.length<=200/\t.deep<=60:=by
 unfold g6 at h;cases hc:O7 ts.length 1200 ts []with
 |bad o=>rw [hc]at h;cases h
 |ok t1 ts1 ns1=>
  rw [hc]at h;dsimp only at h;obtain⟨a1,a2,a3⟩:=j5 _ _ _ _ _ _ _ (R_ _) b (by simp) hc;split at h
  · cases h
  split at h
  · cases h
  rename_i c
  injection h with h1 h2 h3;subst h1 h2 h3;refine⟨?_,?_,a3,by omega⟩
  · split
    · rename_i a;exact(a1.tail (by rw [a];decide)).1
    · exact a1
  · split
    · rename_i a;have:=(a1.tail (by rw [a];decide)).2;omega
    · exact a2
theorem nq {s:List UInt8} (h:K2 s=true):(R1 s).may=true:=by
 rw [Tm.may_eq];show p9 2 ⟨s.toArray⟩ 0 0 _=true
 unfold p9;rw [I_ (by decide),J_ rfl];simp [h]
theorem may_int (n:Int):(fx n).may=true:=by rw [Tm.may_eq];rfl
theorem may_var (n:Nat):(A8 n).may=true:=by
 rw [Tm.may_eq];show p9 1 ⟨#[]⟩ (n:Nat) 0 _=true
 unfold p9;rw [J_ rfl];simp
theorem oq {s:List UInt8} {l:List Tm} (h:K2 s=true) (a:1<=l.length) (b:l.length<=16) (c: ∀t∈l,t.may=true):(X0 s l).may=true:=by
 rw [Tm.may_eq];show p9 4 ⟨s.toArray⟩ 0 l.length (Tm.mays l)=true
 unfold p9;rw [I_ (by decide),I_ (by decide),I_ (by decide),J_ rfl,Tm.mays_all];have:l.all Tm.may=true:=List.all_eq_true.2 c;simp [h,this,a,b]
def MayW (W:Rdr) (m:Nat):Prop:= ∀p ts ns t ts' ns',ts.length<=m->T0 ts->ns.length<=200->W p ts ns=.ok t ts' ns'->t.may=true
theorem Uj (W:Rdr) (most m:Nat) (c:R2 W m) (b:MayW W m): ∀(f:Nat) (l:List Tm) (ts:List Tok) (ns:Nms) (l':List Tm) (ts':List Tok) (ns':Nms),ts.length<=m->T0 ts->ns.length<=200->(∀t∈l,t.may=true)->t7 W most f l ts ns=.ok l' ts' ns'-> ∀t∈l',t.may=true
 |0,l,ts,ns,l',ts',ns',hm,hf,hn,ha,h=>by
  injection h with h1 h2 h3;subst h1;exact ha
 |f+1,l,ts,ns,l',ts',ns',hm,hf,hn,ha,h=>by
  unfold t7 at h;split at h
  · rename_i hc
    obtain⟨a,g⟩:=hf.tail (by rw [(U2 hc).1];decide);split at h
    · cases h
    · obtain⟨t,ts1,ns1,d,h⟩:=Rd.bind_is h;obtain⟨a1,a2,a3⟩:=c _ _ _ _ _ _ (by omega) a hn d;refine Uj W most m c b f _ ts1 ns1 _ _ _ (by omega) a1 a3 (fun x hx=>?_) h;rcases List.mem_append.1 hx with hx|hx
      · exact ha x hx
      · rw [List.mem_singleton.1 hx];exact b _ _ _ _ _ _ (by omega) a hn d
  · injection h with h1 h2 h3;subst h1;exact ha
theorem lX {W:Rdr} {most m:Nat} (b:R2 W m) (a:MayW W m) {ts:List Tok} {ns:Nms} {l':List Tm} {ts':List Tok} {ns':Nms} (d:ts.length<=m) (c:T0 ts) (g:ns.length<=200) (h:Y3 W most ts ns=.ok l' ts' ns'): ∀t∈l',t.may=true:=by
 unfold Y3 at h;obtain⟨t,ts1,ns1,i,h⟩:=Rd.bind_is h;obtain⟨a1,a2,a3⟩:=b _ _ _ _ _ _ d c g i;refine Uj W most m b a _ _ ts1 ns1 _ _ _ (by omega) a1 a3 (fun x hx=>?_) h;rw [List.mem_singleton.1 hx];exact a _ _ _ _ _ _ d c g i
theorem cX: ∀(l:List Tm) (e:Tm),(∀t∈l,t.may=true)->e.may=true->(G5 l e).may=true
 | [],e,_,he=>he
 |x::l,e,hl,he=>by
  show(X0 [46] [x,G5 l e]).may=true
  refine oq (by decide+kernel) (by show 1<=2;decide) (by show 2<=16;decide) (fun t a=>?_);rcases List.mem_cons.1 a with rfl|a
  · exact hl _ (.head _)
  · rw [List.mem_singleton.1 a];exact cX l e (fun t h=>hl t (.tail _ h)) he
theorem OX {W:Rdr} {m:Nat} (i:R2 W m) (b:MayW W m) {ts:List Tok} {ns:Nms} {t:Tm} {ts':List Tok} {ns':Nms} (o:ts.length<=m+1) (k:T0 ts) (n:(j0 ts).kind≠9) (g:ns.length<=200) (h:q6 W ts ns=.ok t ts' ns'):t.may=true:=by
 obtain⟨b1,b2⟩:=k.tail n;unfold q6 at h;split at h
 · obtain⟨ts1,a,_,_⟩:=i8 h;exact b _ _ _ _ _ _ (by omega) b1 g a
 split at h
 · obtain⟨ts1,a,_,_⟩:=i8 h;unfold U4 at a;split at a
   · injection a with a h2 h3;subst a;exact nq (by decide+kernel)
   · unfold Vq at a;obtain⟨l,ts1,ns1,d,h⟩:=Rd.bind_is a;obtain⟨⟨c1,c2,c3⟩,c4,c5,c6⟩:=D4 i (by decide) (by omega) b1 g d;obtain⟨e,ts2,ns2,c,h⟩:=Rd.bind_is h;injection h with a h2 h3;subst a;refine cX l e (lX i b (by omega) b1 g d) ?_;unfold z8 at c;split at c
     · rename_i j
       obtain⟨d1,d2⟩:=c1.tail (by rw [(U2 j).1];decide);exact b _ _ _ _ _ _ (by omega) d1 c3 c
     · injection c with a h2 h3;subst a;exact nq (by decide+kernel)
 split at h
 · obtain⟨ts1,a,_,_⟩:=i8 h;unfold T5 at a;split at a
   · injection a with a h2 h3;subst a;exact nq (by decide+kernel)
   · obtain⟨t,ts1,ns1,d,h⟩:=Rd.bind_is a;injection h with a h2 h3;subst a;refine oq (by decide+kernel) (by show 1<=1;decide) (by show 1<=16;decide) (fun x hx=>?_);rw [List.mem_singleton.1 hx];exact b _ _ _ _ _ _ (by omega) b1 g d
 · cases h
theorem namedR_may {W:Rdr} {m:Nat} (i:R2 W m) (g:MayW W m) {p:Int} {ts:List Tok} {ns:Nms} {x:Tm×Int} {ts':List Tok} {ns':Nms} (o:ts.length<=m+1) (j:T0 ts) (k:(j0 ts).isAtom=true) (d:ns.length<=200) (h:Q5 W p ts ns=.ok x ts' ns'):x.1.may=true:=by
 obtain⟨b1,b2⟩:=j.tail (A2 k);have hc:=j.first.name k;unfold Q5 at h;split at h
 · rename_i n
   obtain⟨d1,d2⟩:=b1.tail (by rw [n];decide);obtain⟨t,ts1,ns1,hx,h⟩:=Rd.bind_is h;injection h with a b h3;subst a;unfold YQ at hx;obtain⟨ts2,a,b,_⟩:=i8 hx;obtain⟨l,ts3,ns3,c,a⟩:=Rd.bind_is a;injection a with a h3 h4;subst a;obtain⟨_,c4,c5,c6⟩:=D4 i (by decide) (by omega) d1 d c;exact oq hc c5 c6 (lX i g (by omega) d1 d c)
 split at h
 · injection h with a b h3;subst a;exact may_int _
 split at h
 · injection h with a b h3;subst a;exact nq hc
 split at h
 · injection h with a b h3;subst a;exact nq hc
 split at h
 · cases h
 · obtain⟨t,ts1,ns1,c,h⟩:=Rd.bind_is h;injection h with a b h3;subst a;refine oq hc (by show 1<=1;decide) (by show 1<=16;decide) (fun x hx=>?_);rw [List.mem_singleton.1 hx];exact g _ _ _ _ _ _ (by omega) b1 d c
theorem varR_may {ts:List Tok} {ns:Nms} {t:Tm} {ts':List Tok} {ns':Nms} (h:LZ ts ns=.ok t ts' ns'):t.may=true:=by
 unfold LZ at h;split at h
 · injection h with h1 h2 h3;subst h1;exact may_var _
 · split at h
   · cases h
   · injection h with h1 h2 h3;subst h1;exact may_var _
theorem beginR_may {W:Rdr} {m:Nat} (c:R2 W m) (b:MayW W m) {p:Int} {ts:List Tok} {ns:Nms} {x:Tm×Int} {ts':List Tok} {ns':Nms} (g:ts.length<=m+1) (d:T0 ts) (i:ns.length<=200) (h:P2 W p ts ns=.ok x ts' ns'):x.1.may=true:=by
 unfold P2 at h;split at h
 · exact namedR_may c b g d (by assumption) i h
 split at h
 · exact varR_may (Zx h).1
 split at h
 · rename_i a
   exact OX c b g d (by rcases a with a|a<;>rw [a]<;>decide) i (Zx h).1
 split at h
 · injection h with h1 h2 h3;subst h1;exact may_int _
 · cases h
theorem rJ {t:Tok} {r:R} (a:SZ t) (h:t.infix=some r):K2 t.text=true:=by
 unfold Tok.infix at h;split at h
 · rename_i hc
   simp only [Bool.or_eq_true]at hc
   rcases hc with hc|hc
   · exact a.name hc
   · rw [(U2 hc).2];decide+kernel
 · cases h
theorem nX {W:Rdr} {m:Nat} (b:R2 W m) (a:MayW W m) (p:Int): ∀(f:Nat) (t:Tm) (pri:Int) (ts:List Tok) (ns:Nms) (t':Tm) (ts':List Tok) (ns':Nms),ts.length<=m+1->T0 ts->ns.length<=200->t.may=true->z6 W p f t pri ts ns=.ok t' ts' ns'->t'.may=true
 |0,t,pri,ts,ns,t',ts',ns',hm,hf,hn,ht,h=>by
  injection h with h1 h2 h3;subst h1;exact ht
 |f+1,t,pri,ts,ns,t',ts',ns',hm,hf,hn,ht,h=>by
  unfold z6 at h;split at h
  · injection h with h1 h2 h3;subst h1;exact ht
  · rename_i r d
    split at h
    · injection h with h1 h2 h3;subst h1;exact ht
    · obtain⟨b1,b2⟩:=hf.tail (L9 d);obtain⟨u,ts1,ns1,c,h⟩:=Rd.bind_is h;obtain⟨a1,a2,a3⟩:=b _ _ _ _ _ _ (by omega) b1 hn c;refine nX b a p f _ _ ts1 ns1 _ _ _ (by omega) a1 a3 (oq (rJ hf.first d) (by show 1<=2;decide) (by show 2<=16;decide) (fun x hx=>?_)) h;rcases List.mem_cons.1 hx with rfl|hx
      · exact ht
      · rw [List.mem_singleton.1 hx];exact a _ _ _ _ _ _ (by omega) b1 hn c
theorem Oq: ∀(m:Nat),MayW (O7 m) m
 |0=>fun p ts ns t ts' ns' b a _ _=>absurd a.pos (by omega)
 |m+1=>fun p ts ns t ts' ns' b a d h=>by
  unfold O7 at h;obtain⟨x,ts1,ns1,c,h⟩:=Rd.bind_is h;obtain⟨a1,a2,a3⟩:=D8 (j5 m) b a d c;exact nX (j5 m) (Oq m) p _ _ _ ts1 ns1 _ _ _ (by have:=x.1.size_pos;omega) a1 a3 (beginR_may (j5 m) (Oq m) b a d c) h
end Go.Proofs.YtinefdlkajnomaaGreatDoor
namespace Go.Proofs.YtinefdlkajnomaaGreatDoor
open Go.RowKit
inductive ProgR:List Tok->List Tm->Prop where
 |nil (ts:List Tok):(j0 ts).kind=9->ProgR ts []
 |cons (ts ts':List Tok) (t:Tm) (ns:Nms) (L:List Tm):(j0 ts).kind≠9->g6 true ts=.ok t ts' ns->ProgR ts' L->ProgR ts (t::L)
end Go.Proofs.YtinefdlkajnomaaGreatDoor
