import Derived.Test.YtinefdlkajnomaaGreatDoorMTkM
import Derived.Test.YtinefdlkajnomaaGreatDoorMTermMR
import Derived.Test.YtinefdlkajnomaaGreatDoorMOpsAC
namespace Go.Proofs.YtinefdlkajnomaaGreatDoor
open Go.RowKit
abbrev Nms:=List (List UInt8)
inductive Rd (α:Type) where
 |bad (o:Nat)
 |ok (a:α) (ts:List Tok) (ns:Nms)
def Rd.bind {α β:Type} (x:Rd α) (f:α->List Tok->Nms->Rd β):Rd β:=
 match x with
 | .bad o=>.bad o
 | .ok a ts ns=>f a ts ns
theorem Rd.bind_bad {α β:Type} (o:Nat) (f:α->List Tok->Nms->Rd β):(Rd.bad o).bind f=.bad o:=rfl
theorem Rd.bind_ok {α β:Type} (a:α) (ts:List Tok) (ns:Nms) (f:α->List Tok->Nms->Rd β):(Rd.ok a ts ns).bind f=f a ts ns:=rfl
theorem Rd.bind_is {α β:Type} {x:Rd α} {f:α->List Tok->Nms->Rd β} {b:β} {ts:List Tok} {ns:Nms} (h:x.bind f=.ok b ts ns): ∃a ts' ns',x=.ok a ts' ns'/\f a ts' ns'=.ok b ts ns:=by
 cases x with
 |bad o=>cases h
 |ok a ts' ns'=>exact⟨a,ts',ns',rfl,h⟩
abbrev Rdr:=Int->List Tok->Nms->Rd Tm
def stopT:Tok:=⟨9,[],0,0⟩
def j0 (ts:List Tok):Tok:=ts.headD stopT
theorem j8 (t:Tok) (ts:List Tok):j0 (t::ts)=t:=rfl
def Tok.isAtom (t:Tok):Bool:=t.kind==1||t.kind==2||t.kind==3
def Tok.isP (t:Tok) (l:List UInt8):Bool:=t.kind==6&&t.text==l
def Tok.infix (t:Tok):Option R:=if t.isAtom||t.isP [44]then opR t.text 3 else none
def R1 (s:List UInt8):Tm:=.mk 2 ⟨s.toArray⟩ 0 []
def fx (n:Int):Tm:=.mk 3 ⟨#[]⟩ n []
def A8 (n:Nat):Tm:=.mk 1 ⟨#[]⟩ (n:Nat) []
def X0 (s:List UInt8) (l:List Tm):Tm:=.mk 4 ⟨s.toArray⟩ 0 l
def I3 (b c:Tok):Bool:=
 if b.kind==8||b.kind==9 then true
 else if b.kind==6 then b.text== [41]||b.text== [93]||b.text== [125]||b.text== [44]||b.text== [124]
 else b.isAtom&&(opR b.text 3).isSome&&(opR b.text 2).isNone&& !(c.kind==7)
def t7 (W:Rdr) (most:Nat):Nat->List Tm->List Tok->Nms->Rd (List Tm)
 |0,l,ts,ns=>.ok l ts ns
 | f+1,l,ts,ns=>
  if(j0 ts).isP [44]then
   if l.length=most then .bad (j0 ts.tail).pos
   else(W 999 ts.tail ns).bind fun t ts' ns'=>t7 W most f (l++ [t]) ts' ns'
  else .ok l ts ns
def Y3 (W:Rdr) (most:Nat) (ts:List Tok) (ns:Nms):Rd (List Tm):=(W 999 ts ns).bind fun t ts' ns'=>t7 W most ts'.length [t] ts' ns'
def J1 (c:List UInt8) (x:Rd Tm):Rd Tm:=x.bind fun t ts ns=>if(j0 ts).isP c then .ok t ts.tail ns else .bad (j0 ts).pos
def z8 (W:Rdr) (ts:List Tok) (ns:Nms):Rd Tm:=if(j0 ts).isP [124]then W 999 ts.tail ns else .ok (R1 [91,93]) ts ns
def G5 (l:List Tm) (e:Tm):Tm:=l.foldr (fun x t=>X0 [46] [x,t]) e
def Vq (W:Rdr) (ts:List Tok) (ns:Nms):Rd Tm:=(Y3 W 4096 ts ns).bind fun l ts' ns'=>(z8 W ts' ns').bind fun e ts'' ns''=>.ok (G5 l e) ts'' ns''
def U4 (W:Rdr) (ts:List Tok) (ns:Nms):Rd Tm:=if(j0 ts).isP [93]then .ok (R1 [91,93]) ts ns else Vq W ts ns
def T5 (W:Rdr) (ts:List Tok) (ns:Nms):Rd Tm:=if(j0 ts).isP [125]then .ok (R1 [123,125]) ts ns else(W 1200 ts ns).bind fun t ts' ns'=>.ok (X0 [123,125] [t]) ts' ns'
def q6 (W:Rdr) (ts:List Tok) (ns:Nms):Rd Tm:=
 if(j0 ts).text== [40]then J1 [41] (W 1200 ts.tail ns)
 else if(j0 ts).text== [91]then J1 [93] (U4 W ts.tail ns)
 else if(j0 ts).text== [123]then J1 [125] (T5 W ts.tail ns)
 else .bad (j0 ts).pos
def LZ (ts:List Tok) (ns:Nms):Rd Tm:=
 if(j0 ts).text∈ns/\(j0 ts).text≠ [95]then .ok (A8 (ns.idxOf (j0 ts).text)) ts.tail ns
 else if ns.length=200 then .bad (j0 ts).pos
 else .ok (A8 ns.length) ts.tail (ns++ [(j0 ts).text])
def YQ (W:Rdr) (s:List UInt8) (ts:List Tok) (ns:Nms):Rd Tm:=J1 [41] ((Y3 W 16 ts ns).bind fun l ts' ns'=>.ok (X0 s l) ts' ns')
def Q5 (W:Rdr) (p:Int) (ts:List Tok) (ns:Nms):Rd (Tm×Int):=
 if(j0 ts.tail).kind=7 then(YQ W (j0 ts).text ts.tail.tail ns).bind fun t ts' ns'=>.ok (t,0) ts' ns'
 else if(j0 ts).kind=3/\(j0 ts).text= [45]/\(j0 ts.tail).kind=5/\(j0 ts.tail).pos=(j0 ts).pos+1 then .ok (fx (wrap64 (-(j0 ts.tail).n)),0) ts.tail.tail ns
 else
  match opR (j0 ts).text 2 with
  |none=>.ok (R1 (j0 ts).text,0) ts.tail ns
  |some r=>
   if I3 (j0 ts.tail) (j0 ts.tail.tail)=true then .ok (R1 (j0 ts).text,0) ts.tail ns
   else if p<r.p then .bad (j0 ts).pos
   else(W (X1 r.k r.p) ts.tail ns).bind fun t ts' ns'=>.ok (X0 (j0 ts).text [t],r.p) ts' ns'
def Yx (x:Rd Tm):Rd (Tm×Int):=x.bind fun t ts ns=>.ok (t,0) ts ns
def P2 (W:Rdr) (p:Int) (ts:List Tok) (ns:Nms):Rd (Tm×Int):=
 if(j0 ts).isAtom then Q5 W p ts ns
 else if(j0 ts).kind=4 then Yx (LZ ts ns)
 else if(j0 ts).kind=6\/(j0 ts).kind=7 then Yx (q6 W ts ns)
 else if(j0 ts).kind=5/\0<=(j0 ts).n then .ok (fx (j0 ts).n,0) ts.tail ns
 else .bad (j0 ts).pos
def z6 (W:Rdr) (p:Int):Nat->Tm->Int->List Tok->Nms->Rd Tm
 |0,t,_,ts,ns=>.ok t ts ns
 | f+1,t,pri,ts,ns=>
  match (j0 ts).infix with
  |none=>.ok t ts ns
  |some r=>
   if p<r.p\/Y4 r.k r.p<pri then .ok t ts ns
   else(W (X1 r.k r.p) ts.tail ns).bind fun u ts' ns'=>z6 W p f (X0 (j0 ts).text [t,u]) r.p ts' ns'
def O7:Nat->Rdr
 |0,_,ts,_=>.bad (j0 ts).pos
 |m+1,p,ts,ns=>(P2 (O7 m) p ts ns).bind fun x ts' ns'=>z6 (O7 m) p ts'.length x.1 x.2 ts' ns'
structure SZ (t:Tok):Prop where
 kind:1<=t.kind/\t.kind<=9
 name:t.isAtom=true->K2 t.text=true
 punct:t.kind=6\/t.kind=7-> ∃b:UInt8,t.text= [b]/\(b=40\/b=41\/b=44\/b=91\/b=93\/b=123\/b=124\/b=125)
 n:In64 t.n
 neg:t.n<0->t.n= -9223372036854775808
 size:t.text.length<=4096
 pos:t.pos<=4096
inductive T0:List Tok->Prop where
 |stop (t:Tok):SZ t->t.kind=9->T0 [t]
 |cons (t:Tok) (l:List Tok):SZ t->t.kind≠9->T0 l->T0 (t::l)
theorem T0.first {ts:List Tok} (h:T0 ts):SZ (j0 ts):=by cases h<;>assumption
theorem T0.tail {ts:List Tok} (h:T0 ts) (a:(j0 ts).kind≠9):T0 ts.tail/\ts.tail.length+1=ts.length:=by
 cases h with
 |stop t _ h9=>exact absurd h9 a
 |cons t l _ _ hl=>exact⟨hl,rfl⟩
theorem T0.pos {ts:List Tok} (h:T0 ts):1<=ts.length:=by cases h<;>simp
theorem T0.two {ts:List Tok} (h:T0 ts) (a:(j0 ts).kind≠9):2<=ts.length:=by
 have:=h.tail a;have:=this.1.pos;omega
theorem U2 {t:Tok} {l:List UInt8} (h:t.isP l=true):t.kind=6/\t.text=l:=by
 unfold Tok.isP at h;simpa using h
theorem L7 {t:Tok} (h:t.isAtom=true):t.kind=1\/t.kind=2\/t.kind=3:=by
 unfold Tok.isAtom at h;simpa [or_assoc]using h
structure OZ (ts:List Tok) (ns:Nms) (ts':List Tok) (ns':Nms) (sz:Nat):Prop where
 fine:T0 ts'
 used:ts'.length+sz<=ts.length
 names:ns'.length<=200
def R2 (W:Rdr) (m:Nat):Prop:= ∀p ts ns t ts' ns',ts.length<=m->T0 ts->ns.length<=200->W p ts ns=.ok t ts' ns'->OZ ts ns ts' ns' t.size
theorem B9 (s:List UInt8):(R1 s).size=1:=rfl
theorem size_int (n:Int):(fx n).size=1:=rfl
theorem size_var (n:Nat):(A8 n).size=1:=rfl
theorem yz (s:List UInt8) (l:List Tm):(X0 s l).size=1+Tm.sizes l:=rfl
theorem Mq:Tm.sizes []=0:=rfl
theorem rQ (s:List UInt8) (t:Tm):(X0 s [t]).size=1+t.size:=by rw [yz,Tm.sizes_cons,Mq];omega
theorem sQ (s:List UInt8) (t u:Tm):(X0 s [t,u]).size=1+t.size+u.size:=by rw [yz,Tm.sizes_cons,Tm.sizes_cons,Mq];omega
theorem BX: ∀(l:List Tm) (e:Tm),(G5 l e).size=l.length+Tm.sizes l+e.size
 | [],e=>by show e.size=0+0+e.size;omega
 |x::l,e=>by
  show(X0 [46] [x,G5 l e]).size=_
  rw [sQ,BX l e,List.length_cons,Tm.sizes_cons];omega
theorem Kz (W:Rdr) (most m:Nat) (a:R2 W m): ∀(f:Nat) (l:List Tm) (ts:List Tok) (ns:Nms) (l':List Tm) (ts':List Tok) (ns':Nms),ts.length<=m->T0 ts->ns.length<=200->t7 W most f l ts ns=.ok l' ts' ns'->
 OZ ts ns ts' ns' 0/\ts'.length+l'.length+Tm.sizes l'<=ts.length+l.length+Tm.sizes l/\l.length<=l'.length/\(l.length<=most->l'.length<=most)
 |0,l,ts,ns,l',ts',ns',hm,hf,hn,h=>by
  injection h with h1 h2 h3;subst h1 h2 h3;exact⟨⟨hf,R_ _,hn⟩,R_ _,R_ _,id⟩
 |f+1,l,ts,ns,l',ts',ns',hm,hf,hn,h=>by
  unfold t7 at h;split at h
  · rename_i hc
    have c:=U2 hc;obtain⟨b,g⟩:=hf.tail (by rw [c.1];decide);split at h
    · cases h
    · obtain⟨t,ts1,ns1,d,h⟩:=Rd.bind_is h;obtain⟨a1,a2,a3⟩:=a _ _ _ _ _ _ (by omega) b hn d;have i:=t.size_pos;obtain⟨⟨b1,b2,b3⟩,b4,b5,b6⟩:=Kz W most m a f _ ts1 ns1 _ _ _ (by omega) a1 a3 h;rw [P_,List.length_singleton,Tm.sizes_append,Tm.sizes_cons,Mq]at b4;rw [P_,List.length_singleton]at b5 b6;exact⟨⟨b1,by omega,b3⟩,by omega,by omega,fun h=>b6 (by omega)⟩
  · injection h with h1 h2 h3;subst h1 h2 h3;exact⟨⟨hf,R_ _,hn⟩,R_ _,R_ _,id⟩
theorem D4 {W:Rdr} {m most:Nat} (a:R2 W m) (b:1<=most) {ts:List Tok} {ns:Nms} {l':List Tm} {ts':List Tok} {ns':Nms} (d:ts.length<=m) (c:T0 ts) (g:ns.length<=200) (h:Y3 W most ts ns=.ok l' ts' ns'):
 OZ ts ns ts' ns' 0/\ts'.length+l'.length+Tm.sizes l'<=ts.length+1/\1<=l'.length/\l'.length<=most:=by
 unfold Y3 at h;obtain⟨t,ts1,ns1,i,h⟩:=Rd.bind_is h;obtain⟨a1,a2,a3⟩:=a _ _ _ _ _ _ d c g i;have j:=t.size_pos;obtain⟨⟨b1,b2,b3⟩,b4,b5,b6⟩:=Kz W most m a _ _ ts1 ns1 _ _ _ (by omega) a1 a3 h;rw [List.length_singleton,Tm.sizes_cons,Mq]at b4;rw [List.length_singleton]at b5 b6;exact⟨⟨b1,by omega,b3⟩,by omega,by omega,b6 b⟩
theorem i8 {c:List UInt8} {x:Rd Tm} {t:Tm} {ts:List Tok} {ns:Nms} (h:J1 c x=.ok t ts ns): ∃ts',x=.ok t ts' ns/\(j0 ts').isP c=true/\ts=ts'.tail:=by
 unfold J1 at h;obtain⟨t',ts',ns',hx,h⟩:=Rd.bind_is h;split at h
 · rename_i hc
   injection h with h1 h2 h3;subst h1 h2 h3;exact⟨ts',hx,hc,rfl⟩
 · cases h
theorem varR_left {ts:List Tok} {ns:Nms} {t:Tm} {ts':List Tok} {ns':Nms} (a:T0 ts) (b:(j0 ts).kind≠9) (c:ns.length<=200) (h:LZ ts ns=.ok t ts' ns'):OZ ts ns ts' ns' t.size:=by
 obtain⟨b1,b2⟩:=a.tail b;unfold LZ at h;split at h
 · injection h with h1 h2 h3;subst h1 h2 h3;exact⟨b1,by rw [size_var];omega,c⟩
 · split at h
   · cases h
   · injection h with h1 h2 h3;subst h1 h2 h3;exact⟨b1,by rw [size_var];omega,by rw [P_,List.length_singleton];omega⟩
theorem gq {c:List UInt8} {x:Rd Tm} {ts0 ts:List Tok} {ns:Nms} (d:ts.length+1=ts0.length) (hx: ∀t ts' ns',x=.ok t ts' ns'->T0 ts'/\ts'.length+t.size<=ts.length+2/\ns'.length<=200) {t:Tm} {ts':List Tok} {ns':Nms} (h:J1 c x=.ok t ts' ns'):OZ ts0 ns ts' ns' t.size:=by
 obtain⟨ts1,a,b,rfl⟩:=i8 h;obtain⟨a1,a2,a3⟩:=hx _ _ _ a;obtain⟨b1,b2⟩:=a1.tail (by rw [(U2 b).1];decide);exact⟨b1,by omega,a3⟩
theorem JQ {W:Rdr} {m:Nat} (b:R2 W m) {ts:List Tok} {ns:Nms} {t:Tm} {ts':List Tok} {ns':Nms} (k:ts.length<=m+1) (i:T0 ts) (j:(j0 ts).kind≠9) (a:ns.length<=200) (h:q6 W ts ns=.ok t ts' ns'):OZ ts ns ts' ns' t.size:=by
 obtain⟨b1,b2⟩:=i.tail j;unfold q6 at h;split at h
 · refine gq b2 (fun t ts' ns' h=>?_) h;obtain⟨a1,a2,a3⟩:=b _ _ _ _ _ _ (by omega) b1 a h;exact⟨a1,by omega,a3⟩
 split at h
 · refine gq b2 (fun t ts' ns' h=>?_) h;unfold U4 at h;split at h
   · injection h with h1 h2 h3;subst h1 h2 h3;exact⟨b1,by rw [B9];omega,a⟩
   · unfold Vq at h;obtain⟨l,ts1,ns1,d,h⟩:=Rd.bind_is h;obtain⟨⟨c1,c2,c3⟩,c4,c5,c6⟩:=D4 b (by decide) (by omega) b1 a d;obtain⟨e,ts2,ns2,c,h⟩:=Rd.bind_is h;injection h with h1 h2 h3;subst h1 h2 h3;rw [BX];unfold z8 at c;split at c
     · rename_i g
       obtain⟨d1,d2⟩:=c1.tail (by rw [(U2 g).1];decide);obtain⟨a1,a2,a3⟩:=b _ _ _ _ _ _ (by omega) d1 c3 c;exact⟨a1,by omega,a3⟩
     · injection c with h1 h2 h3;subst h1 h2 h3;exact⟨c1,by rw [B9];omega,c3⟩
 split at h
 · refine gq b2 (fun t ts' ns' h=>?_) h;unfold T5 at h;split at h
   · injection h with h1 h2 h3;subst h1 h2 h3;exact⟨b1,by rw [B9];omega,a⟩
   · obtain⟨t,ts1,ns1,d,h⟩:=Rd.bind_is h;obtain⟨a1,a2,a3⟩:=b _ _ _ _ _ _ (by omega) b1 a d;injection h with h1 h2 h3;subst h1 h2 h3;exact⟨a1,by rw [rQ];omega,a3⟩
 · cases h
theorem A2 {t:Tok} (h:t.isAtom=true):t.kind≠9:=by rcases L7 h with h|h|h<;>rw [h]<;>decide
theorem CJ {W:Rdr} {m:Nat} (g:R2 W m) {p:Int} {ts:List Tok} {ns:Nms} {x:Tm×Int} {ts':List Tok} {ns':Nms} (o:ts.length<=m+1) (k:T0 ts) (n:(j0 ts).isAtom=true) (c:ns.length<=200) (h:Q5 W p ts ns=.ok x ts' ns'):OZ ts ns ts' ns' x.1.size:=by
 obtain⟨b1,b2⟩:=k.tail (A2 n);unfold Q5 at h;split at h
 · rename_i j
   obtain⟨d1,d2⟩:=b1.tail (by rw [j];decide);obtain⟨t,ts1,ns1,hx,h⟩:=Rd.bind_is h;injection h with a b h3;subst a b h3;unfold YQ at hx;obtain⟨ts2,a,b,rfl⟩:=i8 hx;obtain⟨l,ts3,ns3,d,a⟩:=Rd.bind_is a;injection a with a h3 h4;subst a h3 h4;obtain⟨⟨c1,c2,c3⟩,c4,c5,c6⟩:=D4 g (by decide) (by omega) d1 c d;obtain⟨e1,e2⟩:=c1.tail (by rw [(U2 b).1];decide);exact⟨e1,by rw [yz];omega,c3⟩
 split at h
 · rename_i i
   obtain⟨d1,d2⟩:=b1.tail (by rw [i.2.2.1];decide);injection h with a b h3;subst a b h3;exact⟨d1,by rw [size_int];omega,c⟩
 split at h
 · injection h with a b h3;subst a b h3;exact⟨b1,by rw [B9];omega,c⟩
 split at h
 · injection h with a b h3;subst a b h3;exact⟨b1,by rw [B9];omega,c⟩
 split at h
 · cases h
 · obtain⟨t,ts1,ns1,d,h⟩:=Rd.bind_is h;obtain⟨a1,a2,a3⟩:=g _ _ _ _ _ _ (by omega) b1 c d;injection h with a b h3;subst a b h3;exact⟨a1,by rw [rQ];omega,a3⟩
theorem Zx {y:Rd Tm} {x:Tm×Int} {ts:List Tok} {ns:Nms} (h:Yx y=.ok x ts ns):y=.ok x.1 ts ns/\x.2=0:=by
 unfold Yx at h;obtain⟨t,ts1,ns1,a,h⟩:=Rd.bind_is h;injection h with h1 h2 h3;subst h1 h2 h3;exact⟨a,rfl⟩
theorem D8 {W:Rdr} {m:Nat} (d:R2 W m) {p:Int} {ts:List Tok} {ns:Nms} {x:Tm×Int} {ts':List Tok} {ns':Nms} (g:ts.length<=m+1) (b:T0 ts) (c:ns.length<=200) (h:P2 W p ts ns=.ok x ts' ns'):OZ ts ns ts' ns' x.1.size:=by
 unfold P2 at h;split at h
 · exact CJ d g b (by assumption) c h
 split at h
 · rename_i i
   exact varR_left b (by rw [i];decide) c (Zx h).1
 split at h
 · rename_i a
   exact JQ d g b (by rcases a with a|a<;>rw [a]<;>decide) c (Zx h).1
 split at h
 · rename_i j
   obtain⟨b1,b2⟩:=b.tail (by rw [j.1];decide);injection h with h1 h2 h3;subst h1 h2 h3;exact⟨b1,by rw [size_int];omega,c⟩
 · cases h
theorem L9 {t:Tok} {r:R} (h:t.infix=some r):t.kind≠9:=by
 unfold Tok.infix at h;split at h
 · rename_i hc
   simp only [Bool.or_eq_true]at hc
   rcases hc with hc|hc
   · exact A2 hc
   · rw [(U2 hc).1];decide
 · cases h
theorem Wj {W:Rdr} {m:Nat} (a:R2 W m) (p:Int): ∀(f:Nat) (t:Tm) (pri:Int) (ts:List Tok) (ns:Nms) (t':Tm) (ts':List Tok) (ns':Nms),ts.length<=m+1->T0 ts->ns.length<=200->z6 W p f t pri ts ns=.ok t' ts' ns'->
 T0 ts'/\ts'.length+t'.size<=ts.length+t.size/\ns'.length<=200
 |0,t,pri,ts,ns,t',ts',ns',hm,hf,hn,h=>by
  injection h with h1 h2 h3;subst h1 h2 h3;exact⟨hf,R_ _,hn⟩
 |f+1,t,pri,ts,ns,t',ts',ns',hm,hf,hn,h=>by
  unfold z6 at h;split at h
  · injection h with h1 h2 h3;subst h1 h2 h3;exact⟨hf,R_ _,hn⟩
  · rename_i r c
    split at h
    · injection h with h1 h2 h3;subst h1 h2 h3;exact⟨hf,R_ _,hn⟩
    · obtain⟨b1,b2⟩:=hf.tail (L9 c);obtain⟨u,ts1,ns1,b,h⟩:=Rd.bind_is h;obtain⟨a1,a2,a3⟩:=a _ _ _ _ _ _ (by omega) b1 hn b;obtain⟨c1,c2,c3⟩:=Wj a p f _ _ ts1 ns1 _ _ _ (by omega) a1 a3 h;rw [sQ]at c2;exact⟨c1,by omega,c3⟩
theorem j5: ∀(m:Nat),R2 (O7 m) m
 |0=>fun p ts ns t ts' ns' b a _ _=>absurd a.pos (by omega)
 |m+1=>fun p ts ns t ts' ns' b a d h=>by
  unfold O7 at h;obtain⟨x,ts1,ns1,c,h⟩:=Rd.bind_is h;obtain⟨a1,a2,a3⟩:=D8 (j5 m) b a d c;obtain⟨c1,c2,c3⟩:=Wj (j5 m) p _ _ _ ts1 ns1 _ _ _ (by omega) a1 a3 h;exact⟨c1,by omega,c3⟩
end Go.Proofs.YtinefdlkajnomaaGreatDoor
