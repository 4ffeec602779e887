import Derived.Test.YtinefdlkajnomaaGreatDoorMTermVs
import Derived.Test.YtinefdlkajnomaaGreatDoorMTermMay
import Derived.Test.YtinefdlkajnomaaGreatDoorMTkM
import Derived.Deep.RegionHeld3
import Derived.Test.YtinefdlkajnomaaGreatDoorMTermDevCS
import Derived.Test.YtinefdlkajnomaaGreatDoorMIterAll
import Derived.Lib.BufferMore
import Derived.Maps.OwnSet
import Derived.Maps.Views
import Derived.Maps.OwnIn
import Derived.Test.YtinefdlkajnomaaGreatDoorMRdF
import Derived.WalkSmall
import Derived.Deep.AppendLies
namespace Go.Proofs.YtinefdlkajnomaaGreatDoor
open Go.RowKit
set_option maxHeartbeats 20000000
def Z6 (s:List UInt8) (n:Nat):Bool:=
 (decide (n=1)&&(decide (s= [92,43])||(decide (s= [58,45])||decide (s= [63,45]))))||
 (decide (n=2)&&(decide (s= [44])||(decide (s= [59])||(decide (s= [45,62])||decide (s= [58,45])))))
def V7 (k:Int) (s:List UInt8) (n:Nat):Bool:=(decide (k=2)||decide (k=4))&&!Z6 s n
def Tm.goal (t:Tm):Bool:=V7 t.kind t.name.data.toList t.args.length
def Zq (n:Int):List (List UInt8):=
 if n=0 then [[116,114,117,101],[102,97,105,108],[33]]
 else if n=1 then [[118,97,114],[110,111,110,118,97,114],[97,116,111,109],[105,110,116,101,103,101,114],[97,116,111,109,105,99],[99,111,109,112,111,117,110,100]]
 else if n=2 then [[61],[92,61],[61,61],[92,61,61],[64,60],[64,61,60],[64,62],[64,62,61],[61,46,46],[105,115],[61,58,61],[61,92,61],[60],[61,60],[62],[62,61]]
 else if n=3 then [[102,117,110,99,116,111,114],[97,114,103]]
 else []
def m4 (s:List UInt8) (n:Int):Bool:=(Zq n).any fun t=>t==s
def Tm.head (t:Tm):Bool:=t.goal&&!m4 t.name.data.toList t.args.length
def D9 (s0:List UInt8) (k:Int) (s:List UInt8) (n:Nat):Bool:=decide (k=4)&&(decide (s=s0)&&decide (n=2))
def Tm.two (s0:List UInt8) (t:Tm):Bool:=D9 s0 t.kind t.name.data.toList t.args.length
mutual
def Tm.body:Tm->List Tm
 | .mk k s n l=>if D9 [44] k s.data.toList l.length=true then Tm.bodys l else [.mk k s n l]
def Tm.bodys:List Tm->List Tm
 | []=> []
 |t::l=>t.body++Tm.bodys l
end
theorem Tm.bodys_flat (l:List Tm):Tm.bodys l=l.flatMap Tm.body:=by
 induction l with
 |nil=>rfl
 |cons t l ih=>show t.body++Tm.bodys l=_;rw [ih,List.flatMap_cons]
theorem Tm.body_eq (t:Tm):t.body=if t.two [44]=true then t.args.flatMap Tm.body else [t]:=by
 cases t with
 |mk k s n l=>rw [<-Tm.bodys_flat];rfl
theorem Tm.two_args {s0:List UInt8} {t:Tm} (h:t.two s0=true): ∃a b,t.args= [a,b]:=by
 unfold Tm.two D9 at h;simp at h
 have c:=h.2.2;match hl:t.args,c with
 | [a,b],_=>exact⟨a,b,rfl⟩
theorem Tm.two_kind {s0:List UInt8} {t:Tm} (h:t.two s0=true):t.kind=4/\t.name.data.toList=s0/\t.args.length=2:=by
 unfold Tm.two D9 at h;simp at h
 exact h
theorem Tm.body_two {t a b:Tm} (h:t.two [44]=true) (c:t.args= [a,b]):t.body=a.body++b.body:=by
 rw [Tm.body_eq,J_ h,c];simp
theorem Tm.body_one {t:Tm} (h:t.two [44]=false):t.body= [t]:=by
 rw [Tm.body_eq,I_ (by rw [h];nofun)]
def S8:List Int->Int->Nat
 | [],_=>0
 |k::l,n=>if k=n then 0 else S8 l n+1
def S3 (l:List Int) (n:Int):Int:=if n∈l then(S8 l n:Nat)else 0
mutual
def Tm.numT (L:List Int):Tm->Tm
 | .mk k s n l=>.mk k s (if k=1 then S3 L n else n) (Tm.numTs L l)
def Tm.numTs (L:List Int):List Tm->List Tm
 | []=> []
 |t::l=>t.numT L::Tm.numTs L l
end
theorem Tm.numTs_map (L:List Int) (l:List Tm):Tm.numTs L l=l.map (Tm.numT L):=by
 induction l with
 |nil=>rfl
 |cons t l ih=>show t.numT L::Tm.numTs L l=_;rw [ih];rfl
theorem Tm.numT_eq (L:List Int) (t:Tm):t.numT L=.mk t.kind t.name (if t.kind=1 then S3 L t.n else t.n) (t.args.map (Tm.numT L)):=by
 cases t with
 |mk k s n l=>rw [<-Tm.numTs_map];rfl
theorem Tm.numT_kind (L:List Int) (t:Tm):(t.numT L).kind=t.kind:=by cases t;rfl
theorem Tm.numT_name (L:List Int) (t:Tm):(t.numT L).name=t.name:=by cases t;rfl
theorem Tm.numT_args (L:List Int) (t:Tm):(t.numT L).args=t.args.map (Tm.numT L):=by rw [Tm.numT_eq];rfl
theorem Tm.numT_n (L:List Int) (t:Tm):(t.numT L).n=if t.kind=1 then S3 L t.n else t.n:=by rw [Tm.numT_eq];rfl
theorem Tm.numT_len (L:List Int) (t:Tm):(t.numT L).args.length=t.args.length:=by rw [Tm.numT_args,List.length_map]
theorem Tm.numT_goal (L:List Int) (t:Tm):(t.numT L).goal=t.goal:=by unfold Tm.goal;rw [Tm.numT_kind,Tm.numT_name,Tm.numT_len]
theorem Tm.numT_head (L:List Int) (t:Tm):(t.numT L).head=t.head:=by unfold Tm.head;rw [Tm.numT_goal,Tm.numT_name,Tm.numT_len]
theorem Tm.numT_two (s0:List UInt8) (L:List Int) (t:Tm):(t.numT L).two s0=t.two s0:=by unfold Tm.two;rw [Tm.numT_kind,Tm.numT_name,Tm.numT_len]
theorem Tm.bySize {p:Tm->Prop} (h: ∀t:Tm,(∀a∈t.args,p a)->p t) (t:Tm):p t:=by
 have key: ∀m (t:Tm),t.size<=m->p t:=by
  intro m;induction m with
  |zero=>intro t c;have:=t.size_pos;omega
  |succ m ih=>
   intro t c;refine h t fun a b=>ih a ?_;have:=Tm.mem_size b;have:=t.size_eq;omega
 exact key _ t (R_ _)
theorem Ij {b:Type} {f g:Tm->List b} {l:List Tm} (h: ∀a∈l,f a=g a):l.flatMap f=l.flatMap g:=by
 induction l with
 |nil=>rfl
 |cons a l ih=>rw [List.flatMap_cons,List.flatMap_cons,h a (.head _),ih fun b c=>h b (.tail _ c)]
theorem Tm.body_numT (L:List Int) (t:Tm):(t.numT L).body=t.body.map (Tm.numT L):=by
 induction t using Tm.bySize with
 |h t ih=>
  rw [Tm.body_eq,Tm.body_eq t,Tm.numT_two];by_cases h:t.two [44]=true
  · rw [J_ h,J_ h,Tm.numT_args,List.flatMap_map,List.map_flatMap];exact Ij fun a b=>ih a b
  · rw [I_ h,I_ h];rfl
theorem Tm.body_places (t:Tm):t.body.flatMap Tm.places=t.places:=by
 induction t using Tm.bySize with
 |h t ih=>
  rw [Tm.body_eq];by_cases h:t.two [44]=true
  · rw [J_ h,List.flatMap_assoc,Tm.places_eq t,I_ (by rw [(Tm.two_kind h).1];decide),List.nil_append];exact Ij fun a b=>ih a b
  · rw [I_ h];simp
theorem Tm.body_pos (t:Tm):1<=t.body.length:=by
 induction t using Tm.bySize with
 |h t ih=>
  rw [Tm.body_eq];by_cases h:t.two [44]=true
  · obtain⟨a,b,c⟩:=Tm.two_args h;rw [J_ h,c];have:=ih a (by rw [c];simp);simp
    omega
  · rw [I_ h];exact R_ _
theorem Tm.body_sizes (t:Tm):Tm.sizes t.body<=t.size:=by
 induction t using Tm.bySize with
 |h t ih=>
  rw [Tm.body_eq];by_cases h:t.two [44]=true
  · obtain⟨a,b,c⟩:=Tm.two_args h;rw [J_ h,c,Tm.size_eq,c];have d:=ih a (by rw [c];simp);have g:=ih b (by rw [c];simp);simp only [List.flatMap_cons,List.flatMap_nil,List.append_nil,Tm.sizes_append]
    show _<=1+(a.size+(b.size+0))
    omega
  · rw [I_ h];show t.size+0<=_;omega
theorem Tm.body_length (t:Tm):t.body.length<=t.size:=Nat.le_trans (Tm.length_le_sizes _) t.body_sizes
theorem K6: ∀(l L:List Int),∃R,I0 L l=L++R
 | [],L=>⟨[],by simp [I0]⟩
 |n::l,L=>by
  unfold I0;split
  · exact K6 l L
  · obtain⟨R,h⟩:=K6 l (L++ [n]);exact⟨[n]++R,by rw [h,List.append_assoc]⟩
theorem Kj (l:List Int) (n:Int):j9 l n=true↔n∈l:=by
 unfold j9;rw [List.any_eq_true];constructor
 · rintro⟨x,a,b⟩;rw [<-beq_iff_eq.1 b];exact a
 · intro h;exact⟨n,h,beq_self_eq_true n⟩
theorem l8: ∀(l L:List Int) (x:Int),x∈L\/x∈l->x∈I0 L l
 | [],L,x,h=>by unfold I0;simpa using h
 |n::l,L,x,h=>by
  unfold I0;split
  · rename_i a
    refine l8 l L x ?_;rcases h with h|h
    · exact .inl h
    · rcases List.mem_cons.1 h with rfl|h
      · exact .inl ((Kj L x).1 a)
      · exact .inr h
  · refine l8 l (L++ [n]) x ?_;rcases h with h|h
    · exact .inl (by simp [h])
    · rcases List.mem_cons.1 h with rfl|h
      · exact .inl (by simp)
      · exact .inr h
theorem L5: ∀(a b L:List Int),I0 L (a++b)=I0 (I0 L a) b
 | [],b,L=>rfl
 |n::a,b,L=>by
  show(if j9 L n then I0 L (a++b)else I0 (L++ [n]) (a++b))=I0 (if j9 L n then I0 L a else I0 (L++ [n]) a) b
  split
  · exact L5 a b L
  · exact L5 a b (L++ [n])
theorem U5: ∀(l L:List Int),(I0 L l).length<=L.length+l.length
 | [],L=>by unfold I0;simp
 |n::l,L=>by
  unfold I0;split
  · have:=U5 l L;rw [List.length_cons];omega
  · have:=U5 l (L++ [n]);rw [P_]at this;simp at this⊢;omega
theorem Tm.vars_size (t:Tm):t.vars.length<=t.size:=by
 have:=U5 t.places [];have:=t.places_size;unfold Tm.vars once;simp at*
 omega
theorem placeN_app (L R:List Int) (n:Int) (h:n∈L):S8 (L++R) n=S8 L n:=by
 induction L with
 |nil=>cases h
 |cons k L ih=>
  show(if k=n then 0 else S8 (L++R) n+1)=if k=n then 0 else S8 L n+1
  by_cases e:k=n
  · rw [J_ e,J_ e]
  · rw [I_ e,I_ e,ih (by rcases List.mem_cons.1 h with rfl|h;exact absurd rfl e;exact h)]
theorem lx (L R:List Int) (n:Int) (h:n∈L):S3 (L++R) n=S3 L n:=by
 unfold S3;rw [J_ h,J_ (List.mem_append_left _ h),placeN_app L R n h]
theorem placeN_at (L:List Int) (n:Int) (k:Nat) (a:k<L.length) (h:L[k]=n) (b: ∀j (d:j<k),L[j]'(by omega)≠n):S8 L n=k:=by
 induction L generalizing k with
 |nil=>simp at a
 | cons x L ih=>
  cases k with
  |zero=>show(if x=n then 0 else _)=_;rw [J_ (by simpa using h)]
  |succ k=>
   have c:=b 0 (by omega);show(if x=n then 0 else S8 L n+1)=_
   rw [I_ (by simpa using c),ih k (by simpa using a) (by simpa using h) (fun j d=>by simpa using b (j+1) (by omega))]
theorem qX (L:List Int) (n:Int) (k:Nat) (a:k<L.length) (h:L[k]=n) (b: ∀j (c:j<k),L[j]'(by omega)≠n):S3 L n=k:=by
 unfold S3;rw [J_ (by rw [<-h];exact List.getElem_mem a),placeN_at L n k a h b]
theorem placeN_lt (L:List Int) (n:Int) (h:n∈L):S8 L n<L.length:=by
 induction L with
 |nil=>cases h
 |cons k L ih=>
  show(if k=n then 0 else S8 L n+1)<_
  by_cases e:k=n
  · rw [J_ e];simp
  · rw [I_ e];have:=ih (by rcases List.mem_cons.1 h with rfl|h;exact absurd rfl e;exact h);simp;omega
theorem Nz (L:List Int) (n:Int) (h:n∉L):S3 (L++ [n]) n=L.length:=by
 refine qX _ n L.length (by simp) (by simp) fun j a e=>h ?_;rw [<-e,List.getElem_append_left a];exact List.getElem_mem a
theorem mx (L:List Int) (n:Int):0<=S3 L n/\S3 L n<=L.length:=by
 unfold S3;split
 · rename_i h;have:=placeN_lt L n h;omega
 · omega
theorem Tm.numT_stay (L R:List Int) (t:Tm) (h: ∀x∈t.places,x∈L):t.numT (L++R)=t.numT L:=by
 induction t using Tm.bySize with
 |h t ih=>
  rw [Tm.numT_eq,Tm.numT_eq L];rw [Tm.places_eq]at h;have e1:t.args.map (Tm.numT (L++R))=t.args.map (Tm.numT L):=List.map_congr_left fun a c=>ih a c fun x hx=>h x (List.mem_append_right _ (List.mem_flatMap.2 ⟨a,c,hx⟩));rw [e1];by_cases b:t.kind=1
  · rw [J_ b,J_ b,lx L R t.n (h _ (by rw [J_ b];simp))]
  · rw [I_ b,I_ b]
theorem Tm.numT_more (t:Tm) (L l:List Int):t.numT (I0 (I0 L t.places) l)=t.numT (I0 L t.places):=by
 obtain⟨R,h⟩:=K6 l (I0 L t.places);rw [h];exact Tm.numT_stay _ R t fun x hx=>l8 _ _ _ (.inr hx)
theorem Tm.numT_size (L:List Int) (t:Tm):(t.numT L).size=t.size:=by
 induction t using Tm.bySize with
 | h t ih=>
  rw [Tm.size_eq,Tm.size_eq t,Tm.numT_args];have: ∀l:List Tm,(∀a∈l,(a.numT L).size=a.size)->Tm.sizes (l.map (Tm.numT L))=Tm.sizes l:=by
   intro l;induction l with
   |nil=>intro _;rfl
   |cons a l ihl=>intro h;rw [List.map_cons,Tm.sizes_cons,Tm.sizes_cons,h a (.head _),ihl fun b c=>h b (.tail _ c)]
  rw [this _ ih]
theorem Tm.numT_deep (L:List Int) (t:Tm):(t.numT L).deep=t.deep:=by
 induction t using Tm.bySize with
 | h t ih=>
  rw [Tm.deep_eq,Tm.deep_eq t,Tm.numT_args];have: ∀l:List Tm,(∀a∈l,(a.numT L).deep=a.deep)->Tm.deeps (l.map (Tm.numT L))=Tm.deeps l:=by
   intro l;induction l with
   |nil=>intro _;rfl
   |cons a l ihl=>intro h;show max (a.numT L).deep (Tm.deeps (l.map (Tm.numT L)))=max a.deep (Tm.deeps l);rw [h a (.head _),ihl fun b c=>h b (.tail _ c)]
  rw [this _ ih]
theorem Tm.numT_may (L:List Int) (t:Tm) (h:t.may=true):(t.numT L).may=true:=by
 induction t using Tm.bySize with
 |h t ih=>
  rw [Tm.may_eq]at h;rw [Tm.may_eq,Tm.numT_kind,Tm.numT_name,Tm.numT_len,Tm.numT_n,Tm.numT_args];unfold p9 at h⊢;by_cases b:t.kind=1
  · rw [J_ b]at h⊢;rw [J_ b,decide_eq_true (mx L t.n).1];simp at h⊢
    exact h.2
  rw [I_ b]at h⊢;rw [I_ b];by_cases c:t.kind=2
  · rw [J_ c]at h⊢;exact h
  rw [I_ c]at h⊢;by_cases d:t.kind=3
  · rw [J_ d]at h⊢;exact h
  rw [I_ d]at h⊢;by_cases g:t.kind=4
  · rw [J_ g]at h⊢;simp at h⊢
    refine⟨h.1,h.2.1,h.2.2.1,h.2.2.2.1,?_⟩;have i:=h.2.2.2.2;rw [Tm.mays_all]at i⊢;rw [List.all_map,List.all_eq_true];intro a j;exact ih a j (List.all_eq_true.1 i a j)
  · rw [I_ g]at h;cases h
theorem Tm.chk_may {t:Tm} (h:t.chk=0):t.may=true/\t.deep<=60:=by
 unfold Tm.chk at h;split at h
 · rename_i a
   split at h
   · cases h
   · exact⟨a,by omega⟩
 · cases h
theorem Tm.chk_of {t:Tm} (h:t.may=true) (a:t.deep<=60):t.chk=0:=by
 unfold Tm.chk;rw [J_ h,I_ (by omega)]
theorem Tm.numT_chk (L:List Int) {t:Tm} (h:t.chk=0):(t.numT L).chk=0:=by
 obtain⟨a,b⟩:=Tm.chk_may h;exact Tm.chk_of (Tm.numT_may L t a) (by rw [Tm.numT_deep];exact b)
theorem Tm.deep_arg {t a:Tm} (h:a∈t.args):a.deep<t.deep:=by
 have: ∀l:List Tm,a∈l->a.deep<=Tm.deeps l:=by
  intro l;induction l with
  |nil=>intro h;cases h
  |cons x l ih=>
   intro h;show _<=max x.deep (Tm.deeps l)
   rcases List.mem_cons.1 h with rfl|h
   · omega
   · have:=ih h;omega
 have:=this _ h;rw [Tm.deep_eq t];omega
theorem Tm.may_arg {t a:Tm} (h:t.may=true) (b:a∈t.args):a.may=true:=by
 rw [Tm.may_eq]at h;unfold p9 at h;have none: ∀ {q:Prop},t.args= []->q:=fun e=>by rw [e]at b;cases b
 split at h
 · simp at h;exact none h.2.2
 split at h
 · simp at h;exact none h.2.2
 split at h
 · simp at h;exact none h.2
 split at h
 · simp at h
   have c:=h.2.2.2.2;rw [Tm.mays_all]at c;exact List.all_eq_true.1 c a b
 · cases h
theorem Tm.chk_arg {t a:Tm} (h:t.chk=0) (b:a∈t.args):a.chk=0:=by
 obtain⟨c,d⟩:=Tm.chk_may h;have:=Tm.deep_arg b;exact Tm.chk_of (Tm.may_arg c b) (by omega)
structure Cl where
 head:Tm
 body:List Tm
 vars:Int
def Cl.none:Cl:=⟨.mk 0 ⟨#[]⟩ 0 [],[],0⟩
def Tm.goalsE (t:Tm):List Tm×Int:=if t.chk≠0 then([],t.chk)else if t.body.all Tm.goal=true then(t.body,0)else([],80)
def Tm.chead (t:Tm):Tm:=if t.two [58,45]=true then t.args.headD t else t
def Tm.cbody (t:Tm):List Tm:=if t.two [58,45]=true then(t.args.tail.headD t).body else []
def Tm.make (t:Tm):Cl×Int:=
 if t.chk≠0 then(Cl.none,t.chk)
 else if t.chead.head=true/\t.cbody.all Tm.goal=true then(⟨t.chead.numT t.vars,t.cbody.map (Tm.numT t.vars),t.vars.length⟩,0)
 else(Cl.none,80)
def conj:List Tm->Tm
 | []=>.mk 0 ⟨#[]⟩ 0 []
 | [t]=>t
 |t::u::l=>.mk 4 ⟨#[44]⟩ 0 [t,conj (u::l)]
def Cl.tm (c:Cl):Tm:=if c.body= []then c.head else .mk 4 ⟨#[58,45]⟩ 0 [c.head,conj c.body]
def findGo (s:ByteArray) (n:Int):Nat->List Cl->List Int
 |_,[]=> []
 |k,c::l=>if c.head.name=s/\(c.head.args.length:Int)=n then(k:Int)::findGo s n (k+1) l else findGo s n (k+1) l
theorem L3 {s:ByteArray} {l:List UInt8} (h:s.data.toList≠l):(s.toList==l)=false:=by rw [ByteArray.toList_eq];exact beq_eq_false_iff_ne.2 h
theorem M3 {s:ByteArray} {l:List UInt8} (h:s.data.toList=l):(s.toList==l)=true:=by rw [ByteArray.toList_eq,h];exact beq_self_eq_true l
set_option maxRecDepth 100000 in
theorem cl_isPairC (k n:Int) (s:ByteArray) (ad:Option Addr) (len cap:Nat) (w:World):
 Calls Tryz.prog 38 #[.agg #[.int .i64 k,.string s,.int .i64 n,.slice ad len cap],.string ⟨#[44]⟩] w fun e w'=>e=.returned (.bool (D9 [44] k s.data.toList len))/\Below w.heap.size w w':=by
 have b:=D_ (fun o:Obj=>(F_ w.heap.size w).alloc (R_ _) o);unfold D9;by_cases c:k=4
 · subst c;by_cases a:s.data.toList= [44]
   · have g:=M3 a;rw [decide_eq_true a];by_cases d:len=2
     · subst d;clear a;go_enter Tryz.func38,Tryz.ntmps38;go_wp2_with fail;go_ret;exact⟨rfl,b.out _⟩
     · rw [decide_eq_false d];have i:((len:Int)==2)=false:=by simp;omega
       clear a d;go_enter Tryz.func38,Tryz.ntmps38;go_wp2_with fail;go_ret;exact⟨rfl,b.out _⟩
   · have g:=L3 a;rw [decide_eq_false a];clear a;go_enter Tryz.func38,Tryz.ntmps38;go_wp2_with fail;go_ret;exact⟨rfl,b.out _⟩
 · have h:(k==4)=false:=by simpa using c
   rw [decide_eq_false c];clear c;go_enter Tryz.func38,Tryz.ntmps38;go_wp2_with fail;go_ret;exact⟨rfl,b.out _⟩
set_option maxRecDepth 100000 in
theorem cl_isPairR (k n:Int) (s:ByteArray) (ad:Option Addr) (len cap:Nat) (w:World):
 Calls Tryz.prog 38 #[.agg #[.int .i64 k,.string s,.int .i64 n,.slice ad len cap],.string ⟨#[58,45]⟩] w fun e w'=>e=.returned (.bool (D9 [58,45] k s.data.toList len))/\Below w.heap.size w w':=by
 have b:=D_ (fun o:Obj=>(F_ w.heap.size w).alloc (R_ _) o);unfold D9;by_cases c:k=4
 · subst c;by_cases a:s.data.toList= [58,45]
   · have g:=M3 a;rw [decide_eq_true a];by_cases d:len=2
     · subst d;clear a;go_enter Tryz.func38,Tryz.ntmps38;go_wp2_with fail;go_ret;exact⟨rfl,b.out _⟩
     · rw [decide_eq_false d];have i:((len:Int)==2)=false:=by simp;omega
       clear a d;go_enter Tryz.func38,Tryz.ntmps38;go_wp2_with fail;go_ret;exact⟨rfl,b.out _⟩
   · have g:=L3 a;rw [decide_eq_false a];clear a;go_enter Tryz.func38,Tryz.ntmps38;go_wp2_with fail;go_ret;exact⟨rfl,b.out _⟩
 · have h:(k==4)=false:=by simpa using c
   rw [decide_eq_false c];clear c;go_enter Tryz.func38,Tryz.ntmps38;go_wp2_with fail;go_ret;exact⟨rfl,b.out _⟩
theorem dec_int (n k:Nat):decide (n=k)=((n:Int)==(k:Int)):=by
 by_cases h:n=k
 · rw [decide_eq_true h,h];exact(beq_self_eq_true _).symm
 · rw [decide_eq_false h];exact(beq_eq_false_iff_ne.2 (by omega)).symm
set_option maxRecDepth 100000 in
theorem PX (s:ByteArray) (n:Nat) (w:World):
 Calls Tryz.prog 75 #[.string s,.int .i64 (n:Int)] w fun e w'=>e=.returned (.bool (Z6 s.data.toList n))/\w=w':=by
 obtain⟨c1,g1⟩: ∃b,((n:Int)==1)=b:=⟨_,rfl⟩;obtain⟨c2,g2⟩: ∃b,((n:Int)==2)=b:=⟨_,rfl⟩;have d1:decide (n=1)=c1:=(dec_int n 1).trans g1;have d2:decide (n=2)=c2:=(dec_int n 2).trans g2;by_cases a:s.data.toList= [44]
 · have f0:=M3 a;rw [a,show Z6 [44] n=c2 from by unfold Z6;rw [d1,d2];cases c1<;>cases c2<;>rfl];clear d1 d2 a;go_enter Tryz.func75,Tryz.ntmps75;go_wp2_with fail;go_ret;exact⟨rfl,rfl⟩
 have f0:=L3 a;by_cases c:s.data.toList= [59]
 · have f1:=M3 c;rw [c,show Z6 [59] n=c2 from by unfold Z6;rw [d1,d2];cases c1<;>cases c2<;>rfl];clear d1 d2 a c;go_enter Tryz.func75,Tryz.ntmps75;go_wp2_with fail;go_ret;exact⟨rfl,rfl⟩
 have f1:=L3 c;by_cases d:s.data.toList= [45,62]
 · have f2:=M3 d;rw [d,show Z6 [45,62] n=c2 from by unfold Z6;rw [d1,d2];cases c1<;>cases c2<;>rfl];clear d1 d2 a c d;go_enter Tryz.func75,Tryz.ntmps75;go_wp2_with fail;go_ret;exact⟨rfl,rfl⟩
 have f2:=L3 d;by_cases g:s.data.toList= [58,45]
 · have f3:=M3 g;rw [g,show Z6 [58,45] n=(c1||c2)from by unfold Z6;rw [d1,d2];cases c1<;>cases c2<;>rfl];clear d1 d2 a c d g;cases c1
   all_goals
    go_enter Tryz.func75,Tryz.ntmps75;go_wp2_with fail;go_ret;exact⟨rfl,rfl⟩
 have f3:=L3 g;by_cases h:s.data.toList= [92,43]
 · have f4:=M3 h;rw [h,show Z6 [92,43] n=c1 from by unfold Z6;rw [d1,d2];cases c1<;>cases c2<;>rfl];clear d1 d2 a c d g h;go_enter Tryz.func75,Tryz.ntmps75;go_wp2_with fail;go_ret;exact⟨rfl,rfl⟩
 have f4:=L3 h;by_cases i:s.data.toList= [63,45]
 · have f5:=M3 i;rw [i,show Z6 [63,45] n=c1 from by unfold Z6;rw [d1,d2];cases c1<;>cases c2<;>rfl];clear d1 d2 a c d g h i;go_enter Tryz.func75,Tryz.ntmps75;go_wp2_with fail;go_ret;exact⟨rfl,rfl⟩
 have f5:=L3 i;rw [show Z6 s.data.toList n=false from by unfold Z6;rw [decide_eq_false h,decide_eq_false g,decide_eq_false i,decide_eq_false a,decide_eq_false c,decide_eq_false d];cases decide (n=1)<;>cases decide (n=2)<;>rfl];clear d1 d2 a c d g h i;go_enter Tryz.func75,Tryz.ntmps75;go_wp2_with fail;go_ret;exact⟨rfl,rfl⟩
theorem I2 (s:List UInt8) (n a:Int) (h:0<=a/\a<=3) (b:m4 s 0=(0==a)) (c:m4 s 1=(1==a)) (d:m4 s 2=(2==a)) (g:m4 s 3=(3==a)):m4 s n=(n==a):=by
 by_cases e0:n=0
 · rw [e0];exact b
 by_cases e1:n=1
 · rw [e1];exact c
 by_cases e2:n=2
 · rw [e2];exact d
 by_cases e3:n=3
 · rw [e3];exact g
 unfold m4 Zq;rw [I_ e0,I_ e1,I_ e2,I_ e3,beq_eq_false_iff_ne.2 (by omega)];rfl
theorem blt_0 (n:Int):m4 [116,114,117,101] n=(n==0):=I2 _ n 0 (by decide) (by decide) (by decide) (by decide) (by decide)
theorem blt_1 (n:Int):m4 [102,97,105,108] n=(n==0):=I2 _ n 0 (by decide) (by decide) (by decide) (by decide) (by decide)
theorem blt_2 (n:Int):m4 [33] n=(n==0):=I2 _ n 0 (by decide) (by decide) (by decide) (by decide) (by decide)
theorem blt_3 (n:Int):m4 [118,97,114] n=(n==1):=I2 _ n 1 (by decide) (by decide) (by decide) (by decide) (by decide)
theorem blt_4 (n:Int):m4 [110,111,110,118,97,114] n=(n==1):=I2 _ n 1 (by decide) (by decide) (by decide) (by decide) (by decide)
theorem blt_5 (n:Int):m4 [97,116,111,109] n=(n==1):=I2 _ n 1 (by decide) (by decide) (by decide) (by decide) (by decide)
theorem blt_6 (n:Int):m4 [105,110,116,101,103,101,114] n=(n==1):=I2 _ n 1 (by decide) (by decide) (by decide) (by decide) (by decide)
theorem blt_7 (n:Int):m4 [97,116,111,109,105,99] n=(n==1):=I2 _ n 1 (by decide) (by decide) (by decide) (by decide) (by decide)
theorem blt_8 (n:Int):m4 [99,111,109,112,111,117,110,100] n=(n==1):=I2 _ n 1 (by decide) (by decide) (by decide) (by decide) (by decide)
theorem blt_9 (n:Int):m4 [61] n=(n==2):=I2 _ n 2 (by decide) (by decide) (by decide) (by decide) (by decide)
theorem blt_10 (n:Int):m4 [92,61] n=(n==2):=I2 _ n 2 (by decide) (by decide) (by decide) (by decide) (by decide)
theorem blt_11 (n:Int):m4 [61,61] n=(n==2):=I2 _ n 2 (by decide) (by decide) (by decide) (by decide) (by decide)
theorem blt_12 (n:Int):m4 [92,61,61] n=(n==2):=I2 _ n 2 (by decide) (by decide) (by decide) (by decide) (by decide)
theorem blt_13 (n:Int):m4 [64,60] n=(n==2):=I2 _ n 2 (by decide) (by decide) (by decide) (by decide) (by decide)
theorem blt_14 (n:Int):m4 [64,61,60] n=(n==2):=I2 _ n 2 (by decide) (by decide) (by decide) (by decide) (by decide)
theorem blt_15 (n:Int):m4 [64,62] n=(n==2):=I2 _ n 2 (by decide) (by decide) (by decide) (by decide) (by decide)
theorem blt_16 (n:Int):m4 [64,62,61] n=(n==2):=I2 _ n 2 (by decide) (by decide) (by decide) (by decide) (by decide)
theorem blt_17 (n:Int):m4 [61,46,46] n=(n==2):=I2 _ n 2 (by decide) (by decide) (by decide) (by decide) (by decide)
theorem blt_18 (n:Int):m4 [105,115] n=(n==2):=I2 _ n 2 (by decide) (by decide) (by decide) (by decide) (by decide)
theorem blt_19 (n:Int):m4 [61,58,61] n=(n==2):=I2 _ n 2 (by decide) (by decide) (by decide) (by decide) (by decide)
theorem blt_20 (n:Int):m4 [61,92,61] n=(n==2):=I2 _ n 2 (by decide) (by decide) (by decide) (by decide) (by decide)
theorem blt_21 (n:Int):m4 [60] n=(n==2):=I2 _ n 2 (by decide) (by decide) (by decide) (by decide) (by decide)
theorem blt_22 (n:Int):m4 [61,60] n=(n==2):=I2 _ n 2 (by decide) (by decide) (by decide) (by decide) (by decide)
theorem blt_23 (n:Int):m4 [62] n=(n==2):=I2 _ n 2 (by decide) (by decide) (by decide) (by decide) (by decide)
theorem blt_24 (n:Int):m4 [62,61] n=(n==2):=I2 _ n 2 (by decide) (by decide) (by decide) (by decide) (by decide)
theorem blt_25 (n:Int):m4 [102,117,110,99,116,111,114] n=(n==3):=I2 _ n 3 (by decide) (by decide) (by decide) (by decide) (by decide)
theorem blt_26 (n:Int):m4 [97,114,103] n=(n==3):=I2 _ n 3 (by decide) (by decide) (by decide) (by decide) (by decide)
theorem blt_no {s:List UInt8} {n:Int} (v:s≠ [116,114,117,101]) (w:s≠ [102,97,105,108]) (x:s≠ [33]) (y:s≠ [118,97,114]) (z:s≠ [110,111,110,118,97,114]) (A:s≠ [97,116,111,109]) (B:s≠ [105,110,116,101,103,101,114]) (C:s≠ [97,116,111,109,105,99]) (D:s≠ [99,111,109,112,111,117,110,100]) (E:s≠ [61]) (a:s≠ [92,61]) (b:s≠ [61,61]) (c:s≠ [92,61,61]) (d:s≠ [64,60]) (g:s≠ [64,61,60]) (h:s≠ [64,62]) (i:s≠ [64,62,61]) (j:s≠ [61,46,46]) (k:s≠ [105,115]) (l:s≠ [61,58,61]) (m:s≠ [61,92,61]) (o:s≠ [60]) (p:s≠ [61,60]) (q:s≠ [62]) (r:s≠ [62,61]) (t:s≠ [102,117,110,99,116,111,114]) (u:s≠ [97,114,103]):m4 s n=false:=by
 unfold m4 Zq;by_cases e0:n=0
 · rw [J_ e0];simp [v.symm,w.symm,x.symm]
 by_cases e1:n=1
 · rw [I_ e0,J_ e1];simp [y.symm,z.symm,A.symm,B.symm,C.symm,D.symm]
 by_cases e2:n=2
 · rw [I_ e0,I_ e1,J_ e2];simp [E.symm,a.symm,b.symm,c.symm,d.symm,g.symm,h.symm,i.symm,j.symm,k.symm,l.symm,m.symm,o.symm,p.symm,q.symm,r.symm]
 by_cases e3:n=3
 · rw [I_ e0,I_ e1,I_ e2,J_ e3];simp [t.symm,u.symm]
 rw [I_ e0,I_ e1,I_ e2,I_ e3];rfl
set_option maxRecDepth 100000 in
theorem vj (s:ByteArray) (n:Int) (w:World):
 Calls Tryz.prog 10 #[.string s,.int .i64 n] w fun e w'=>e=.returned (.bool (m4 s.data.toList n))/\w=w':=by
 by_cases b:s.data.toList= [116,114,117,101]
 · have f0:=M3 b;rw [b,blt_0];clear b;go_enter Tryz.func10,Tryz.ntmps10;go_wp2_with fail;go_ret;exact⟨rfl,rfl⟩
 have f0:=L3 b;by_cases d:s.data.toList= [102,97,105,108]
 · have f1:=M3 d;rw [d,blt_1];clear b d;go_enter Tryz.func10,Tryz.ntmps10;go_wp2_with fail;go_ret;exact⟨rfl,rfl⟩
 have f1:=L3 d;by_cases h:s.data.toList= [33]
 · have f2:=M3 h;rw [h,blt_2];clear b d h;go_enter Tryz.func10,Tryz.ntmps10;go_wp2_with fail;go_ret;exact⟨rfl,rfl⟩
 have f2:=L3 h;by_cases j:s.data.toList= [118,97,114]
 · have f3:=M3 j;rw [j,blt_3];clear b d h j;go_enter Tryz.func10,Tryz.ntmps10;go_wp2_with fail;go_ret;exact⟨rfl,rfl⟩
 have f3:=L3 j;by_cases k:s.data.toList= [110,111,110,118,97,114]
 · have f4:=M3 k;rw [k,blt_4];clear b d h j k;go_enter Tryz.func10,Tryz.ntmps10;go_wp2_with fail;go_ret;exact⟨rfl,rfl⟩
 have f4:=L3 k;by_cases m:s.data.toList= [97,116,111,109]
 · have f5:=M3 m;rw [m,blt_5];clear b d h j k m;go_enter Tryz.func10,Tryz.ntmps10;go_wp2_with fail;go_ret;exact⟨rfl,rfl⟩
 have f5:=L3 m;by_cases p:s.data.toList= [105,110,116,101,103,101,114]
 · have f6:=M3 p;rw [p,blt_6];clear b d h j k m p;go_enter Tryz.func10,Tryz.ntmps10;go_wp2_with fail;go_ret;exact⟨rfl,rfl⟩
 have f6:=L3 p;by_cases q:s.data.toList= [97,116,111,109,105,99]
 · have f7:=M3 q;rw [q,blt_7];clear b d h j k m p q;go_enter Tryz.func10,Tryz.ntmps10;go_wp2_with fail;go_ret;exact⟨rfl,rfl⟩
 have f7:=L3 q;by_cases t:s.data.toList= [99,111,109,112,111,117,110,100]
 · have f8:=M3 t;rw [t,blt_8];clear b d h j k m p q t;go_enter Tryz.func10,Tryz.ntmps10;go_wp2_with fail;go_ret;exact⟨rfl,rfl⟩
 have f8:=L3 t;by_cases v:s.data.toList= [61]
 · have f9:=M3 v;rw [v,blt_9];clear b d h j k m p q t v;go_enter Tryz.func10,Tryz.ntmps10;go_wp2_with fail;go_ret;exact⟨rfl,rfl⟩
 have f9:=L3 v;by_cases a:s.data.toList= [92,61]
 · have f10:=M3 a;rw [a,blt_10];clear b d h j k m p q t v a;go_enter Tryz.func10,Tryz.ntmps10;go_wp2_with fail;go_ret;exact⟨rfl,rfl⟩
 have f10:=L3 a;by_cases c:s.data.toList= [61,61]
 · have f11:=M3 c;rw [c,blt_11];clear b d h j k m p q t v a c;go_enter Tryz.func10,Tryz.ntmps10;go_wp2_with fail;go_ret;exact⟨rfl,rfl⟩
 have f11:=L3 c;by_cases g:s.data.toList= [92,61,61]
 · have f12:=M3 g;rw [g,blt_12];clear b d h j k m p q t v a c g;go_enter Tryz.func10,Tryz.ntmps10;go_wp2_with fail;go_ret;exact⟨rfl,rfl⟩
 have f12:=L3 g;by_cases i:s.data.toList= [64,60]
 · have f13:=M3 i;rw [i,blt_13];clear b d h j k m p q t v a c g i;go_enter Tryz.func10,Tryz.ntmps10;go_wp2_with fail;go_ret;exact⟨rfl,rfl⟩
 have f13:=L3 i;by_cases l:s.data.toList= [64,61,60]
 · have f14:=M3 l;rw [l,blt_14];clear b d h j k m p q t v a c g i l;go_enter Tryz.func10,Tryz.ntmps10;go_wp2_with fail;go_ret;exact⟨rfl,rfl⟩
 have f14:=L3 l;by_cases o:s.data.toList= [64,62]
 · have f15:=M3 o;rw [o,blt_15];clear b d h j k m p q t v a c g i l o;go_enter Tryz.func10,Tryz.ntmps10;go_wp2_with fail;go_ret;exact⟨rfl,rfl⟩
 have f15:=L3 o;by_cases r:s.data.toList= [64,62,61]
 · have f16:=M3 r;rw [r,blt_16];clear b d h j k m p q t v a c g i l o r;go_enter Tryz.func10,Tryz.ntmps10;go_wp2_with fail;go_ret;exact⟨rfl,rfl⟩
 have f16:=L3 r;by_cases u:s.data.toList= [61,46,46]
 · have f17:=M3 u;rw [u,blt_17];clear b d h j k m p q t v a c g i l o r u;go_enter Tryz.func10,Tryz.ntmps10;go_wp2_with fail;go_ret;exact⟨rfl,rfl⟩
 have f17:=L3 u;by_cases x:s.data.toList= [105,115]
 · have f18:=M3 x;rw [x,blt_18];clear b d h j k m p q t v a c g i l o r u x;go_enter Tryz.func10,Tryz.ntmps10;go_wp2_with fail;go_ret;exact⟨rfl,rfl⟩
 have f18:=L3 x;by_cases y:s.data.toList= [61,58,61]
 · have f19:=M3 y;rw [y,blt_19];clear b d h j k m p q t v a c g i l o r u x y;go_enter Tryz.func10,Tryz.ntmps10;go_wp2_with fail;go_ret;exact⟨rfl,rfl⟩
 have f19:=L3 y;by_cases z:s.data.toList= [61,92,61]
 · have f20:=M3 z;rw [z,blt_20];clear b d h j k m p q t v a c g i l o r u x y z;go_enter Tryz.func10,Tryz.ntmps10;go_wp2_with fail;go_ret;exact⟨rfl,rfl⟩
 have f20:=L3 z;by_cases A:s.data.toList= [60]
 · have f21:=M3 A;rw [A,blt_21];clear b d h j k m p q t v a c g i l o r u x y z A;go_enter Tryz.func10,Tryz.ntmps10;go_wp2_with fail;go_ret;exact⟨rfl,rfl⟩
 have f21:=L3 A;by_cases B:s.data.toList= [61,60]
 · have f22:=M3 B;rw [B,blt_22];clear b d h j k m p q t v a c g i l o r u x y z A B;go_enter Tryz.func10,Tryz.ntmps10;go_wp2_with fail;go_ret;exact⟨rfl,rfl⟩
 have f22:=L3 B;by_cases C:s.data.toList= [62]
 · have f23:=M3 C;rw [C,blt_23];clear b d h j k m p q t v a c g i l o r u x y z A B C;go_enter Tryz.func10,Tryz.ntmps10;go_wp2_with fail;go_ret;exact⟨rfl,rfl⟩
 have f23:=L3 C;by_cases D:s.data.toList= [62,61]
 · have f24:=M3 D;rw [D,blt_24];clear b d h j k m p q t v a c g i l o r u x y z A B C D;go_enter Tryz.func10,Tryz.ntmps10;go_wp2_with fail;go_ret;exact⟨rfl,rfl⟩
 have f24:=L3 D;by_cases E:s.data.toList= [102,117,110,99,116,111,114]
 · have f25:=M3 E;rw [E,blt_25];clear b d h j k m p q t v a c g i l o r u x y z A B C D E;go_enter Tryz.func10,Tryz.ntmps10;go_wp2_with fail;go_ret;exact⟨rfl,rfl⟩
 have f25:=L3 E;by_cases F:s.data.toList= [97,114,103]
 · have f26:=M3 F;rw [F,blt_26];clear b d h j k m p q t v a c g i l o r u x y z A B C D E F;go_enter Tryz.func10,Tryz.ntmps10;go_wp2_with fail;go_ret;exact⟨rfl,rfl⟩
 have f26:=L3 F;rw [blt_no b d h j k m p q t v a c g i l o r u x y z A B C D E F];clear b d h j k m p q t v a c g i l o r u x y z A B C D E F;go_enter Tryz.func10,Tryz.ntmps10;go_wp2_with fail;go_ret;exact⟨rfl,rfl⟩
set_option maxRecDepth 100000 in
theorem ZQ (k n:Int) (s:ByteArray) (ad:Option Addr) (len cap:Nat) (w:World):
 Calls Tryz.prog 57 #[.agg #[.int .i64 k,.string s,.int .i64 n,.slice ad len cap]] w fun e w'=>e=.returned (.bool (V7 k s.data.toList len))/\Below w.heap.size w w':=by
 have a:=D_ (fun o:Obj=>(F_ w.heap.size w).alloc (R_ _) o);have d:=D_ (fun W=>PX s len W);unfold V7;generalize Z6 s.data.toList len=lk at*;by_cases b:k=2
 · subst b;cases lk
   all_goals
    go_enter Tryz.func57,Tryz.ntmps57;go_wp2_with fail;refine(d.out _).mono ?_;rintro e w1 ⟨rfl,rfl⟩;go_wp2_with fail;go_ret;exact⟨rfl,a.out _⟩
 · have e2:(k==2)=false:=by simpa using b
   by_cases c:k=4
   · subst c;clear b;cases lk
     all_goals
      go_enter Tryz.func57,Tryz.ntmps57;go_wp2_with fail;refine(d.out _).mono ?_;rintro e w1 ⟨rfl,rfl⟩;go_wp2_with fail;go_ret;exact⟨rfl,a.out _⟩
   · have e4:(k==4)=false:=by simpa using c
     rw [decide_eq_false b,decide_eq_false c];clear b c;go_enter Tryz.func57,Tryz.ntmps57;go_wp2_with fail;go_ret;exact⟨rfl,a.out _⟩
set_option maxRecDepth 100000 in
theorem aX (k n:Int) (s:ByteArray) (ad:Option Addr) (len cap:Nat) (w:World):
 Calls Tryz.prog 39 #[.agg #[.int .i64 k,.string s,.int .i64 n,.slice ad len cap]] w fun e w'=>e=.returned (.bool (V7 k s.data.toList len&&!m4 s.data.toList len))/\Below w.heap.size w w':=by
 have c:=D_ (fun o:Obj=>(F_ w.heap.size w).alloc (R_ _) o);have d:=D_ (fun W=>ZQ k n s ad len cap W);have g:=D_ (fun W=>vj s len W);generalize V7 k s.data.toList len=lk at*;generalize m4 s.data.toList len=bt at*;cases lk with
 |false=>
  go_enter Tryz.func39,Tryz.ntmps39;go_wp2_with fail;refine(d.out _).mono ?_;rintro e w1 ⟨rfl,a⟩;have b:=D_ ((c.out _).trans (a.mono (by simp)));obtain⟨hc,h⟩:=S1 a;clear a;go_wp2_with fail;go_ret;exact⟨rfl,b.out⟩
 | true=>
  cases bt
  all_goals
   go_enter Tryz.func39,Tryz.ntmps39;go_wp2_with fail;refine(d.out _).mono ?_;rintro e w1 ⟨rfl,a⟩;have b:=D_ ((c.out _).trans (a.mono (by simp)));obtain⟨hc,h⟩:=S1 a;clear a;go_wp2_with fail;refine(g.out _).mono ?_;rintro e w2 ⟨rfl,rfl⟩;go_wp2_with fail;go_ret;exact⟨rfl,b.out⟩
end Go.Proofs.YtinefdlkajnomaaGreatDoor
namespace Go.Proofs.YtinefdlkajnomaaGreatDoor
open Go.RowKit Go.Maps
set_option maxHeartbeats 20000000
theorem hZ:Keyed Tryz.prog 2:=int_keyed Tryz.underlying2
theorem FJ (w:World):(zeroValue 2).run Tryz.prog w=.ok (.int .i64 0) w:=by kernel_rfl
theorem num_wf {a:Int} (h:In64 a):(Lit.int .i64 a).wf=true:=by
 have e1:IntKind.i64.min= -9223372036854775808:=rfl;have e2:IntKind.i64.max=9223372036854775807:=rfl;simp [Lit.wf,e1,e2]
 exact h
structure KX (D:DataW Unit) (L:List Int):Prop where
 tidy:Tidy D
 has: ∀a,Maps.has D (.int .i64 a)=decide (a∈L)
 at_: ∀a,a∈L->D.atKey (.int .i64 a) (.lit (.int .i64 0))=.lit (.int .i64 (S3 L a))
 size:Maps.size D=L.length
def X7 (w:World) (b:Nat) (L:List Int):Prop:= ∃D:DataW Unit,w.ownsMap Tryz.prog 2 (plainElem Tryz.prog 2) b L.length D/\KX D L
theorem X7.new (w:World):X7 (w.alloc (.map #[] 0)) w.heap.size []:=
 ⟨.map [],World.ownsMap_made _ _ _ _,⟨tidy_empty,fun a=>by simp [has_eq],(fun a h=>by cases h),rfl⟩⟩
theorem KX.put {D:DataW Unit} {L:List Int} (h:KX D L) {a:Int} (d:a∉L):KX (D.put (.int .i64 a) (.lit (.int .i64 (L.length:Int)))) (L++ [a]):=by
 have c:WideAt.IsKeyLit (.int .i64 a):=trivial;refine⟨h.tidy.put c _,fun a'=>?_,fun a' b=>?_,?_⟩
 · by_cases e:a'=a
   · subst e;rw [has_put_same h.tidy.isMap c];simp
   · rw [has_put_other (by intro e';injection e';contradiction),h.has];simp [e]
 · rcases List.mem_append.1 b with b|b
   · have e:a'≠a:=fun e=>d (e▸b);rw [atKey_put_other (by intro e';injection e';contradiction),h.at_ a' b,lx L [a] a' b]
   · obtain rfl:=List.mem_singleton.1 b;rw [atKey_put_same h.tidy.isMap c,Nz L a' d]
 · rw [size_put h.tidy,h.has,decide_eq_false d,h.size];simp
theorem X7.at {w w':World} {b:Nat} {L:List Int} (h:X7 w b L) (g:w'.heap[b]?=w.heap[b]?):X7 w' b L:=by
 obtain⟨D,⟨es,clock,d,F,i,a⟩,c⟩:=h;exact⟨D,⟨es,clock,g.trans d,F,i,a⟩,c⟩
theorem X7.lt {w:World} {b:Nat} {L:List Int} (h:X7 w b L):b<w.heap.size:=by
 obtain⟨D,⟨es,clock,a,F,g,c⟩,d⟩:=h;exact(Array.getElem?_eq_some_iff.1 a).1
theorem V0.grown {w w':World} {b:Nat} (h:w.grownBy w' (some b)):V0 (fun j=>j=b) w w':=
 ⟨h.os,h.tape,h.output,h.size,fun k a c=>h.block k a (fun e=>c (Option.some.inj e))⟩
theorem onceGo_old {L:List Int} {a:Int} (h:a∈L):I0 L [a]=L:=by
 show(if j9 L a then I0 L []else _)=L
 rw [(Kj L a).2 h];rfl
theorem onceGo_new {L:List Int} {a:Int} (h:a∉L):I0 L [a]=L++ [a]:=by
 show(if j9 L a then _ else I0 (L++ [a]) [])=_
 have:j9 L a=false:=by cases e:j9 L a with
  |false=>rfl
  |true=>exact absurd ((Kj L a).1 e) h
 rw [this];rfl
set_option maxRecDepth 100000 in
theorem cl_number (w:World) (b:Nat) (L:List Int) (a:Int) (h:X7 w b L) (v:In64 a) (y:L.length<10000000):
 Calls Tryz.prog 58 #[.map (some b),.int .i64 a] w fun e w'=>e=.returned (.int .i64 (S3 (I0 L [a]) a))/\X7 w' b (I0 L [a])/\V0 (fun j=>j=b) w w':=by
 obtain⟨D,c,i⟩:=h;have d:=i.has a;have l:=keyOf_int_mk Tryz.underlying2 (num_wf v);by_cases g:a∈L
 · rw [onceGo_old g];rw [decide_eq_true g]at d;have o:=D_ (i.at_ a g);have u:=D_ (show X7 w b L from⟨D,c,i⟩);clear i g;generalize S3 L a=p at*;go_enter Tryz.func58,Tryz.ntmps58;go_wp2_with (first
    |(at_lookup;refine wpList_lookup_own_ok_int _ rfl _ _ 63 rfl 2 2 .i64 hZ Tryz.underlying63 Tryz.underlying2 (FJ _) b _ D rfl c _ _ rfl l ?_;intro c0 n s;rw [d];obtain rfl:c0=p:=(by have h:=n.symm.trans o.out;injection h with h;injection h))
    |fail)
   go_ret;exact⟨rfl,u.out,V0.refl _ _⟩
 · rw [onceGo_new g,Nz L a g];rw [decide_eq_false g]at d;have t:=D_ (i.put g);have x:=D_ i.size;have q:Maps.size D=L.length:=i.size;have r:=plainElem_int (H:=Unit) Tryz.underlying2 (num_wf (a:=(L.length:Int)) ⟨by omega,by omega⟩);clear i g;go_enter Tryz.func58,Tryz.ntmps58;go_wp2_with (first
    |(at_lookup;refine wpList_lookup_own_ok_int _ rfl _ _ 63 rfl 2 2 .i64 hZ Tryz.underlying63 Tryz.underlying2 (FJ _) b _ D rfl c _ _ rfl l ?_;intro c0 n s;rw [d])
    |(at_len;refine wpList_len_own _ rfl _ 63 rfl 2 2 Tryz.underlying63 _ b _ D rfl c ?_;rw [q])
    |(at_mapUpdate;refine wpList_mapUpdate_own _ rfl _ _ _ 63 rfl 2 2 hZ Tryz.underlying63 _ b _ D rfl c (by unfold maxLen;omega) _ _ _ rfl rfl l _ [] r ?_;intro w1 m k))
   go_ret;exact⟨rfl,⟨_,by rw [P_];exact m,t.out⟩,V0.grown k⟩
theorem numT_list (L R:List Int) (ts:List Tm) (h: ∀x∈ts.flatMap Tm.places,x∈L):ts.map (Tm.numT (L++R))=ts.map (Tm.numT L):=
 List.map_congr_left fun a b=>Tm.numT_stay L R a fun x hx=>h x (List.mem_flatMap.2 ⟨a,b,hx⟩)
theorem numT_step (L:List Int) (ts:List Tm) (k:Nat) (a:k<ts.length):
 (ts.take (k+1)).map (Tm.numT (I0 L ((ts.take (k+1)).flatMap Tm.places)))=
   (ts.take k).map (Tm.numT (I0 L ((ts.take k).flatMap Tm.places)))++ [ts[k].numT (I0 (I0 L ((ts.take k).flatMap Tm.places)) ts[k].places)]:=by
 rw [Dq Tm.places ts k a,L5,U_ a,List.map_append];obtain⟨R,b⟩:=K6 ts[k].places (I0 L ((ts.take k).flatMap Tm.places));congr 1
 rw [b];exact numT_list _ R _ fun x hx=>l8 _ _ _ (.inr hx)
structure NIn (n₀ mb:Nat) (L0:List Int) (ts:List Tm) (g cp:Nat) (C:Array Value) (w:World) (k:Nat) (W:World):Prop where
 turn:V0 (fun j=>j=mb) w W
 box:W.heap[w.heap.size]?=some (.cells C 26 (0,0))
 res:W.heap[w.heap.size+1]?=some (.cells #[.int .i64 0,.string ⟨#[]⟩,.int .i64 0,.slice none 0 0] 26 (0,0))
 map:X7 W mb (I0 L0 ((ts.take k).flatMap Tm.places))
 row:0<ts.length-> ∃ys zs,W.ownsRow (w.heap.size+2) 26 4 (.slice (some ⟨g,0,none⟩) ts.length cp) ts.length (ys++zs)/\
  H4 W (fun b=>w.heap.size+2<=b/\b≠g) ys ((ts.take k).map (Tm.numT (I0 L0 ((ts.take k).flatMap Tm.places))))/\H4 W (fun b=>b<n₀) zs (ts.drop k)
theorem NIn.start {n₀ mb:Nat} {L0:List Int} {ts:List Tm} {g cp:Nat} {w W1 W2:World} {xs:List Value} (y:n₀<=w.heap.size) (x:mb<w.heap.size) (c:V0 (fun j=>j=mb) w W1) (u:w.heap.size+2<=W1.heap.size)
 (q:W1.heap[w.heap.size+1]?=some (.cells #[.int .i64 0,.string ⟨#[]⟩,.int .i64 0,.slice none 0 0] 26 (0,0)))
 (t:X7 W1 mb L0) (d:Below W1.heap.size W1 W2) (m:0<ts.length->W2.ownsRow W1.heap.size 26 4 (.slice (some ⟨g,0,none⟩) ts.length cp) ts.length xs) (hx:H4 W1 (fun b=>b<n₀) xs ts) (v:Value) (C':Array Value)
 (n:(W2.setCell ⟨w.heap.size,3,none⟩ v).heap[w.heap.size]?=some (.cells C' 26 (0,0))):
 NIn n₀ mb L0 ts g cp C' w 0 (W2.setCell ⟨w.heap.size,3,none⟩ v):=by
 have l: ∀b,b≠w.heap.size->b<W1.heap.size->(W2.setCell ⟨w.heap.size,3,none⟩ v).heap[b]?=W1.heap[b]?:=fun b i a=>(S_ _ _ _ _ i).trans (d.block b a);have s:V0 (fun j=>j=mb) w (W2.setCell ⟨w.heap.size,3,none⟩ v):=by
  have:=d.size;refine⟨d.os.trans c.os,d.tape.trans c.tape,d.output.trans c.output,by simp [World.setCell];have:=c.size;omega,fun k o i=>(l k (by omega) (by omega)).trans (c.block k o i)⟩
 refine⟨s,n,(l _ (by omega) (by omega)).trans q,(show X7 _ mb L0 from t.at (l _ (by omega) (by omega))),fun p=>⟨[],xs,?_,.nil,?_⟩⟩
 · have r:=m p;have a:=r.lt g rfl;exact Z3 (I1 r (S_ _ _ _ _ (show g≠w.heap.size by omega))) u
 · exact hx.kept (fun b p a=>l b (by omega) a) fun b h _=>h
theorem row_set4 {W:World} {B g n cap i:Nat} {ys zs:List Value} {a b c d:Value} (h:W.ownsRow B 26 4 (.slice (some ⟨g,0,none⟩) n cap) n (ys++([a,b,c,d]++zs))) (o:ys.length=i*4) (x y z u:Value):
 ((((W.setCell ⟨g,i*4,none⟩ x).setCell ⟨g,i*4+1,none⟩ y).setCell ⟨g,i*4+2,none⟩ z).setCell ⟨g,i*4+3,none⟩ u).ownsRow B 26 4 (.slice (some ⟨g,0,none⟩) n cap) n (ys++([x,y,z,u]++zs)):=by
 have st: ∀ {W:World} {a b c d:Value} (j:Nat) (v:Value) (r:List Value),W.ownsRow B 26 4 (.slice (some ⟨g,0,none⟩) n cap) n (ys++([a,b,c,d]++zs))->j<4->([a,b,c,d]:List Value).set j v=r->(W.setCell ⟨g,i*4+j,none⟩ v).ownsRow B 26 4 (.slice (some ⟨g,0,none⟩) n cap) n (ys++(r++zs)):=fun j v r h l m=>by
  have k:=(h.stored (i*4+j) v).1;rw [List.set_append_right _ _ (by omega),o,Nat.add_sub_cancel_left,List.set_append_left _ _ (by simpa using l),m]at k;exact k
 exact st 3 u _ (st 2 z _ (st 1 y _ (st 0 x _ h (by omega) rfl) (by omega) rfl) (by omega) rfl) (by omega) rfl
theorem NIn.next {n₀ mb:Nat} {L0:List Int} {ts:List Tm} {g cp:Nat} {C:Array Value} {w wr w2:World} {k:Nat} {ys zs:List Value} {ad1:Option Addr} {cap1:Nat} {ad2:Option Addr} {cap2:Nat} {o:Obj} (z:k<ts.length) (R:n₀<=mb) (M:mb<w.heap.size)
 (q:NIn n₀ mb L0 ts g cp C w k wr) (p:wr.ownsRow (w.heap.size+2) 26 4 (.slice (some ⟨g,0,none⟩) ts.length cp) ts.length (ys++(D0 ts[k] ad1 cap1++zs)))
 (D:H4 wr (fun b=>w.heap.size+2<=b/\b≠g) ys ((ts.take k).map (Tm.numT (I0 L0 ((ts.take k).flatMap Tm.places))))) (E:H4 wr (fun b=>b<n₀) zs (ts.drop (k+1)))
 (m:V0 (fun j=>j=mb) (wr.alloc o) w2) (I:X7 w2 mb (I0 (I0 L0 ((ts.take k).flatMap Tm.places)) ts[k].places))
 (hx:TmP w2 (fun b=>(wr.alloc o).heap.size<=b) (ts[k].numT (I0 (I0 L0 ((ts.take k).flatMap Tm.places)) ts[k].places)) ad2 cap2) (B:ys.length=k*4):
 ∀a b c d,a=.int .i64 (ts[k].numT (I0 (I0 L0 ((ts.take k).flatMap Tm.places)) ts[k].places)).kind->b=.string (ts[k].numT (I0 (I0 L0 ((ts.take k).flatMap Tm.places)) ts[k].places)).name->c=.int .i64 (ts[k].numT (I0 (I0 L0 ((ts.take k).flatMap Tm.places)) ts[k].places)).n->
  d=.slice ad2 (ts[k].numT (I0 (I0 L0 ((ts.take k).flatMap Tm.places)) ts[k].places)).args.length cap2->
  NIn n₀ mb L0 ts g cp C w (k+1) ((((w2.setCell ⟨g,k*4,none⟩ a).setCell ⟨g,k*4+1,none⟩ b).setCell ⟨g,k*4+2,none⟩ c).setCell ⟨g,k*4+3,none⟩ d):=by
 intro a b c d G t hc H;have J:=p.lt g rfl;have O:(wr.alloc o).heap.size=wr.heap.size+1:=Z_ _ _;have N:=m.size;have keep: ∀j,j≠g->j≠mb->j<wr.heap.size->((((w2.setCell ⟨g,k*4,none⟩ a).setCell ⟨g,k*4+1,none⟩ b).setCell ⟨g,k*4+2,none⟩ c).setCell ⟨g,k*4+3,none⟩ d).heap[j]?=wr.heap[j]?:=fun j i y x=>by
  rw [S_ _ _ _ _ (show j≠g from i),S_ _ _ _ _ (show j≠g from i),S_ _ _ _ _ (show j≠g from i),S_ _ _ _ _ (show j≠g from i)];exact(m.block j (by omega) y).trans (A_ _ _ _ x)
 have keep2: ∀j,j≠g->((((w2.setCell ⟨g,k*4,none⟩ a).setCell ⟨g,k*4+1,none⟩ b).setCell ⟨g,k*4+2,none⟩ c).setCell ⟨g,k*4+3,none⟩ d).heap[j]?=w2.heap[j]?:=fun j i=>by
  rw [S_ _ _ _ _ (show j≠g from i),S_ _ _ _ _ (show j≠g from i),S_ _ _ _ _ (show j≠g from i),S_ _ _ _ _ (show j≠g from i)]
 have F:V0 (fun j=>j=mb) w ((((w2.setCell ⟨g,k*4,none⟩ a).setCell ⟨g,k*4+1,none⟩ b).setCell ⟨g,k*4+2,none⟩ c).setCell ⟨g,k*4+3,none⟩ d):=by
  have l:=q.turn;refine⟨m.os.trans l.os,m.tape.trans l.tape,m.output.trans l.output,by simp [World.setCell];have:=l.size;omega,fun j i s=>(keep j (by omega) s (by have:=l.size;omega)).trans (l.block j i s)⟩
 have r:w2.ownsRow (w.heap.size+2) 26 4 (.slice (some ⟨g,0,none⟩) ts.length cp) ts.length (ys++(D0 ts[k] ad1 cap1++zs)):=
  I1 p ((m.block g (by omega) (by omega)).trans (A_ _ _ _ (by omega)))
 have v:=row_set4 r B a b c d;have A:=hx.kept (w':=(((w2.setCell ⟨g,k*4,none⟩ a).setCell ⟨g,k*4+1,none⟩ b).setCell ⟨g,k*4+2,none⟩ c).setCell ⟨g,k*4+3,none⟩ d) (Q:=fun b=>w.heap.size+2<=b/\b≠g) (fun b t _=>keep2 b (by omega)) (fun b t _=>⟨by have:=q.turn.size;omega,by omega⟩);refine⟨F,(keep _ (by omega) (by omega) (by omega)).trans q.box,(keep _ (by omega) (by omega) (by omega)).trans q.res,?_,fun _=>⟨ys++ [a,b,c,d],zs,?_,?_,?_⟩⟩
 · rw [Dq Tm.places ts k z,L5];exact I.at (keep2 mb (by omega))
 · rw [List.append_assoc];exact v
 · rw [numT_step L0 ts k z,show([a,b,c,d]:List Value)=D0 (ts[k].numT (I0 (I0 L0 ((ts.take k).flatMap Tm.places)) ts[k].places)) ad2 cap2 from by rw [G,t,hc,H];rfl];exact(D.kept (fun j i u=>keep j i.2 (by omega) u) (fun _ h _=>h)).snoc A
 · exact E.kept (fun j i u=>keep j (by omega) (by omega) u) (fun _ h _=>h)
theorem NIn.done {n₀ mb:Nat} {L0:List Int} {ts:List Tm} {g cp:Nat} {C:Array Value} {w W:World} {adc:Option Addr} (h:NIn n₀ mb L0 ts g cp C w ts.length W) (c:0<ts.length->adc=some ⟨g,0,none⟩):
 X7 W mb (I0 L0 (ts.flatMap Tm.places))/\M0 W (fun b=>w.heap.size+2<=b) adc (ts.map (Tm.numT (I0 L0 (ts.flatMap Tm.places)))):=by
 have k:=h.map;rw [List.take_of_length_le (R_ _)]at k;refine⟨k,?_⟩;by_cases l:0<ts.length
 · obtain⟨ys,zs,a,d,i⟩:=h.row l;rw [List.take_of_length_le (R_ _)]at d;rw [List.drop_of_length_le (R_ _)]at i;cases i
   rw [List.append_nil]at a;rw [c l];refine d.args g (a.lt g rfl).1 (fun b m=>m.1) 0 (fun j n=>?_);rw [Nat.zero_add];exact a.cellAt j (by rw [<-a.1];exact n)
 · have:ts= []:=List.eq_nil_of_length_eq_zero (by omega);rw [this];exact .nil _
theorem met_bound {L0:List Int} {ts:List Tm} {k:Nat} (b:k<ts.length):(I0 L0 ((ts.take k).flatMap Tm.places)).length+ts[k].size<=L0.length+Tm.sizes ts:=by
 have c:=U5 ((ts.take k).flatMap Tm.places) L0;have d:=Tm.places_size' _ (ts.take k) (R_ _);have a:=Tm.sizes_take ts (k+1);rw [U_ b,Tm.sizes_append]at a;have g:Tm.sizes [ts[k]]=ts[k].size:=by show ts[k].size+0=_;omega
 omega
set_option maxRecDepth 100000 in
theorem fq (n₀ mb:Nat) (hn:n₀<=mb) (m:Nat): ∀(T:Tm) (ad:Option Addr) (cap:Nat) (w:World) (L:List Int),T.size<=m->T.size<=1000000->L.length+T.size<=2000000->TmP w (fun b=>b<n₀) T ad cap->X7 w mb L->
 Calls Tryz.prog 40 #[.map (some mb),tmv T ad cap] w fun e w'=> ∃ad' cap',e=.returned (tmv (T.numT (I0 L T.places)) ad' cap')/\TmP w' (fun b=>w.heap.size<=b) (T.numT (I0 L T.places)) ad' cap'/\V0 (fun j=>j=mb) w w'/\X7 w' mb (I0 L T.places):=by
 induction m with
 |zero=>intro T ad cap w L h;have:=T.size_pos;omega
 | succ m ih=>
  intro T ad cap w L hm hM hLM z C;have IH:=D_ ih;clear ih;have HI:=D_ z;have v_:=Tm.length_le_sizes T.args;have l_:=T.size_eq;have hl:T.args.length<=1000000:=by omega
  have hcapl:=z.len;have c_:=z.cap;unfold maxLen at c_;have X:=C.lt;have D:=z.n;obtain⟨xs,n_,hxl,k_⟩:=clone_any z.args hl cap;have HXR:=D_ n_;have z_:=D_ k_;have HPL:=D_ T.places_eq;have HMP:=D_ C;have d_: ∃(n':Int) (L0:List Int),Hid (In64 n')/\Hid (I0 L T.places=I0 L0 (T.args.flatMap Tm.places))/\Hid (L0.length<=L.length+1)/\Hid (n'=if T.kind=1 then S3 (I0 L T.places) T.n else T.n)/\(((T.kind==1)=true/\Hid (L0=I0 L [T.n]/\n'=S3 L0 T.n))\/((T.kind==1)=false/\Hid (L0=L/\n'=T.n))):=by
   by_cases q:T.kind=1
   · have e1:T.places= [T.n]++T.args.flatMap Tm.places:=by rw [T.places_eq,J_ q]
     have l:=U5 [T.n] L;have H:=mx (I0 L [T.n]) T.n;rw [List.length_singleton]at l;refine⟨S3 (I0 L [T.n]) T.n,I0 L [T.n],D_ ⟨by omega,by omega⟩,D_ (by rw [e1,L5]),D_ l,D_ ?_,.inl ⟨by simpa using q,D_ ⟨rfl,rfl⟩⟩⟩;rw [J_ q,e1,L5];obtain⟨R,hR⟩:=K6 (T.args.flatMap Tm.places) (I0 L [T.n]);rw [hR,lx _ R _ (l8 _ _ _ (.inr (.head _)))]
   · exact⟨T.n,L,D_ D,D_ (by rw [T.places_eq,I_ q,List.nil_append]),D_ (by omega),D_ (by rw [I_ q]),.inr ⟨by simpa using q,D_ ⟨rfl,rfl⟩⟩⟩
  obtain⟨n',L0,r_,u_,HL0,h_,hcs⟩:=d_;have s_:=D_ (fun (W:World) (hW:X7 W mb L)=>cl_number W mb L T.n hW D (by omega));clear z C n_ k_ D;have M:=D_ l_;clear l_ v_;unfold tmv;have step: ∀(W1:World),V0 (fun j=>j=mb) w W1->w.heap.size+2<=W1.heap.size->W1.heap[w.heap.size]?=some (.cells #[.int .i64 T.kind,.string T.name,.int .i64 n',.slice ad T.args.length cap] 26 (0,0))->W1.heap[w.heap.size+1]?=some (.cells #[.int .i64 0,.string ⟨#[]⟩,.int .i64 0,.slice none 0 0] 26 (0,0))->X7 W1 mb L0->
   Calls Tryz.prog 59 #[.slice ad T.args.length cap] W1 fun e W2=> ∃(adc:Option Addr) (capc g:Nat),e=.returned (.slice adc T.args.length capc)/\T.args.length<=capc/\capc<=maxLen/\(0<T.args.length->adc=some ⟨g,0,none⟩)/\W2.heap[w.heap.size]?=some (.cells #[.int .i64 T.kind,.string T.name,.int .i64 n',.slice ad T.args.length cap] 26 (0,0))/\
    Hid (NIn n₀ mb L0 T.args g capc #[.int .i64 T.kind,.string T.name,.int .i64 n',.slice adc T.args.length capc] w 0 (W2.setCell ⟨w.heap.size,3,none⟩ (.slice adc T.args.length capc))):=by
   intro W1 hT hs hq0 hq1 hM;refine(z_.out W1 (fun b u r=>hT.block b r (by omega))).mono ?_;rintro e W2 ⟨adc,capc,rfl,l,H,u,x_⟩;have B:=(u.block w.heap.size (by omega)).trans hq0;have hx1:H4 W1 (fun b=>b<n₀) xs T.args:=HXR.out.kept (fun b u r=>hT.block b r (by omega)) fun _ h _=>h;obtain⟨g,hg⟩: ∃g,0<T.args.length->adc=some ⟨g,0,none⟩/\W2.ownsRow W1.heap.size 26 4 (.slice (some ⟨g,0,none⟩) T.args.length capc) T.args.length xs:=by
    by_cases A:0<T.args.length
    · obtain⟨g,h3,_,h5⟩:=x_ A;exact⟨g,fun _=>⟨h3,h5⟩⟩
    · exact⟨0,fun h=>absurd h A⟩
   refine⟨adc,capc,g,rfl,l,H,fun A=>(hg A).1,B,D_ (NIn.start (by omega) X hT hs hq1 hM u (fun A=>(hg A).2) hx1 _ _ ?_)⟩;have:=H_ (i:=3) B (.slice adc T.args.length capc);simpa using this
  have E:=D_ step;clear step;have e_:=D_ (fun (o1 o2:Obj)=>show V0 (fun j=>j=mb) w ((w.alloc o1).alloc o2)/\X7 ((w.alloc o1).alloc o2) mb L/\((w.alloc o1).alloc o2).heap[w.heap.size]?=some o1/\((w.alloc o1).alloc o2).heap[w.heap.size+1]?=some o2/\((w.alloc o1).alloc o2).heap.size=w.heap.size+2 from
   ⟨(V0.alloc _ w o1).trans (V0.alloc _ _ o2),HMP.out.at ((A_ _ _ _ (by simp;omega)).trans (A_ _ _ _ X)),(A_ _ _ _ (by simp)).trans (H2 _ _),J5 _ _ _,by simp⟩)
  rcases hcs with⟨q,G⟩|⟨q,G⟩
  case' inl=>
   go_enter Tryz.func40,Tryz.ntmps40;go_wp2_with fail;obtain⟨a1,a2,a3,a4,a5⟩:=e_.out (.cells #[.int .i64 T.kind,.string T.name,.int .i64 T.n,.slice ad T.args.length cap] 26) (.cells #[.int .i64 0,.string ⟨#[]⟩,.int .i64 0,.slice none 0 0] 26);refine(s_.out _ a2).mono ?_;rintro e w1 ⟨rfl,m1,t1⟩;have b3:=(t1.block w.heap.size (by omega) (by omega)).trans a3;have b4:=(t1.block (w.heap.size+1) (by omega) (by omega)).trans a4;have b5:=t1.size;rw [<-G.out.1,<-G.out.2];rw [<-G.out.1]at m1;obtain⟨d0,d1,d2,d3,e0,e1,e2,e3⟩:=P1 b3;have HQ:=D_ b3;have I:Hid (V0 (fun j=>j=mb) w (w1.setCell ⟨w.heap.size,2,none⟩ (.int .i64 n'))/\w.heap.size+2<=(w1.setCell ⟨w.heap.size,2,none⟩ (.int .i64 n')).heap.size/\(w1.setCell ⟨w.heap.size,2,none⟩ (.int .i64 n')).heap[w.heap.size]?=some (.cells #[.int .i64 T.kind,.string T.name,.int .i64 n',.slice ad T.args.length cap] 26 (0,0))/\(w1.setCell ⟨w.heap.size,2,none⟩ (.int .i64 n')).heap[w.heap.size+1]?=some (.cells #[.int .i64 0,.string ⟨#[]⟩,.int .i64 0,.slice none 0 0] 26 (0,0))/\X7 (w1.setCell ⟨w.heap.size,2,none⟩ (.int .i64 n')) mb L0):=D_ (by
    have e:=(a1.trans t1);refine⟨⟨e.os,e.tape,e.output,by simp [World.setCell];omega,fun k hk Z=>(S_ _ _ _ _ (show k≠w.heap.size by omega)).trans (e.block k hk Z)⟩,by simp [World.setCell];omega,?_,(S_ _ _ _ _ (show w.heap.size+1≠w.heap.size by omega)).trans b4,m1.at (S_ _ _ _ _ (show mb≠w.heap.size by omega))⟩;have:=H_ (i:=2) b3 (.int .i64 n');simpa using this)
   clear a1 a2 a3 a4 a5 b3 b4 b5 m1 t1;go_wp2_with fail;generalize w1.setCell _ _=W1 at*;obtain⟨f1,f2,f3,f4,f5⟩:=I.out;refine(E.out _ f1 f2 f3 f4 f5).mono ?_;clear f1 f2 f3 f4 f5 HQ I d0 d1 d2 d3 e0 e1 e2 e3
  case' inr=>
   go_enter Tryz.func40,Tryz.ntmps40;obtain⟨a1,a2,a3,a4,a5⟩:=e_.out (.cells #[.int .i64 T.kind,.string T.name,.int .i64 T.n,.slice ad T.args.length cap] 26) (.cells #[.int .i64 0,.string ⟨#[]⟩,.int .i64 0,.slice none 0 0] 26);rw [<-G.out.1]at a2;have I:=D_ (And.intro a1 (And.intro (Nat.le_of_eq a5.symm) (And.intro a3 (And.intro a4 a2))));have HN9:=D_ G.out.2;clear a1 a2 a3 a4 a5;go_wp2_with fail;generalize (w.alloc _).alloc _=W1 at*;obtain⟨f1,f2,f3,f4,f5⟩:=I.out;rw [<-HN9.out]at f3;refine(E.out _ f1 f2 f3 f4 f5).mono ?_;clear f1 f2 f3 f4 f5 I
  all_goals
   rintro e W2 ⟨adc,capc,g,rfl,h1c,j_,O,B,HN⟩;obtain⟨d0,d1,d2,d3,e0,e1,e2,e3⟩:=P1 B;have f_:=D_ O;unfold maxLen at j_;clear B O;go_wp2_with fail;generalize W2.setCell _ _=W3 at*;clear d0 d1 d2 d3 e0 e1 e2 e3;go_loopw [22] (fun iv wr=> ∃k:Nat,k<=T.args.length/\iv=.int .i64 k/\Hid (NIn n₀ mb L0 T.args g capc #[.int .i64 T.kind,.string T.name,.int .i64 n',.slice adc T.args.length capc] w k wr)) (fun iv _=>T.args.length-(intOf iv).toNat)
   case atStart=>exact⟨0,Nat.zero_le _,rfl,HN⟩
   case round=>
    obtain⟨k,hk,rfl,p⟩:=hrel;obtain⟨d0,d1,d2,d3,e0,e1,e2,e3⟩:=P1 p.out.box;by_cases r:k<T.args.length
    · obtain rfl:=f_.out (by omega);obtain⟨ys,zs,s,a_,b_⟩:=p.out.row (by omega);rw [List.drop_eq_getElem_cons r]at b_;obtain⟨ad1,cap1,zs',rfl,hx,o_⟩:=b_.head;have F:ys.length=k*4:=by rw [a_.length,List.length_map,List.length_take];omega
      obtain⟨c0,c1,c2,c3⟩:=m6 s F;have hwrs:=p.out.turn.size;have hgl:=s.lt g rfl;have i_:=D_ (fun o w2 ad2 cap2 ht hm hx=>NIn.next (o:=o) (w2:=w2) (ad2:=ad2) (cap2:=cap2) r hn X p.out s a_ o_ ht hm hx F);have g_:=D_ (fun (o:Obj) (w2:World) (ht:V0 (fun j=>j=mb) (wr.alloc o) w2)=>show w2.ownsRow (w.heap.size+2) 26 4 (.slice (some ⟨g,0,none⟩) T.args.length capc) T.args.length (ys++(D0 T.args[k] ad1 cap1++zs'))from
       I1 s ((ht.block g (by rw [Z_];omega) (by omega)).trans (A_ _ _ _ (by omega))))
      have w_:=Tm.mem_size (List.getElem_mem r);have hbd:=met_bound (L0:=L0) r;have Y:=p.out.map;have J:=D_ (fun (o:Obj)=>IH.out T.args[k] ad1 cap1 ((wr.alloc o).drew) (I0 L0 ((T.args.take k).flatMap Tm.places)) (by have:=M.out;omega) (by have:=M.out;omega) (by have:=M.out;have:=HL0.out;omega)
       (hx.kept (w':=(wr.alloc o).drew) (Q:=fun b=>b<n₀) (fun b _ u=>(A_ _ _ _ u)) fun _ h _=>h) (Y.at (w':=(wr.alloc o).drew) (A_ _ _ _ Y.lt)))
      have HYL:=D_ F;clear hx o_ a_ b_ s hbd Y w_ F;generalize T.args[k].numT (I0 (I0 L0 ((T.args.take k).flatMap Tm.places)) T.args[k].places)=y at*;generalize I0 (I0 L0 ((T.args.take k).flatMap Tm.places)) T.args[k].places=Lk at*;generalize T.args[k]=x at*;unfold tmv at J;go_upto_region 7 with fail;have U:(wr.alloc (.cells #[.int .i64 x.kind,.string x.name,.int .i64 x.n,.slice ad1 x.args.length cap1] 26)).cell? ⟨w.heap.size,3,none⟩=some (.slice (some ⟨g,0,none⟩) T.args.length capc):=
       (World.cell?_of_block (a:=⟨w.heap.size,3,none⟩) (A_ wr _ _ (by show w.heap.size<wr.heap.size;omega))).trans d3
      have HX0:=D_ (H2 wr (.cells #[.int .i64 x.kind,.string x.name,.int .i64 x.n,.slice ad1 x.args.length cap1] 26));have HW0:Hid ((wr.alloc (.cells #[.int .i64 x.kind,.string x.name,.int .i64 x.n,.slice ad1 x.args.length cap1] 26)).heap.size=wr.heap.size+1):=D_ (Z_ _ _);have q_:=D_ (J.out (.cells #[.int .i64 x.kind,.string x.name,.int .i64 x.n,.slice ad1 x.args.length cap1] 26));have t_:=D_ (i_.out (.cells #[.int .i64 x.kind,.string x.name,.int .i64 x.n,.slice ad1 x.args.length cap1] 26));have p_:=D_ (g_.out (.cells #[.int .i64 x.kind,.string x.name,.int .i64 x.n,.slice ad1 x.args.length cap1] 26));generalize wr.alloc (.cells #[.int .i64 x.kind,.string x.name,.int .i64 x.n,.slice ad1 x.args.length cap1] 26)=w0 at*;obtain⟨x0,x1,x2,x3,_⟩:=P1 HX0.out;have hS0:w0.drew.cell? ⟨w.heap.size,3,none⟩=some (.slice (some ⟨g,0,none⟩) T.args.length capc)/\w0.drew.cell? ⟨wr.heap.size,0,none⟩=some (.int .i64 x.kind)/\w0.drew.cell? ⟨wr.heap.size,1,none⟩=some (.string x.name)/\w0.drew.cell? ⟨wr.heap.size,2,none⟩=some (.int .i64 x.n)/\w0.drew.cell? ⟨wr.heap.size,3,none⟩=some (.slice ad1 x.args.length cap1):=⟨U,x0,x1,x2,x3⟩;have HS1:Hid (∀W,V0 (fun j=>j=mb) w0.drew W->W.cell? ⟨w.heap.size,3,none⟩=some (.slice (some ⟨g,0,none⟩) T.args.length capc)/\W.cell? ⟨wr.heap.size,0,none⟩=some (.int .i64 x.kind)/\W.cell? ⟨wr.heap.size,1,none⟩=some (.string x.name)/\W.cell? ⟨wr.heap.size,2,none⟩=some (.int .i64 x.n)/\W.cell? ⟨wr.heap.size,3,none⟩=some (.slice ad1 x.args.length cap1)):=D_ (fun W t=>by
       have h0:=HW0.out;have k1: ∀b o:Nat,b<w0.heap.size->b≠mb->W.cell? ⟨b,o,none⟩=w0.cell? ⟨b,o,none⟩:=fun b o l H=>World.cell?_of_block (a:=⟨b,o,none⟩) (t.block b l H);exact⟨(k1 _ _ (by omega) (by omega)).trans U,(k1 _ _ (by omega) (by omega)).trans x0,(k1 _ _ (by omega) (by omega)).trans x1,(k1 _ _ (by omega) (by omega)).trans x2,(k1 _ _ (by omega) (by omega)).trans x3⟩)
      have HS3:Hid (∀(W:World) (a b c d:Value),W.cell? ⟨w.heap.size,3,none⟩=some (.slice (some ⟨g,0,none⟩) T.args.length capc)/\W.cell? ⟨wr.heap.size,0,none⟩=some (.int .i64 x.kind)/\W.cell? ⟨wr.heap.size,1,none⟩=some (.string x.name)/\W.cell? ⟨wr.heap.size,2,none⟩=some (.int .i64 x.n)/\W.cell? ⟨wr.heap.size,3,none⟩=some (.slice ad1 x.args.length cap1)->((((W.setCell ⟨g,k*4,none⟩ a).setCell ⟨g,k*4+1,none⟩ b).setCell ⟨g,k*4+2,none⟩ c).setCell ⟨g,k*4+3,none⟩ d).cell? ⟨w.heap.size,3,none⟩=some (.slice (some ⟨g,0,none⟩) T.args.length capc)/\((((W.setCell ⟨g,k*4,none⟩ a).setCell ⟨g,k*4+1,none⟩ b).setCell ⟨g,k*4+2,none⟩ c).setCell ⟨g,k*4+3,none⟩ d).cell? ⟨wr.heap.size,0,none⟩=some (.int .i64 x.kind)/\((((W.setCell ⟨g,k*4,none⟩ a).setCell ⟨g,k*4+1,none⟩ b).setCell ⟨g,k*4+2,none⟩ c).setCell ⟨g,k*4+3,none⟩ d).cell? ⟨wr.heap.size,1,none⟩=some (.string x.name)/\((((W.setCell ⟨g,k*4,none⟩ a).setCell ⟨g,k*4+1,none⟩ b).setCell ⟨g,k*4+2,none⟩ c).setCell ⟨g,k*4+3,none⟩ d).cell? ⟨wr.heap.size,2,none⟩=some (.int .i64 x.n)/\((((W.setCell ⟨g,k*4,none⟩ a).setCell ⟨g,k*4+1,none⟩ b).setCell ⟨g,k*4+2,none⟩ c).setCell ⟨g,k*4+3,none⟩ d).cell? ⟨wr.heap.size,3,none⟩=some (.slice ad1 x.args.length cap1)):=D_ (fun W a b c d h=>by
       have k1: ∀b' o:Nat,b'≠g->((((W.setCell ⟨g,k*4,none⟩ a).setCell ⟨g,k*4+1,none⟩ b).setCell ⟨g,k*4+2,none⟩ c).setCell ⟨g,k*4+3,none⟩ d).cell? ⟨b',o,none⟩=W.cell? ⟨b',o,none⟩:=fun b' o l=>World.cell?_of_block (a:=⟨b',o,none⟩) ((S_ _ _ _ _ (show b'≠g from l)).trans ((S_ _ _ _ _ (show b'≠g from l)).trans ((S_ _ _ _ _ (show b'≠g from l)).trans (S_ _ _ _ _ (show b'≠g from l)))));obtain⟨h0,l,H,h3,h4⟩:=h;exact⟨(k1 _ _ (by omega)).trans h0,(k1 _ _ (by omega)).trans l,(k1 _ _ (by omega)).trans H,(k1 _ _ (by omega)).trans h3,(k1 _ _ (by omega)).trans h4⟩)
      have HFZ:Hid (∀W,V0 (fun j=>j=mb) w0 W->(∃v,W.cell? ⟨g,k*4,none⟩=some v)/\(∃v,W.cell? ⟨g,k*4+1,none⟩=some v)/\(∃v,W.cell? ⟨g,k*4+2,none⟩=some v)/\(∃v,W.cell? ⟨g,k*4+3,none⟩=some v)/\ ∀j,W.frozen? ⟨g,j,none⟩=false):=D_ (fun W t=>by
       have h:=p_.out W t;obtain⟨z0,z1,z2,z3⟩:=m6 h HYL.out;exact⟨⟨_,z0⟩,⟨_,z1⟩,⟨_,z2⟩,⟨_,z3⟩,fun j=>h.frozenAt j⟩)
      clear J i_ g_ U x0 x1 x2 x3 c0 c1 c2 c3 d0 d1 d2 d3 e0 e1 e2 e3;go_region_held3 (fun W=>W.cell? ⟨w.heap.size,3,none⟩=some (.slice (some ⟨g,0,none⟩) T.args.length capc)/\W.cell? ⟨wr.heap.size,0,none⟩=some (.int .i64 x.kind)/\W.cell? ⟨wr.heap.size,1,none⟩=some (.string x.name)/\W.cell? ⟨wr.heap.size,2,none⟩=some (.int .i64 x.n)/\W.cell? ⟨wr.heap.size,3,none⟩=some (.slice ad1 x.args.length cap1))
       (first|with_reducible exact HS3.out _ _ _ _ _ s4|with_reducible exact s4|with_reducible exact hS0)
       (first
         |(go_at_call 40;(with_reducible refine q_.out.mono ?_);rintro e w4 ⟨ad2,cap2,rfl,hx4,m_,hm4⟩;have s4:=HS1.out _ m_;have t4:V0 (fun j=>j=mb) w0 w4:=(V0.drew _ w0).trans m_;obtain⟨⟨z0,y0⟩,⟨z1,y1⟩,⟨z2,y2⟩,⟨z3,y3⟩,yf⟩:=HFZ.out _ t4;have f0:=yf (k*4);have f1:=yf (k*4+1);have f2:=yf (k*4+2);have f3:=yf (k*4+3)))
      go_wp2_with fail;go_roundw
      case rel=>exact⟨k+1,by omega,by go_num,D_ (t_.out w4 ad2 cap2 t4 hm4 (hx4.kept (fun _ _ _=>rfl) fun b u _=>u) _ _ _ _ rfl rfl rfl rfl)⟩
      case measure=>simp [intOf];omega
    · obtain rfl:k=T.args.length:=by omega
      obtain⟨V,N⟩:=p.out.done f_.out;rw [<-u_.out]at V N;have HM9:=D_ V;have y_:=D_ N;obtain⟨g0,g1,g2,g3,k0,k1,k2,k3⟩:=P1 p.out.res;have HT9:=D_ p.out.turn;clear V N;go_wp2_with fail;refine B_ (v:=.agg #[.int .i64 T.kind,.string T.name,.int .i64 n',.slice adc T.args.length capc]) (by simp [results,Tryz.results40,go_sem,g0,g1,g2,g3]) rfl ⟨adc,capc,?_,?_,?_,?_⟩
      · rw [Tm.numT_kind,Tm.numT_name,Tm.numT_len,Tm.numT_n,<-h_.out]
      · refine⟨by rw [Tm.numT_kind];exact HI.out.kind,by rw [Tm.numT_n,<-h_.out];exact r_.out,by rw [Tm.numT_name];exact HI.out.name,by rw [Tm.numT_len];exact h1c,j_,?_⟩;rw [Tm.numT_args];refine y_.out.kept (fun b A _=>?_) (fun b A _=>by omega);rw [S_ _ _ _ _ (show b≠w.heap.size+1 by omega),S_ _ _ _ _ (show b≠w.heap.size+1 by omega),S_ _ _ _ _ (show b≠w.heap.size+1 by omega),S_ _ _ _ _ (show b≠w.heap.size+1 by omega)]
      · have t:=HT9.out;refine⟨t.os,t.tape,t.output,by simp [World.setCell];exact t.size,fun b u Z=>?_⟩;rw [S_ _ _ _ _ (show b≠w.heap.size+1 by omega),S_ _ _ _ _ (show b≠w.heap.size+1 by omega),S_ _ _ _ _ (show b≠w.heap.size+1 by omega),S_ _ _ _ _ (show b≠w.heap.size+1 by omega)];exact t.block b u Z
      · refine HM9.out.at ?_;rw [S_ _ _ _ _ (show mb≠w.heap.size+1 by omega),S_ _ _ _ _ (show mb≠w.heap.size+1 by omega),S_ _ _ _ _ (show mb≠w.heap.size+1 by omega),S_ _ _ _ _ (show mb≠w.heap.size+1 by omega)]
def GEnt:=Tm×Option Addr×Nat
def goalv (x:Tm×Option Addr×Nat):Array Value:= #[tmv x.1 x.2.1 x.2.2]
def GoalAt (T:Tm) (n₀:Nat) (w:World) (k:Nat) (x:Tm×Option Addr×Nat):Prop:=T.body[k]?=some x.1/\TmP w (fun b=>b<n₀) x.1 x.2.1 x.2.2
def jq:List (Tm×Option Addr×Nat)->List Value
 | []=> []
 |e::R=>jq R++D0 e.1 e.2.1 e.2.2
theorem dx: ∀R:List (Tm×Option Addr×Nat),(jq R).length=R.length*4
 | []=>rfl
 |e::R=>by show(jq R++D0 e.1 e.2.1 e.2.2).length=_;rw [P_,dx R,List.length_cons];show _+4=_;omega
structure GIn (w:World) (T:Tm) (n₀ q:Nat) (J:(Nat->Prop)->Nat->World->Prop) (k:Nat) (R:List (Tm×Option Addr×Nat)) (g cap:Nat) (W:World):Prop where
 own:W.ownsRow q 26 4 (.slice (some ⟨g,0,none⟩) R.length cap) R.length (jq R)
 ok: ∀e∈R,TmP W (fun b=>b<n₀) e.1 e.2.1 e.2.2
 j:J (fun j=>j=g) k W
 le:k<=T.body.length
 rest:T.body.drop k=(R.map (·.1)).flatMap Tm.body
 sum:Tm.sizes (R.map (·.1))<=T.size
 lt:q<=W.heap.size
 below:Below n₀ w W
def GInv (w:World) (T:Tm) (n₀ q:Nat) (J:(Nat->Prop)->Nat->World->Prop) (m:Nat) (p:Value) (W:World):Prop:=
 ∃k R g cap,p=.slice (some ⟨g,0,none⟩) R.length cap/\GIn w T n₀ q J k R g cap W/\m=Tm.sizes (R.map (·.1))
theorem GIn.start {T:Tm} {ad:Option Addr} {cap n₀:Nat} {J:(Nat->Prop)->Nat->World->Prop} {w W:World} (d:n₀<=w.heap.size) (a:Below w.heap.size w W) (m:TmP W (fun b=>b<n₀) T ad cap) (i:Q7 J) (g:J (fun _=>False) 0 W):
 GIn w T n₀ W.heap.size J 0 [(T,ad,cap)] W.heap.size 1 (W.alloc (.cells #[.int .i64 T.kind,.string T.name,.int .i64 T.n,.slice ad T.args.length cap] 26)):=by
 refine⟨?_,?_,?_,Nat.zero_le _,by simp,by show T.size+0<=_;omega,by simp,(a.mono d).alloc (Nat.le_trans d a.size) _⟩
 · exact World.ownsRow_lit (base:=W.heap.size) (e:=26) (size:=4) W #[.int .i64 T.kind,.string T.name,.int .i64 T.n,.slice ad T.args.length cap] 1 (R_ _) (by decide) rfl
 · intro e k;obtain rfl:=List.mem_singleton.1 k;exact m.kept (fun b _ c=>A_ _ _ _ c) fun _ h _=>h
 · exact i _ _ 0 W _ g (V0.alloc _ W _) (fun j l=>.inr (by omega)) (fun j l=>by simp;omega)
theorem rest_one {T t:Tm} {R:List Tm} {k:Nat} (h:T.body.drop k=(t::R).flatMap Tm.body) (c:t.two [44]=false):T.body[k]?=some t/\T.body.drop (k+1)=R.flatMap Tm.body/\k<T.body.length:=by
 rw [List.flatMap_cons,Tm.body_one c]at h;have a:T.body[k]?=some t:=by
  have b:(T.body.drop k)[0]?=T.body[k]?:=by rw [List.getElem?_drop,Nat.add_zero]
  rw [<-b,h];rfl
 refine⟨a,?_,(List.getElem?_eq_some_iff.1 a).1⟩;rw [<-List.drop_drop,h];rfl
theorem rest_two {T t a b:Tm} {R:List Tm} {k:Nat} (h:T.body.drop k=(t::R).flatMap Tm.body) (d:t.two [44]=true) (c:t.args= [a,b]):T.body.drop k=(a::b::R).flatMap Tm.body:=by
 rw [h,List.flatMap_cons,Tm.body_two d c,List.flatMap_cons,List.flatMap_cons,List.append_assoc]
theorem cells8 {w:World} {A B:Tm} {ad bd:Option Addr} {ca cb:Nat}: ∀j u,(D0 A ad ca++D0 B bd cb)[j]?=some u->(w.alloc (.cells #[.int .i64 A.kind,.string A.name,.int .i64 A.n,.slice ad A.args.length ca,.int .i64 B.kind,.string B.name,.int .i64 B.n,.slice bd B.args.length cb] 26)).cell? ((⟨w.heap.size,0,none⟩:Addr).add j)=some u:=by
 intro j u a;rw [U8,Nat.zero_add,World.cell?_alloc_at _ _ _ _ rfl];rw [<-a,<-List.getElem?_toArray];rfl
theorem cells8D {w:World} {A B:Tm} {ad bd:Option Addr} {ca cb:Nat}: ∀j u,(D0 A ad ca++D0 B bd cb)[j]?=some u->(w.alloc (.cells #[.int .i64 A.kind,.string A.name,.int .i64 A.n,.slice ad A.args.length ca,.int .i64 B.kind,.string B.name,.int .i64 B.n,.slice bd B.args.length cb] 26)).drew.cell? ((⟨w.heap.size,0,none⟩:Addr).add j)=some u:=cells8
theorem O3 {w:World} {ops:Array Oper} {o:Oper} {a:Act} {K:Act->World->Prop} {Q:Exit->Act->World->Prop} {E:Prop} (k:o.guard=none) (s x:Operand)
 (A:o.op=.call {callee:=.builtin .append,args:= #[s,x],argTypes:= #[24,24]}) {B:Nat} {v:Value} {n:Nat} {xs:List Value} (C:a.eval s=v) (i:w.ownsRow B 26 4 v n xs)
 {g m c:Nat} {news:List Value} (hx:a.eval x=.slice (some ⟨g,0,none⟩) m c) (y:news.length=m*4) (d: ∀j u,news[j]?=some u->w.cell? ((⟨g,0,none⟩:Addr).add j)=some u) (r: ∀u∈news,u.oneCell'=true)
 (z:0<m) (D:n+m<=2000000) (b:B<=w.heap.size)
 (h: ∀g cap w',w'.ownsRow B 26 4 (.slice (some ⟨g,0,none⟩) (n+m) cap) (n+m) (xs++news)->w.grownBy w' v.ownBlock->(v.ownBlock=some g\/g=w.heap.size)->g<w'.heap.size->K (a.put o.dst (.slice (some ⟨g,0,none⟩) (n+m) cap)) w'):
 if Region.wanted o (yielded ops a.tmps)=true then Oper.wp Tryz.prog o a w K Q else E:=by
 obtain⟨i0,t,l,p,q⟩:=info_parts Qx;exact step_append_lies w k s x 24 A B 26 i0 _ 4 56 Tryz.underlying24 t l p q rfl (by decide) v n xs C i _ m c news hx y d r z (by unfold maxLen;omega) (by omega) b _ rfl h
theorem one8 {A B:Tm} {ad bd:Option Addr} {ca cb:Nat}: ∀u∈D0 A ad ca++D0 B bd cb,u.oneCell'=true:=by
 intro u a;simp [D0]at a;rcases a with rfl|rfl|rfl|rfl|rfl|rfl|rfl|rfl<;>rfl
set_option maxRecDepth 100000 in
theorem goals_seq (T:Tm) (ad:Option Addr) (cap Bt n₀:Nat) (w:World) (hM:T.size<=1000000) (O:w.heap[Bt]?=some (.cells #[.int .i64 T.kind,.string T.name,.int .i64 T.n,.slice ad T.args.length cap] 26 (0,0)))
 (hp:TmP w (fun b=>b<n₀) T ad cap) (hn:n₀<=w.heap.size):
 SeqM Tryz.prog 76 #[.pointer (some ⟨Bt,0,none⟩)] goalv (GoalAt T n₀ w) T.body.length n₀ w:=fun l J Jx W V hJ hJx hY h0=>by
 have HJ:=D_ hJ;have HY:=D_ hY;have HG:=D_ (GIn.start hn V (hp.kept (w':=W) (Q:=fun b=>b<n₀) (fun b _ hlt=>V.block b hlt) (fun b h _=>h)) hJ h0);have n_:=(V.block Bt (Array.getElem?_eq_some_iff.1 O).1).trans O;have hnW:n₀<=W.heap.size:=Nat.le_trans hn V.size;have HWW:=D_ V;obtain⟨i0,hi,hz0,hz1,hz2⟩:=info_parts Qx;obtain⟨d0,d1,d2,d3,e0,e1,e2,e3⟩:=P1 n_;clear hJ hJx hY hp O n_ V h0;refine(callsIn_wide (n:=4)).1 ?_;refine callsIn_of_wp Tryz.func76 rfl trivial ?_ rfl;simp only [Tryz.ntmps76,List.size_toArray,List.length_cons,List.length_nil,Nat.reduceAdd,Nat.reduceSub,Array.replicate_succ,Array.replicate_zero,List.push_toArray,List.append_toArray,List.nil_append,List.cons_append]
 gi_wp2
 clear d0 d1 d2 d3 e0 e1 e2 e3;gi_loopw [3] (fun p wr=> ∃m,GInv w T n₀ W.heap.size J m p wr) (fun p wr=>Jz fun m=>GInv w T n₀ W.heap.size J m p wr)
 case atStart=>exact⟨_,0,[(T,ad,cap)],W.heap.size,1,rfl,HG.out,rfl⟩
 case round=>
  obtain⟨m0,t_⟩:=hrel;have hm1:=vJ (R:=fun m=>GInv w T n₀ W.heap.size J m u3 wr) t_;generalize y:Jz (fun m=>GInv w T n₀ W.heap.size J m u3 wr)=m at*;have i_:=D_ y;clear t_ y;obtain⟨k,R,g,cp,rfl,U,u_⟩:=hm1;obtain⟨hg1,hg2,hnc,hcm⟩:=B6 U.own;have hk1:=U.le;have hq:=U.lt;have z_:=U.sum;have h_:=D_ u_;have r:=D_ U;clear u_ U HG;unfold maxLen at hcm;cases R with
  |nil=>
   gi_wp2
   go_end0;have h9:=congrArg List.length r.out.rest;rw [List.length_drop]at h9;have h8:((([]:List (Tm×Option Addr×Nat)).map (·.1)).flatMap Tm.body).length=0:=rfl;obtain rfl:k=T.body.length:=by omega
   exact⟨⟨_,rfl⟩,.inl ⟨_,r.out.j⟩⟩
  | cons e R=>
   obtain⟨t,tad,tcap⟩:=e;have d_:((t,tad,tcap)::R:List (Tm×Option Addr×Nat)).length=R.length+1:=rfl;have G:Tm.sizes (((t,tad,tcap)::R:List (Tm×Option Addr×Nat)).map (·.1))=t.size+Tm.sizes (R.map (·.1)):=rfl;rw [d_]at hnc;rw [G]at z_;have hRl:=Tm.length_le_sizes (R.map (·.1));rw [List.length_map]at hRl;have b_:wr.ownsRow W.heap.size 26 4 (.slice (some ⟨g,0,none⟩) (R.length+1) cp) (R.length+1) (jq R++(D0 t tad tcap++ [])):=by rw [List.append_nil];exact r.out.own
   obtain⟨c0,c1,c2,c3⟩:=m6 b_ (dx R);have c_:wr.ownsRow W.heap.size 26 4 (.slice (some ⟨g,0,none⟩) R.length cp) R.length (jq R):=Go.ownsRow_pop (dx R) r.out.own;have v_:=r.out.ok _ (.head _);have A:=r.out.rest;rw [List.map_cons]at A;have j_:=D_ (fun e z=>r.out.ok e (.tail _ z));have Y:=D_ c_;have C:=D_ (fun W'=>cl_isPairC t.kind t.n t.name tad t.args.length tcap W');have m_:=D_ v_;have I:=D_ A;have B:=D_ (show g<wr.heap.size/\W.heap.size<=g from⟨hg2,hg1⟩);rw [d_];clear b_ c_ v_ A d_;cases H:t.two [44]with
   | true=>
    obtain⟨a,b,M⟩:=Tm.two_args H;rw [show D9 [44] t.kind t.name.data.toList t.args.length=true from H]at C;have Z:=D_ (rest_two I.out H M);have hsz:t.size=1+(a.size+(b.size+0)):=by rw [t.size_eq,M];rfl
    have y_:t.args.length=2:=by rw [M];rfl
    have F:=m_.out.args;rw [M]at F;obtain⟨b0,o,rfl⟩:=F.addr2 (by simp);have HA0:=D_ (F.getP 0 (by simp));have HA1:=D_ (F.getP 1 (by simp));rw [y_]at C c3;clear F H;refine wpIn_wide.2 ?_;go_wp2_with fail;refine(C.out _).mono ?_;rintro e w3 ⟨rfl,s⟩;have d3:=(S1 s).1 3;have d:Below wr.heap.size wr w3:=((F_ _ wr).alloc (R_ _) _).trans (s.mono (by simp));obtain⟨aad,acap,hbn,x0,x1,x2,x3,f_⟩:=HA0.out;obtain⟨bad,bcap,_,z0,z1,z2,z3,g_⟩:=HA1.out;have kk: ∀i,w3.cell? ⟨b0,i,none⟩=wr.cell? ⟨b0,i,none⟩:=fun i=>d.cell (p:=⟨b0,i,none⟩) (show b0<wr.heap.size by omega);rw [<-kk]at x0 x1 x2 x3 z0 z1 z2 z3;simp only [Nat.zero_mul,Nat.one_mul,Nat.add_zero,List.getElem_cons_zero,List.getElem_cons_succ]at x0 x1 x2 x3 z0 z1 z2 z3 f_ g_
    have E:=s.size;rw [Z_]at E;have x:=D_ d;have HXA:=D_ f_;have HXB:=D_ g_;clear kk f_ g_ s d c0 c1 c2 c3;go_upto_region 6 with fail;have hR1:R.length+2<=2000000:=by omega
    have HS:Hid (∀W':World,(∀b',b'<w3.heap.size->b'≠g->W'.heap[b']?=w3.heap[b']?)->W'.cell? ⟨wr.heap.size,3,none⟩=some (.slice (some ⟨b0,o,none⟩) 2 tcap)/\W'.cell? ⟨b0,o,none⟩=some (.int .i64 a.kind)/\W'.cell? ⟨b0,o+1,none⟩=some (.string a.name)/\W'.cell? ⟨b0,o+2,none⟩=some (.int .i64 a.n)/\W'.cell? ⟨b0,o+3,none⟩=some (.slice aad a.args.length acap)/\W'.cell? ⟨b0,o+4,none⟩=some (.int .i64 b.kind)/\W'.cell? ⟨b0,o+4+1,none⟩=some (.string b.name)/\W'.cell? ⟨b0,o+4+2,none⟩=some (.int .i64 b.n)/\W'.cell? ⟨b0,o+4+3,none⟩=some (.slice bad b.args.length bcap)):=D_ (fun W' h=>by
     have hgq:=B.out;have kc: ∀b' i:Nat,b'<w3.heap.size->b'≠g->W'.cell? ⟨b',i,none⟩=w3.cell? ⟨b',i,none⟩:=fun b' i h1 h2=>World.cell?_of_block (a:=⟨b',i,none⟩) (h b' h1 h2);exact⟨(kc _ _ (by omega) (by omega)).trans d3,(kc _ _ (by omega) (by omega)).trans x0,(kc _ _ (by omega) (by omega)).trans x1,(kc _ _ (by omega) (by omega)).trans x2,(kc _ _ (by omega) (by omega)).trans x3,(kc _ _ (by omega) (by omega)).trans z0,(kc _ _ (by omega) (by omega)).trans z1,(kc _ _ (by omega) (by omega)).trans z2,(kc _ _ (by omega) (by omega)).trans z3⟩)
    have hS0:=HS.out w3.drew (fun _ _ _=>rfl);have hSA:=HS.out (w3.alloc (.cells #[.int .i64 b.kind,.string b.name,.int .i64 b.n,.slice bad b.args.length bcap,.int .i64 a.kind,.string a.name,.int .i64 a.n,.slice aad a.args.length acap] 26)).drew (fun b' u _=>A_ w3 _ _ u);have HS9:=D_ (fun (W9:World) (hgr:(w3.alloc (.cells #[.int .i64 b.kind,.string b.name,.int .i64 b.n,.slice bad b.args.length bcap,.int .i64 a.kind,.string a.name,.int .i64 a.n,.slice aad a.args.length acap] 26)).drew.grownBy W9 (Value.slice (some ⟨g,0,none⟩) R.length cp).ownBlock)=>HS.out W9 (fun b' u D=>(hgr.block b' (by show b'<(w3.alloc _).heap.size;rw [Z_];exact Nat.lt_succ_of_lt u) (fun e=>D (by simpa [Value.ownBlock]using e))).trans (A_ w3 _ _ u)));have x_:Hid ((w3.alloc (.cells #[.int .i64 b.kind,.string b.name,.int .i64 b.n,.slice bad b.args.length bcap,.int .i64 a.kind,.string a.name,.int .i64 a.n,.slice aad a.args.length acap] 26)).drew.ownsRow W.heap.size 26 4 (.slice (some ⟨g,0,none⟩) R.length cp) R.length (jq R)):=D_ (I1 Y.out ((A_ w3 _ _ (by show g<w3.heap.size;have:=B.out.1;omega)).trans (x.out.block g B.out.1)));have hbq:W.heap.size<=(w3.alloc (.cells #[.int .i64 b.kind,.string b.name,.int .i64 b.n,.slice bad b.args.length bcap,.int .i64 a.kind,.string a.name,.int .i64 a.n,.slice aad a.args.length acap] 26)).drew.heap.size:=by show W.heap.size<=(w3.alloc _).heap.size;rw [Z_];omega
    have q:Hid (Below wr.heap.size wr w3.drew):=D_ x.out.drew;have hsd:wr.heap.size+1<=w3.drew.heap.size:=E;clear x0 x1 x2 x3 z0 z1 z2 z3 d3 E x HS;go_region_held3 (fun W'=>W'.cell? ⟨wr.heap.size,3,none⟩=some (.slice (some ⟨b0,o,none⟩) 2 tcap)/\W'.cell? ⟨b0,o,none⟩=some (.int .i64 a.kind)/\W'.cell? ⟨b0,o+1,none⟩=some (.string a.name)/\W'.cell? ⟨b0,o+2,none⟩=some (.int .i64 a.n)/\W'.cell? ⟨b0,o+3,none⟩=some (.slice aad a.args.length acap)/\W'.cell? ⟨b0,o+4,none⟩=some (.int .i64 b.kind)/\W'.cell? ⟨b0,o+4+1,none⟩=some (.string b.name)/\W'.cell? ⟨b0,o+4+2,none⟩=some (.int .i64 b.n)/\W'.cell? ⟨b0,o+4+3,none⟩=some (.slice bad b.args.length bcap))
     (first|with_reducible exact s9|with_reducible exact hSA|with_reducible exact hS0)
     (first
       |(refine O3 (by rfl) (.tmp 23) (.tmp 32) (by rfl) (by rfl) x_.out (by rfl) (by rfl) cells8D one8 (by decide) hR1 hbq ?_;intro g9 cap9 W9 N c v hlt9;have s9:=HS9.out W9 c))
    generalize w_:w3.drew=wd at q hsd;have c:(wd.alloc (.cells #[.int .i64 b.kind,.string b.name,.int .i64 b.n,.slice bad b.args.length bcap,.int .i64 a.kind,.string a.name,.int .i64 a.n,.slice aad a.args.length acap] 26)).grownBy W9 (Value.slice (some ⟨g,0,none⟩) R.length cp).ownBlock:=by rw [<-w_];exact c
    have v:(Value.slice (some ⟨g,0,none⟩) R.length cp).ownBlock=some g9\/g9=wd.heap.size+1:=by
     rw [<-w_];rcases v with h|h
     · exact .inl h
     · exact .inr (h.trans (Z_ w3 _))
    have e_:=c.size;rw [Z_]at e_;have hg9:g9=g\/g9=wd.heap.size+1:=by
     rcases v with h|h
     · left;simpa [Value.ownBlock]using h.symm
     · exact .inr (by first|exact h|simpa using h)
    have k9: ∀b',b'<wd.heap.size->b'≠g->W9.heap[b']?=wd.heap[b']?:=fun b' u D=>
     (c.block b' (by rw [Z_];omega) (fun e=>D (by simpa [Value.ownBlock]using e))).trans (A_ _ _ _ u)
    have r_:GIn w T n₀ W.heap.size J k ((a,aad,acap)::(b,bad,bcap)::R) g9 cap9 W9:=by
     have X:=r.out;have hgq:=B.out.2;refine⟨?_,?_,?_,X.le,Z.out,by show a.size+(b.size+_)<=_;omega,by omega,X.below.trans ⟨c.os.trans q.out.os,c.tape.trans q.out.tape,c.output.trans q.out.output,by omega,fun b' u=>(k9 b' (by have:=q.out.size;omega) (by omega)).trans (q.out.block b' (by omega))⟩⟩
     · show W9.ownsRow W.heap.size 26 4 (.slice (some ⟨g9,0,none⟩) (R.length+2) cap9) (R.length+2) ((jq R++D0 b bad bcap)++D0 a aad acap)
       rw [List.append_assoc];exact N
     · have kept: ∀ {e:Tm×Option Addr×Nat},TmP wr (fun b=>b<n₀) e.1 e.2.1 e.2.2->TmP W9 (fun b=>b<n₀) e.1 e.2.1 e.2.2:=fun h=>h.kept (fun b' u hl=>(k9 b' (by have:=q.out.size;omega) (by omega)).trans (q.out.block b' hl)) fun _ h _=>h;intro e z;rcases List.mem_cons.1 z with rfl|z
       · exact kept HXA.out
       · rcases List.mem_cons.1 z with rfl|z
         · exact kept HXB.out
         · exact kept (j_.out e z)
     · refine HJ.out _ _ k wr W9 X.j ⟨c.os.trans q.out.os,c.tape.trans q.out.tape,c.output.trans q.out.output,by omega,fun b' u D=>(k9 b' (by have:=q.out.size;omega) D).trans (q.out.block b' u)⟩ (fun j hj=>?_) (fun j hj=>by omega);rcases hg9 with h|h
       · exact .inl (hj.trans h)
       · exact .inr (by have:=q.out.size;omega)
    have l_:=D_ r_;clear N c v e_ k9 r_;go_wp2;refine⟨⟨_,k,_,g9,cap9,rfl,l_.out,rfl⟩,?_⟩;have y:(Jz fun m=>GInv w T n₀ W.heap.size J m (Value.slice (some ⟨g,0,none⟩) (R.length+1) cp) wr)=m:=i_.out;rw [y,h_.out];refine Nat.lt_of_le_of_lt (Rx (m:=Tm.sizes (((a,aad,acap)::(b,bad,bcap)::R:List (Tm×Option Addr×Nat)).map (·.1))) ⟨k,_,g9,cap9,rfl,l_.out,rfl⟩) ?_;rw [G];show a.size+(b.size+_)<_
    omega
   |false=>
    rw [show D9 [44] t.kind t.name.data.toList t.args.length=false from H]at C;obtain⟨r1,r2,r3⟩:=rest_one I.out H;have v:GoalAt T n₀ w k (t,tad,tcap):=⟨r1,m_.out.kept (fun b u _=>(r.out.below.block b u).symm) fun _ h _=>h⟩;have HAT:=D_ v;have Z:=D_ r2;clear H v r1 r2;gi_wp2_with fail
    refine⟨trivial,(callsIn_wide.2 (C.out _)).mono ?_⟩;rintro e w3 ⟨rfl,s⟩;have d0:=(S1 s).1 0;have d1:=(S1 s).1 1;have d2:=(S1 s).1 2;have d3:=(S1 s).1 3;have d:Below wr.heap.size wr w3:=((F_ _ wr).alloc (R_ _) _).trans (s.mono (by simp));have E:=d.size;have o_:J (fun j=>j=g) k w3:=HJ.out _ _ k wr w3 r.out.j ⟨d.os,d.tape,d.output,E,fun b' u _=>d.block b' u⟩ (fun j hj=>.inl hj) (fun j hj=>by omega);obtain⟨fn,tmps,assign,body,hy,hR⟩:=HY.out (fun j=>j=g) k (t,tad,tcap) w3 o_ r3 HAT.out;unfold goalv tmv at hy;dsimp only at hy;have HR:=D_ hR;have x:=D_ d;clear hR o_ s d c0 c1 c2 c3;gi_wp2
    refine HR.out.mono ?_;rintro e W4 (⟨rfl,p_,s_,a_⟩|⟨rfl,hJx4⟩)
    · have q_:GIn w T n₀ W.heap.size J (k+1) R g cp W4:=by
       have X:=r.out;have O:Below n₀ wr W4:=(x.out.mono (by omega)).trans s_;refine⟨I1 Y.out ((a_.same g rfl).trans (x.out.block g B.out.1)),fun e z=>(j_.out e z).kept (fun b u _=>O.block b u) fun _ h _=>h,p_,r3,Z.out,by omega,by have:=a_.size;omega,X.below.trans O⟩
      have k_:=D_ q_;clear q_ p_ s_ a_;gi_wp2
      refine⟨⟨_,k+1,R,g,cp,rfl,k_.out,rfl⟩,?_⟩;have y:(Jz fun m=>GInv w T n₀ W.heap.size J m (Value.slice (some ⟨g,0,none⟩) (R.length+1) cp) wr)=m:=i_.out;rw [y,h_.out];refine Nat.lt_of_le_of_lt (Rx (m:=Tm.sizes (R.map (·.1))) ⟨k+1,R,g,cp,rfl,k_.out,rfl⟩) ?_;rw [G];have:=t.size_pos;omega
    · have HJX:=D_ hJx4;clear hJx4;gi_wp2
      refine B_ (results_none rfl _ _ _) rfl ?_;exact⟨⟨_,rfl⟩,.inr ⟨_,k+1,by omega,HJX.out⟩⟩
theorem fs_of {s:ByteArray} {l:List UInt8} (h:s.data.toList≠l):(s.toList==l)=false:=by rw [ByteArray.toList_eq];exact beq_eq_false_iff_ne.2 h
theorem ts_of {s:ByteArray} {l:List UInt8} (h:s.data.toList=l):(s.toList==l)=true:=by rw [ByteArray.toList_eq,h];exact beq_self_eq_true l
theorem XZ (t s:List UInt8):(t==s)=decide (s=t):=by
 by_cases h:s=t
 · rw [decide_eq_true h,h];exact beq_self_eq_true t
 · rw [decide_eq_false h];exact beq_eq_false_iff_ne.2 (fun e=>h e.symm)
set_option maxRecDepth 100000 in
theorem rc_IsC (k n:Int) (s:ByteArray) (ad:Option Addr) (len cap:Nat) (w:World):
 Calls Tryz.prog 44 #[.agg #[.int .i64 k,.string s,.int .i64 n,.slice ad len cap],.string ⟨#[44]⟩,.int .i64 2] w fun e w'=>e=.returned (.bool (D9 [44] k s.data.toList len))/\Below w.heap.size w w':=by
 have b:=D_ (fun o:Obj=>(F_ w.heap.size w).alloc (R_ _) o);unfold D9;by_cases c:k=4
 · subst c;by_cases a:s.data.toList= [44]
   · have g:=ts_of a;rw [decide_eq_true a];by_cases d:len=2
     · subst d;clear a;go_enter Tryz.func44,Tryz.ntmps44;go_wp2_with fail;go_ret;exact⟨rfl,b.out _⟩
     · rw [decide_eq_false d];have i:((len:Int)==2)=false:=by simp;omega
       clear a d;go_enter Tryz.func44,Tryz.ntmps44;go_wp2_with fail;go_ret;exact⟨rfl,b.out _⟩
   · have g:=fs_of a;rw [decide_eq_false a];clear a;go_enter Tryz.func44,Tryz.ntmps44;go_wp2_with fail;go_ret;exact⟨rfl,b.out _⟩
 · have h:(k==4)=false:=by simpa using c
   rw [decide_eq_false c];clear c;go_enter Tryz.func44,Tryz.ntmps44;go_wp2_with fail;go_ret;exact⟨rfl,b.out _⟩
set_option maxRecDepth 100000 in
theorem rc_IsR (k n:Int) (s:ByteArray) (ad:Option Addr) (len cap:Nat) (w:World):
 Calls Tryz.prog 44 #[.agg #[.int .i64 k,.string s,.int .i64 n,.slice ad len cap],.string ⟨#[58,45]⟩,.int .i64 2] w fun e w'=>e=.returned (.bool (D9 [58,45] k s.data.toList len))/\Below w.heap.size w w':=by
 have b:=D_ (fun o:Obj=>(F_ w.heap.size w).alloc (R_ _) o);unfold D9;by_cases c:k=4
 · subst c;by_cases a:s.data.toList= [58,45]
   · have g:=ts_of a;rw [decide_eq_true a];by_cases d:len=2
     · subst d;clear a;go_enter Tryz.func44,Tryz.ntmps44;go_wp2_with fail;go_ret;exact⟨rfl,b.out _⟩
     · rw [decide_eq_false d];have i:((len:Int)==2)=false:=by simp;omega
       clear a d;go_enter Tryz.func44,Tryz.ntmps44;go_wp2_with fail;go_ret;exact⟨rfl,b.out _⟩
   · have g:=fs_of a;rw [decide_eq_false a];clear a;go_enter Tryz.func44,Tryz.ntmps44;go_wp2_with fail;go_ret;exact⟨rfl,b.out _⟩
 · have h:(k==4)=false:=by simpa using c
   rw [decide_eq_false c];clear c;go_enter Tryz.func44,Tryz.ntmps44;go_wp2_with fail;go_ret;exact⟨rfl,b.out _⟩
def WQ (w:World) (ad:Option Addr) (l:List (List UInt8)):Prop:= ∀j (hj:j<l.length),∃g,ad=some ⟨g,0,none⟩/\w.cell? ⟨g,j,none⟩=some (.string ⟨l[j].toArray⟩)
theorem WQ.on {w w':World} {ad:Option Addr} {l:List (List UInt8)} (h:WQ w ad l) (c:Below w.heap.size w w'):WQ w' ad l:=fun j d=>by
 obtain⟨g,b,a⟩:=h j d;exact⟨g,b,(c.cell (p:=⟨g,j,none⟩) (L_ w ⟨g,j,none⟩ a)).trans a⟩
set_option maxRecDepth 100000 in
theorem rc_has (l:List (List UInt8)) (s:ByteArray) (ad:Option Addr) (cap:Nat) (w:World) (h:WQ w ad l) (r:l.length<=100):
 Calls Tryz.prog 33 #[.slice ad l.length cap,.string s] w fun e w'=>e=.returned (.bool (l.any fun t=>t==s.data.toList))/\w=w':=by
 obtain⟨E,i⟩: ∃E,(l.any fun t=>t==s.data.toList)=E:=⟨_,rfl⟩;rw [i];have m:=D_ i;have H:=D_ h;clear i h;go_enter Tryz.func33,Tryz.ntmps33;go_wp2_with fail;go_loopw [9] (fun iv wr=> ∃k:Nat,k<=l.length/\iv=.int .i64 k/\w=wr/\Hid (((l.take k).any fun t=>t==s.data.toList)=false)) (fun iv _=>l.length-(intOf iv).toNat)
 case atStart=>exact⟨0,Nat.zero_le _,rfl,rfl,D_ rfl⟩
 case round=>
  obtain⟨k,q,rfl,rfl,c⟩:=hrel;by_cases a:k<l.length
  · obtain⟨g,rfl,hc⟩:=H.out k a;have p:=D_ (show((l.take (k+1)).any fun t=>t==s.data.toList)=(l[k]==s.data.toList) by rw [U_ a,List.any_append,c.out];simp);have o:=D_ (fun h:(l[k]==s.data.toList)=true=>show E=true from m.out.symm.trans (List.any_eq_true.2 ⟨l[k],List.getElem_mem a,h⟩));have b:(l[k]==s.toList)=(l[k]==s.data.toList):=by rw [ByteArray.toList_eq]
    generalize l[k]=x at*;cases hx:(x==s.data.toList)with
    |true=>
     rw [hx]at b;have d:=D_ (o.out hx);clear hx;go_wp2_with fail;go_ret;exact⟨N7 d.out.symm,rfl⟩
    |false=>
     rw [hx]at b;have n:=D_ (p.out.trans hx);clear hx;go_wp2_with fail;go_roundw
     case rel=>exact⟨k+1,by omega,by go_num,by first|rfl|trivial,n⟩
     case measure=>simp [intOf];omega
  · have j:=c.out;rw [List.take_of_length_le (by omega)]at j;have d:Hid (E=false):=D_ (m.out.symm.trans j);clear j c;go_wp2_with fail;go_ret;exact⟨N7 d.out.symm,rfl⟩
theorem Jq (w:World) (l:List (List UInt8)) (C:Array Value) (a:C=(l.map fun x=>Value.string ⟨x.toArray⟩).toArray):WQ (w.alloc (.cells C 9)) (some ⟨w.heap.size,0,none⟩) l:=fun j b=>by
 subst a;refine⟨_,rfl,(World.cell?_alloc_at _ _ _ _ rfl).trans ?_⟩;simp [b]
set_option maxRecDepth 100000 in
theorem rc_Names (n:Int) (w:World):
 Calls Tryz.prog 34 #[.int .i64 n] w fun e w'=> ∃ad,e=.returned (.slice ad (Zq n).length (Zq n).length)/\WQ w' ad (Zq n)/\Below w.heap.size w w':=by
 have b:=D_ (fun o:Obj=>(F_ w.heap.size w).alloc (R_ _) o);by_cases e0:n=0
 · subst e0;have a:=D_ (Jq w (Zq 0) _ rfl);go_enter Tryz.func34,Tryz.ntmps34;go_wp2_with fail;go_ret;exact⟨_,rfl,a.out,b.out _⟩
 have f0:(n==0)=false:=beq_eq_false_iff_ne.2 e0;by_cases e1:n=1
 · subst e1;have a:=D_ (Jq w (Zq 1) _ rfl);go_enter Tryz.func34,Tryz.ntmps34;go_wp2_with fail;go_ret;exact⟨_,rfl,a.out,b.out _⟩
 have f1:(n==1)=false:=beq_eq_false_iff_ne.2 e1;by_cases e2:n=2
 · subst e2;have a:=D_ (Jq w (Zq 2) _ rfl);go_enter Tryz.func34,Tryz.ntmps34;go_wp2_with fail;go_ret;exact⟨_,rfl,a.out,b.out _⟩
 have f2:(n==2)=false:=beq_eq_false_iff_ne.2 e2;by_cases e3:n=3
 · subst e3;have a:=D_ (Jq w (Zq 3) _ rfl);go_enter Tryz.func34,Tryz.ntmps34;go_wp2_with fail;go_ret;exact⟨_,rfl,a.out,b.out _⟩
 have f3:(n==3)=false:=beq_eq_false_iff_ne.2 e3;rw [show Zq n= []from by unfold Zq;rw [I_ e0,I_ e1,I_ e2,I_ e3]];clear e0 e1 e2 e3;go_enter Tryz.func34,Tryz.ntmps34;go_wp2_with fail;go_ret;exact⟨_,rfl,fun j c=>by simp at c,F_ _ _⟩
theorem bltN_len (n:Int):(Zq n).length<=100:=by unfold Zq;split<;>(try split)<;>(try split)<;>(try split)<;>decide
set_option maxRecDepth 100000 in
theorem eQ (s:ByteArray) (n:Int) (w:World):
 Calls Tryz.prog 11 #[.string s,.int .i64 n] w fun e w'=>e=.returned (.bool (m4 s.data.toList n))/\Below w.heap.size w w':=by
 have h:=D_ (rc_Names n w);have g:=D_ (bltN_len n);unfold m4;generalize Zq n=l at*;go_enter Tryz.func11,Tryz.ntmps11;go_wp2_with fail;refine h.out.mono ?_;rintro e w1 ⟨ad,rfl,a,b⟩;have d:=D_ (rc_has l s ad l.length w1 a g.out);have c:=D_ b;clear a b;go_wp2_with fail;refine d.out.mono ?_;rintro e w2 ⟨rfl,rfl⟩;go_wp2_with fail;go_ret;exact⟨rfl,c.out⟩
set_option maxRecDepth 100000 in
theorem uz (k n:Int) (s:ByteArray) (ad:Option Addr) (len cap:Nat) (w:World):
 Calls Tryz.prog 45 #[.agg #[.int .i64 k,.string s,.int .i64 n,.slice ad len cap]] w fun e w'=>e=.returned (.bool (V7 k s.data.toList len))/\Below w.heap.size w w':=by
 have g:=D_ (fun o:Obj=>(F_ w.heap.size w).alloc (R_ _) o);have h:=D_ (fun o o2:Obj=>((F_ w.heap.size w).alloc (R_ _) o).alloc (by simp) o2);by_cases a:k=2\/k=4
 · have c:(decide (k=2)||decide (k=4))=true:=by rcases a with rfl|rfl<;>rfl
   unfold V7;rw [c,Bool.true_and];unfold Z6;by_cases l1:len=1
   · subst l1;have b:=fun (o:Obj)=>rc_has [[92,43],[58,45],[63,45]] s (some ⟨(w.alloc o).heap.size,0,none⟩) 3 _ (Jq (w.alloc o) [[92,43],[58,45],[63,45]] #[.string ⟨#[92,43]⟩,.string ⟨#[58,45]⟩,.string ⟨#[63,45]⟩] rfl) (by decide);simp only [Z_]at b
     have d:=D_ b;clear b;have e1:([[92,43],[58,45],[63,45]].any fun t=>t==s.data.toList)=(decide (s.data.toList= [92,43])||(decide (s.data.toList= [58,45])||decide (s.data.toList= [63,45]))):=by
      simp only [List.any_cons,List.any_nil,Bool.or_false,XZ]
     rw [e1]at d;rw [show decide ((1:Nat)=1)=true from rfl,show decide ((1:Nat)=2)=false from rfl,Bool.true_and,Bool.false_and,Bool.or_false];generalize (decide (s.data.toList= [92,43])||(decide (s.data.toList= [58,45])||decide (s.data.toList= [63,45])))=v at*;rcases a with rfl|rfl
     all_goals
      clear c e1;go_enter Tryz.func45,Tryz.ntmps45;go_wp2_with fail;refine(d.out _).mono ?_;rintro e w1 ⟨rfl,rfl⟩;go_wp2_with fail;go_ret;exact⟨rfl,h.out _ _⟩
   by_cases l2:len=2
   · subst l2;have b:=fun (o:Obj)=>rc_has [[44],[59],[45,62],[58,45]] s (some ⟨(w.alloc o).heap.size,0,none⟩) 4 _ (Jq (w.alloc o) [[44],[59],[45,62],[58,45]] #[.string ⟨#[44]⟩,.string ⟨#[59]⟩,.string ⟨#[45,62]⟩,.string ⟨#[58,45]⟩] rfl) (by decide);simp only [Z_]at b
     have d:=D_ b;clear b;have e1:([[44],[59],[45,62],[58,45]].any fun t=>t==s.data.toList)=(decide (s.data.toList= [44])||(decide (s.data.toList= [59])||(decide (s.data.toList= [45,62])||decide (s.data.toList= [58,45])))):=by
      simp only [List.any_cons,List.any_nil,Bool.or_false,XZ]
     rw [e1]at d;rw [show decide ((2:Nat)=1)=false from rfl,show decide ((2:Nat)=2)=true from rfl,Bool.true_and,Bool.false_and,Bool.false_or];generalize (decide (s.data.toList= [44])||(decide (s.data.toList= [59])||(decide (s.data.toList= [45,62])||decide (s.data.toList= [58,45]))))=v at*;rcases a with rfl|rfl
     all_goals
      clear c e1 l1;go_enter Tryz.func45,Tryz.ntmps45;go_wp2_with fail;refine(d.out _).mono ?_;rintro e w1 ⟨rfl,rfl⟩;go_wp2_with fail;go_ret;exact⟨rfl,h.out _ _⟩
   have f1:((len:Int)==1)=false:=beq_eq_false_iff_ne.2 (by omega);have f2:((len:Int)==2)=false:=beq_eq_false_iff_ne.2 (by omega);rw [decide_eq_false l1,decide_eq_false l2];rcases a with rfl|rfl
   all_goals
    clear c l1 l2;go_enter Tryz.func45,Tryz.ntmps45;go_wp2_with fail;go_ret;exact⟨rfl,g.out _⟩
 · have i:(k !=2)=true:=bne_iff_ne.2 (fun e=>a (.inl e));have j:(k !=4)=true:=bne_iff_ne.2 (fun e=>a (.inr e));unfold V7;rw [decide_eq_false (fun e=>a (.inl e)),decide_eq_false (fun e=>a (.inr e))];clear a;go_enter Tryz.func45,Tryz.ntmps45;go_wp2_with fail;go_ret;exact⟨rfl,g.out _⟩
end Go.Proofs.YtinefdlkajnomaaGreatDoor
