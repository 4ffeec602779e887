import Derived.RangeFuncNested
import Derived.RangeFuncBound
import Derived.RangeFuncCalls
import Derived.RangeFuncLeaves
import Derived.WalkKit
import Derived.OwnWalkIn
import Derived.TacticsInMore
import Derived.Test.YtinefdlkajnomaaGreatDoorMTermMR
import Derived.LoopIn
import Derived.LoopNIn
import Derived.Shelf.Abstract
namespace Go.Proofs.YtinefdlkajnomaaGreatDoor
open Go.RowKit
structure V0 (M:Nat->Prop) (W W':World):Prop where
 os:W'.os=W.os
 tape:W'.tape=W.tape
 output:W'.output=W.output
 size:W.heap.size<=W'.heap.size
 block: ∀k,k<W.heap.size-> ¬M k->W'.heap[k]?=W.heap[k]?
def Q7 (I:(Nat->Prop)->Nat->World->Prop):Prop:=
 ∀(M M':Nat->Prop) (k:Nat) (A B:World),I M k A->V0 M A B->(∀j,M' j->M j\/A.heap.size<=j)->(∀j,M' j->j<B.heap.size)->I M' k B
structure T2 (M:Nat->Prop) (W W':World):Prop where
 size:W.heap.size<=W'.heap.size
 same: ∀j,M j->W'.heap[j]?=W.heap[j]?
theorem T2.refl (M:Nat->Prop) (W:World):T2 M W W:=⟨R_ _,fun _ _=>rfl⟩
theorem T2.trans {M:Nat->Prop} {A B C:World} (h:T2 M A B) (k:T2 M B C):T2 M A C:=⟨Nat.le_trans h.size k.size,fun j a=>(k.same j a).trans (h.same j a)⟩
theorem T2.less {M M':Nat->Prop} {A B:World} (h:T2 M A B) (b: ∀j,M' j->M j):T2 M' A B:=⟨h.size,fun j a=>h.same j (b j a)⟩
theorem V0.more {M M':Nat->Prop} {A B:World} (h:V0 M A B) (d: ∀j,M j->M' j):V0 M' A B:=⟨h.os,h.tape,h.output,h.size,fun k a c=>h.block k a (fun b=>c (d k b))⟩
theorem V0.refl (M:Nat->Prop) (W:World):V0 M W W:=⟨rfl,rfl,rfl,R_ _,fun _ _ _=>rfl⟩
theorem V0.trans {M:Nat->Prop} {A B C:World} (h:V0 M A B) (k:V0 M B C):V0 M A C:=⟨k.os.trans h.os,k.tape.trans h.tape,k.output.trans h.output,Nat.le_trans h.size k.size,fun i a b=>(k.block i (Nat.lt_of_lt_of_le a h.size) b).trans (h.block i a b)⟩
theorem V0.below {M:Nat->Prop} {A B:World} {n:Nat} (h:V0 M A B) (a: ∀j,M j->n<=j) (d:n<=A.heap.size):Below n A B:=
 ⟨h.os,h.tape,h.output,h.size,fun k c=>h.block k (by omega) (fun b=>by have:=a k b;omega)⟩
theorem V0.put (M:Nat->Prop) (W:World) {l:Nat} (a:M l) (o:Obj):V0 M W (W.putObj l o):=
 ⟨rfl,rfl,rfl,by simp,fun k _ b=>World.putObj_heap_other (fun e=>b (e▸a))⟩
theorem V0.alloc (M:Nat->Prop) (W:World) (o:Obj):V0 M W (W.alloc o):=⟨rfl,rfl,rfl,by simp,fun k a _=>A_ _ _ _ a⟩
theorem V0.drew (M:Nat->Prop) (W:World):V0 M W W.drew:=⟨rfl,rfl,rfl,R_ _,fun _ _ _=>rfl⟩
theorem V0.set (M:Nat->Prop) (W:World) {p:Addr} (a:M p.block) (v:Value):V0 M W (W.setCell p v):=
 ⟨rfl,rfl,rfl,by simp [World.setCell],fun k _ b=>S_ _ _ _ _ (fun e=>b (e▸a))⟩
theorem V0.of_below {n:Nat} {A B:World} (h:Below n A B):V0 (fun j=>n<=j) A B:=⟨h.os,h.tape,h.output,h.size,fun k _ a=>h.block k (Nat.lt_of_not_le a)⟩
theorem T2.alloc {M:Nat->Prop} {W:World} (a: ∀j,M j->j<W.heap.size) (o:Obj):T2 M W (W.alloc o):=⟨by simp,fun j b=>A_ _ _ _ (a j b)⟩
theorem T2.set {M:Nat->Prop} (W:World) {p:Addr} (b: ¬M p.block) (v:Value):T2 M W (W.setCell p v):=⟨by simp [World.setCell],fun j a=>S_ _ _ _ _ (fun e=>b (e▸a))⟩
theorem T2.of_below {M:Nat->Prop} {n:Nat} {A B:World} (h:Below n A B) (a: ∀j,M j->j<n):T2 M A B:=⟨h.size,fun j b=>h.block j (a j b)⟩
def SeqM {α:Type} (P:Program) (g:Nat) (lb:Array Value) (encs:α->Array Value) (At:Nat->α->Prop) (N n₀:Nat) (w:World):Prop:=
 ∀ (l:Nat) (J Jx:(Nat->Prop)->Nat->World->Prop) (W:World),Below w.heap.size w W->Q7 J->Q7 Jx->
  (∀M k x W1,J M k W1->k<N->At k x->YieldAt Fence.wide 3 P l (encs x) W1 fun e W'=>
    (e=.returned (.bool true)/\J M (k+1) W'/\Below n₀ W1 W'/\T2 M W1 W')\/(e=.returned (.bool false)/\Jx M (k+1) W'))->
  J (fun _=>False) 0 W->
  Calls P g (#[.func (.yield l) #[] #[]]++lb) W fun e W'=>(∃v,e=.returned v)/\((∃M,J M N W')\/(∃M k,k<=N/\Jx M k W'))
def mPost (n₀:Nat) (M:Nat->Prop) (I:(Nat->Prop)->Nat->World->Prop) (Ix:Code->(Nat->Prop)->Nat->World->Prop) (k:Nat) (W:World):Exit->Act->World->Prop
 | .normal,_,W'=>T2 M W W'/\Below n₀ W W'/\I M k W'
 | .ret,_,W'=>T2 M W W'/\Ix .ret M k W'
 | .exit id,_,W'=>T2 M W W'/\Ix (.exit id) M k W'
 | .goto t,_,W'=>T2 M W W'/\Ix (.goto t) M k W'
 | .panic _,_,_=>False
 | .outgrown,_,_=>False
theorem m7 {n₀ l:Nat} (W:World) (o:Obj) (h:n₀<=l):Below n₀ W (W.putObj l o):=⟨rfl,rfl,rfl,by simp,fun k a=>World.putObj_heap_other (by omega)⟩
theorem dQ {α:Type} {P:Program} {n:Nat} {g:Operand} {ps:Array Tmp} {assign body:Code} {Q:Exit->Act->World->Prop} {a:Act} {w:World}
 {gf:Nat} {lb:Array Value} (hg:a.eval g=.func (.func gf) #[] lb) (eg: ∀args w,(callFunc gf args).run P w=.ok (.enter gf args) w)
 {encs:α->Array Value} {At:Nat->α->Prop} {N n₀:Nat} {w0:World} (j_:SeqM P gf lb encs At N n₀ w0) (d_:Below w0.heap.size w0 w) (t_:n₀<=w.heap.size) (u_: ∀x,(encs x).size=ps.size)
 (I:(Nat->Prop)->Nat->World->Prop) (Ix:Code->(Nat->Prop)->Nat->World->Prop) (hI:Q7 I) (J: ∀c,Q7 (Ix c))
 (h0:I (fun _=>False) 0 w)
 (C: ∀(l:Nat) (M:Nat->Prop) (k:Nat) (x:α) (W:World),I M k W->k<N->At k x->(∀j,M j->w.heap.size<=j/\j<W.heap.size)->
   assign.wpIn (Fence.wide.inRound l) 3 P (Exit.then (fun a₁ W₁=>T2 M W W₁/\Below n₀ W W₁/\ ∀W₂,V0 M W₁ W₂->W₂.heap.size=W₁.heap.size->body.wpIn (Fence.wide.inRound l) 3 P (mPost n₀ M I Ix (k+1) W₂) a₁ W₂) (fun _ _ _=>False)) {tmps:=(ps.zip (encs x)).foldl (fun t (p,v)=>t.setIfInBounds p v) a.tmps,defers:= []} W)
 (X: ∀(D:Nat) (M:Nat->Prop) (W:World),w.heap.size<=D->M D->I M N W->W.heap[D]?=some (.deferred (some []))->Q .normal {a with defers:= {target:=.collected D,args:= #[]}::a.defers} W)
 (Y: ∀(D:Nat) (c:Code) (M:Nat->Prop) (k:Nat) (W:World),w.heap.size<=D->M D->k<=N->Ix c M k W->W.heap[D]?=some (.deferred (some []))->c.wpIn Fence.wide n P Q {a with defers:= {target:=.collected D,args:= #[]}::a.defers} W):
 (Code.rangeFunc g ps assign body).wpIn Fence.wide n P Q a w:=by
 refine wpIn_rangeFunc ?_;intro fn q_;obtain⟨H,hH⟩: ∃H,w.heap.size=H:=⟨_,rfl⟩;rw [hH]at t_ C X Y;let rec':LoopState->Option Code->Loop:=fun st pe=> {state:=st,pending:=pe,fn,tmps:=a.tmps,params:=ps,assign,body,defers:=H}
 have c_: ∀st pe,rec' st pe= {state:=st,pending:=pe,fn,tmps:=a.tmps,params:=ps,assign,body,defers:=H}:=fun _ _=>rfl;let U:(Nat->Prop)->Nat->Prop:=fun M j=>M j\/j=H\/j=H+1
 have V: ∀M,U M H:=fun M=>.inr (.inl rfl);have r: ∀M,U M (H+1):=fun M=>.inr (.inr rfl);let W1:World:=(w.alloc (.deferred (some []))).alloc (.loop (rec' .ready none))
 have x_:W1.heap.size=H+2:=by show((w.alloc _).alloc _).heap.size=_;rw [Z_,Z_,hH]
 have m_:W1.heap[H+1]?=some (.loop (rec' .ready none)):=by
  have:=World.alloc_heap_new (w.alloc (.deferred (some []))) (.loop (rec' .ready none));rw [Z_,hH]at this;exact this
 have l_:W1.heap[H]?=some (.deferred (some [])):=by
  have h2:=World.alloc_heap_new w (.deferred (some []));rw [hH]at h2;exact(A_ _ _ _ (by rw [Z_];omega)).trans h2
 have k_:I (U fun _=>False) 0 W1:=by
  refine hI _ _ 0 w W1 h0 ((V0.alloc _ w _).trans (V0.alloc _ _ _)) (fun j b=>.inr ?_) (fun j b=>?_)
  · rcases b with b|b|b
    · exact b.elim
    all_goals omega
  · rcases b with b|b|b
    · exact b.elim
    all_goals omega
 have b_:Below w0.heap.size w0 W1:=d_.trans ((((F_ _ w).alloc (R_ _) _).alloc (by simp) _).mono d_.size);refine⟨H+1,[{target:=.collected H,args:= #[]}],W1,{target:=.fn (.func gf) lb,args:= #[.func (.yield (H+1)) #[] #[]]},W1,gf,#[.func (.yield (H+1)) #[] #[]]++lb,W1,?_,?_,?_,?_,fun h=>?_,?_⟩
 · have:=run_enterLoop_outer (P:=P) (w:=w) fn a.tmps ps assign body;rw [hH]at this;exact this
 · simp only [resolve,hg]
   simp [go_sem]
 · intro f' w_;exact trivial
 · simp [invoke,go_sem,eg]
 · cases h
 · have lv: ∀ {M:Nat->Prop} {W:World},(∀j,M j->H+2<=j/\j<W.heap.size)->W.heap[H+1]?=some (.loop (rec' .ready none))-> ∀j,U M j->H<=j/\j<W.heap.size:=fun i m j b=>by
    have:=(Array.getElem?_eq_some_iff.1 m).1;rcases b with b|b|b
    · have:=i j b;omega
    all_goals omega
   refine callsIn_wide.2 ((j_ (H+1)
    (fun M k W=>I (U M) k W/\(∀j,M j->H+2<=j/\j<W.heap.size)/\W.heap[H+1]?=some (.loop (rec' .ready none))/\W.heap[H]?=some (.deferred (some [])))
    (fun M k W=> ∃c,Ix c (U M) k W/\(∀j,M j->H+2<=j/\j<W.heap.size)/\W.heap[H+1]?=some (.loop (rec' .done (some c)))/\W.heap[H]?=some (.deferred (some [])))
    W1 b_ ?_ ?_ ?_ ⟨k_,fun j b=>b.elim,m_,l_⟩).mono ?_)
   ·
    rintro M M' k A B ⟨E,i,m,F⟩ G hs z;have a_:=(Array.getElem?_eq_some_iff.1 m).1;refine⟨hI _ _ k A B E (G.more fun j b=>.inl b) (fun j b=>?_) (fun j b=>?_),fun j b=>⟨?_,z j b⟩,(G.block _ a_ (fun R=>by have:=(i _ R).1;omega)).trans m,(G.block _ (by omega) (fun R=>by have:=(i _ R).1;omega)).trans F⟩
    · rcases b with b|b
      · rcases hs j b with h|h
        · exact .inl (.inl h)
        · exact .inr h
      · exact .inl (.inr b)
    · have:=G.size;rcases b with b|b|b
      · exact z j b
      all_goals omega
    · rcases hs j b with h|h
      · exact(i j h).1
      · omega
   · rintro M M' k A B ⟨c,E,i,m,F⟩ G hs z;have a_:=(Array.getElem?_eq_some_iff.1 m).1;refine⟨c,J c _ _ k A B E (G.more fun j b=>.inl b) (fun j b=>?_) (fun j b=>?_),fun j b=>⟨?_,z j b⟩,(G.block _ a_ (fun R=>by have:=(i _ R).1;omega)).trans m,(G.block _ (by omega) (fun R=>by have:=(i _ R).1;omega)).trans F⟩
     · rcases b with b|b
       · rcases hs j b with h|h
         · exact .inl (.inl h)
         · exact .inr h
       · exact .inl (.inr b)
     · have:=G.size;rcases b with b|b|b
       · exact z j b
       all_goals omega
     · rcases hs j b with h|h
       · exact(i j h).1
       · omega
   ·
    rintro M k x W ⟨E,i,m,F⟩ h_ hx;have hy:=run_yield (P:=P) (args:=encs x) m (u_ x);refine⟨fn,_,assign,body,hy,roundIn_of_wpIn q_ (wpIn_mono (C (H+1) (U M) k x W E h_ hx (lv i m)) ?_)⟩;clear hy;intro e a₁ W₁ Z;cases e with
    | normal=>
     obtain⟨O,b_,o_⟩:=Z;have e_:=(O.same _ (r M)).trans m;have g_:=(O.same _ (V M)).trans F;have i_:=(Array.getElem?_eq_some_iff.1 e_).1;refine⟨_,run_beginRound e_ rfl,?_⟩;let W₂:=W₁.putObj (H+1) (.loop {rec' .ready none with state:=.busy})
     have v_:W₂.heap.size=W₁.heap.size:=by show(W₁.putObj _ _).heap.size=_;simp
     have s_:W₂.heap[H+1]?=some (.loop {rec' .ready none with state:=.busy}):=World.putObj_heap_same i_;have r_:W₂.heap[H]?=some (.deferred (some [])):=(World.putObj_heap_other (by omega)).trans g_;have n_: ∀j,U M j->H<=j/\j<W₁.heap.size:=fun j b=>by have:=lv i m j b;have:=O.size;omega
     refine wpIn_mono (o_ W₂ (V0.put _ _ (r M) _) v_) ?_;have back: ∀(jump:Option Code) (W₃:World),T2 (U M) W₂ W₃->
      (Instr.endRound (H+1) jump).run P W₃=.ok (.bool jump.isNone) (W₃.putObj (H+1) (.loop (rec' (if jump.isNone then .ready else .done) jump)))/\
      (W₃.putObj (H+1) (.loop (rec' (if jump.isNone then .ready else .done) jump))).heap[H+1]?=some (.loop (rec' (if jump.isNone then .ready else .done) jump))/\
      (W₃.putObj (H+1) (.loop (rec' (if jump.isNone then .ready else .done) jump))).heap[H]?=some (.deferred (some []))/\(∀j,U M j->j<W₃.heap.size):=fun jump W₃ d=>by
      have f_:=(d.same _ (r M)).trans s_;exact⟨run_endRound (P:=P) jump f_,World.putObj_heap_same (Array.getElem?_eq_some_iff.1 f_).1,(World.putObj_heap_other (by omega)).trans ((d.same _ (V M)).trans r_),fun j b=>by have:=n_ j b;have:=d.size;omega⟩
     have keep4: ∀(W₃:World) (o:Obj),T2 (U M) W₂ W₃->T2 M W (W₃.putObj (H+1) o):=fun W₃ o d=>by
      refine⟨by have:=O.size;have:=d.size;simp;omega,fun j b=>?_⟩;have:=(i j b).1;exact(World.putObj_heap_other (by omega)).trans ((d.same j (.inl b)).trans ((World.putObj_heap_other (by omega)).trans (O.same j (.inl b))))
     have stay: ∀ {W₃:World} (o:Obj),(∀j,U M j->j<W₃.heap.size)-> ∀j,U M j->j<(W₃.putObj (H+1) o).heap.size:=fun o h j b=>by rw [World.putObj_size];exact h j b
     rintro e a₃ W₃ hp;cases e with
     |normal=>
      obtain⟨d,p_,s⟩:=hp;obtain⟨T,y,u,q⟩:=back none W₃ d;refine⟨_,_,T,.inl ⟨rfl,⟨hI _ _ (k+1) W₃ _ s (V0.put _ _ (r M) _) (fun j b=>.inl b) (stay _ q),fun j b=>⟨(i j b).1,stay _ q j (.inl b)⟩,y,u⟩,?_,keep4 _ _ d⟩⟩;exact((b_.trans (m7 _ _ (by omega))).trans p_).trans (m7 _ _ (by omega))
     |ret=>
      obtain⟨d,s⟩:=hp;obtain⟨T,y,u,q⟩:=back (some .ret) W₃ d;exact⟨_,_,T,.inr ⟨rfl,.ret,J _ _ _ (k+1) W₃ _ s (V0.put _ _ (r M) _) (fun j b=>.inl b) (stay _ q),fun j b=>⟨(i j b).1,stay _ q j (.inl b)⟩,y,u⟩⟩
     |exit id=>
      obtain⟨d,s⟩:=hp;obtain⟨T,y,u,q⟩:=back (some (.exit id)) W₃ d;exact⟨_,_,T,.inr ⟨rfl,.exit id,J _ _ _ (k+1) W₃ _ s (V0.put _ _ (r M) _) (fun j b=>.inl b) (stay _ q),fun j b=>⟨(i j b).1,stay _ q j (.inl b)⟩,y,u⟩⟩
     |goto t=>
      obtain⟨d,s⟩:=hp;obtain⟨T,y,u,q⟩:=back (some (.goto t)) W₃ d;exact⟨_,_,T,.inr ⟨rfl,.goto t,J _ _ _ (k+1) W₃ _ s (V0.put _ _ (r M) _) (fun j b=>.inl b) (stay _ q),fun j b=>⟨(i j b).1,stay _ q j (.inl b)⟩,y,u⟩⟩
     |panic ch=>exact hp.elim
     |outgrown=>exact hp.elim
    |ret=>exact Z.elim
    |exit id=>exact Z.elim
    |goto t=>exact Z.elim
    |panic ch=>exact Z.elim
    |outgrown=>exact Z.elim
   ·
    rintro e W2 ⟨⟨v,rfl⟩,(⟨M,E,i,m,F⟩|⟨M,k,hkN,c,E,i,m,F⟩)⟩
    · have z:=(Array.getElem?_eq_some_iff.1 m).1;refine⟨none,_,run_endLoop (P:=P) m (by rw [c_];simp),X H (U M) _ (R_ _) (V M) (hI _ _ N W2 _ E (V0.put _ _ (r M) _) (fun j b=>.inl b) (fun j b=>?_)) ((World.putObj_heap_other (by omega)).trans F)⟩;rw [World.putObj_size];exact(lv i m j b).2
    · have z:=(Array.getElem?_eq_some_iff.1 m).1;refine⟨some c,_,run_endLoop (P:=P) m (by rw [c_];simp),Y H c (U M) k _ (R_ _) (V M) hkN (J c _ _ k W2 _ E (V0.put _ _ (r M) _) (fun j b=>.inl b) (fun j b=>?_)) ((World.putObj_heap_other (by omega)).trans F)⟩;rw [World.putObj_size];rcases b with b|b|b
      · exact(i j b).2
      all_goals omega
noncomputable def Jz (R:Nat->Prop):Nat:=Classical.epsilon fun m=>R m/\ ∀m',R m'->m<=m'
theorem uJ {R:Nat->Prop} {m:Nat} (h:R m): ∃m,R m/\ ∀m',R m'->m<=m':=by
 induction m using Nat.strongRecOn with
 |_ m ih=>
  by_cases a: ∃m',m'<m/\R m'
  · obtain⟨m',c,d⟩:=a;exact ih m' c d
  · exact⟨m,h,fun m' g=>Nat.le_of_not_lt fun b=>a ⟨m',b,g⟩⟩
theorem vJ {R:Nat->Prop} {m:Nat} (h:R m):R (Jz R):=(Classical.epsilon_spec (p:=fun m=>R m/\ ∀m',R m'->m<=m') (uJ h)).1
theorem Rx {R:Nat->Prop} {m:Nat} (h:R m):Jz R<=m:=(Classical.epsilon_spec (p:=fun m=>R m/\ ∀m',R m'->m<=m') (uJ h)).2 m h
theorem append_in {F:Fence} {f:Nat} {P:Program} {w:World} {ops:Array Oper} {rest:List Oper} {o:Oper} {a:Act} {Q:Exit->Act->World->Prop} (D:o.guard=none) (s x:Operand) (t:TypeId)
 (p:o.op=.call {callee:=.builtin .append,args:= #[s,x],argTypes:= #[t,t]})
 (base:Nat) (e:TypeId) (i:TypeInfo) (z:Value) (size bytes:Nat) (T:P.underlying t=some (.slice e)) (M:P.info? e=some i) (U:i.zero=some z)
 (l:i.size=size) (B:i.bytes=bytes) (G:z.cells.size=size) (E:0<size)
 (v:Value) (n:Nat) (xs:List Value) (R:a.eval s=v) (q:w.ownsRow base e size v n xs)
 (ad:Addr) (m c:Nat) (news:List Value) (hx:a.eval x=.slice (some ad) m c) (N:news.length=m*size) (k: ∀j u,news[j]?=some u->w.cell? (ad.add j)=some u) (I: ∀u∈news,u.oneCell'=true)
 (O:0<m) (y:n+m<=maxLen) (b:(n+m)*bytes<=140737488355328) (d:base<=w.heap.size) (H:Nat) (J:w.heap.size=H)
 (h: ∀g cap w',w'.ownsRow base e size (.slice (some ⟨g,0,none⟩) (n+m) cap) (n+m) (xs++news)->w.grownBy w' v.ownBlock->(v.ownBlock=some g\/g=H)->g<w'.heap.size->wpListIn F f P ops Q rest (a.put o.dst (.slice (some ⟨g,0,none⟩) (n+m) cap)) w'):
 wpListIn F f P ops Q (o::rest) a w:=by
 refine wpListIn_plain D fun K A=>?_;obtain⟨g,cap,w',r,r1,r2,r3,r4⟩:=run_append_lies (P:=P) w t o.type base e i z size bytes T M U l B G E v n xs q ad m c news N k I O y b d H J;refine⟨?_,?_⟩
 · simp [Oper.about,p,resolve,Target.leads,Sem.run_pure]
 · rw [Oper.semAt_plain F _ _ (by rw [p];intro c C;cases C)];simp [execOp,p,resolve,invoke,builtin,R,hx,r,Result.andThen]
   exact A _ _ (h g cap w' r1 r2 r3 r4)
theorem ownsRow_pop {w:World} {base:Nat} {e:TypeId} {g n cap:Nat} {xs:List Value} {x:Value} (h:w.ownsRow base e 1 (.slice (some ⟨g,0,none⟩) (n+1) cap) (n+1) (xs++ [x])):w.ownsRow base e 1 (.slice (some ⟨g,0,none⟩) n cap) n xs:=by
 obtain⟨b,d⟩:=h;have p:xs.length=n:=by rw [P_]at b;simp at b;omega
 refine⟨by omega,?_⟩;rcases d with⟨c,_⟩|⟨g',cap',cur,o,i,j,q,k,l,m⟩
 · cases c
 · cases o
   refine .inr ⟨g,cap,cur,rfl,i,j,by omega,k,l,?_⟩;have a:=congrArg (List.take n) m;rw [List.take_take,List.take_append_of_le_length (by omega),List.take_of_length_le (by omega:xs.length<=n),Nat.min_eq_left (by omega)]at a;rw [Nat.mul_one];exact a
theorem I1 {w w':World} {base:Nat} {e:TypeId} {size:Nat} {g n cap:Nat} {xs:List Value} (h:w.ownsRow base e size (.slice (some ⟨g,0,none⟩) n cap) n xs) (i:w'.heap[g]?=w.heap[g]?):w'.ownsRow base e size (.slice (some ⟨g,0,none⟩) n cap) n xs:=by
 obtain⟨j,c⟩:=h;refine⟨j,?_⟩;rcases c with⟨b,_⟩|⟨g',cap',cur,k,d,a,r⟩
 · cases b
 · cases k
   exact .inr ⟨g,cap,cur,rfl,d,i.trans a,r⟩
theorem B6 {w:World} {base:Nat} {e:TypeId} {size:Nat} {g n cap:Nat} {xs:List Value} (h:w.ownsRow base e size (.slice (some ⟨g,0,none⟩) n cap) n xs):base<=g/\g<w.heap.size/\n<=cap/\cap<=maxLen:=by
 obtain⟨l,c⟩:=h;rcases c with⟨b,_⟩|⟨g',cap',cur,k,d,a,j,i,_⟩
 · cases b
 · cases k
   exact⟨d,(Array.getElem?_eq_some_iff.1 a).1,j,i⟩
mutual
def Tm.parts:Tm->Nat->List (Nat×Tm)
 | .mk k s n l,d=>(d,.mk k s n l)::Tm.partss l (d+1)
def Tm.partss:List Tm->Nat->List (Nat×Tm)
 | [],_=> []
 |t::l,d=>t.parts d++Tm.partss l d
end
theorem Tm.parts_eq (t:Tm) (d:Nat):t.parts d=(d,t)::Tm.partss t.args (d+1):=by cases t;rfl
theorem Tm.partss_cons (t:Tm) (l:List Tm) (d:Nat):Tm.partss (t::l) d=t.parts d++Tm.partss l d:=rfl
theorem Tm.partss_len' (m:Nat): ∀(l:List Tm) (d:Nat),Tm.sizes l<=m->(Tm.partss l d).length=Tm.sizes l:=by
 induction m with
 |zero=>
  intro l d h;cases l with
  |nil=>rfl
  |cons t l=>rw [Tm.sizes_cons]at h;have:=t.size_pos;omega
 | succ m ih=>
  intro l d h;cases l with
  |nil=>rfl
  |cons t l=>
   rw [Tm.sizes_cons]at h⊢;have c:=t.size_eq;have a:=ih t.args (d+1) (by omega);have b:=ih l d (by have:=t.size_pos;omega);rw [Tm.partss_cons,Tm.parts_eq,P_,List.length_cons,a,b];omega
theorem Tm.parts_len (t:Tm) (d:Nat):(t.parts d).length=t.size:=by
 rw [Tm.parts_eq,List.length_cons,Tm.partss_len' _ _ _ (R_ _),t.size_eq];omega
def uq:List (List Tm)->List (Nat×Tm)
 | []=> []
 |ts::st=>Tm.partss ts (st.length+1)++uq st
theorem remain_cons (t:Tm) (ts:List Tm) (st:List (List Tm)):uq ((t::ts)::st)=(st.length+1,t)::uq (t.args::ts::st):=by
 show Tm.partss (t::ts) (st.length+1)++uq st=(st.length+1,t)::(Tm.partss t.args ((ts::st).length+1)++(Tm.partss ts (st.length+1)++uq st))
 rw [Tm.partss_cons,Tm.parts_eq,List.cons_append,List.cons_append,List.append_assoc];rfl
structure Ent where
 ts:List Tm
 ad:Option Addr
 cap:Nat
def Ent.v (e:Ent):Value:=.slice e.ad e.ts.length e.cap
structure Ent.Ok (e:Ent) (w:World) (P:Nat->Prop):Prop where
 len:e.ts.length<=e.cap
 cap:e.cap<=maxLen
 args:M0 w P e.ad e.ts
theorem Ent.Ok.kept {e:Ent} {w w':World} {P:Nat->Prop} (h:e.Ok w P) (a: ∀b,P b->b<w.heap.size->w'.heap[b]?=w.heap[b]?):e.Ok w' P:=⟨h.len,h.cap,h.args.kept a fun _ c _=>c⟩
structure TmOk (t:Tm) (cap:Nat):Prop where
 kind:In64 t.kind
 n:In64 t.n
 name:t.name.size<=maxLen
 len:t.args.length<=cap
 cap:cap<=maxLen
theorem M0.head {w:World} {P:Nat->Prop} {b o:Nat} {t:Tm} {ts:List Tm} (h:M0 w P (some ⟨b,o,none⟩) (t::ts)):
 P b/\b<w.heap.size/\ ∃ad cap,w.cell? ⟨b,o,none⟩=some (.int .i64 t.kind)/\w.cell? ⟨b,o+1,none⟩=some (.string t.name)/\w.cell? ⟨b,o+2,none⟩=some (.int .i64 t.n)/\w.cell? ⟨b,o+3,none⟩=some (.slice ad t.args.length cap)/\
  TmOk t cap/\M0 w P ad t.args/\M0 w P (some ⟨b,o+4,none⟩) ts:=by
 cases h with
 |cons _ _ k n nm l ts ad cap hp c0 c1 c2 c3 hk hn hm hl hc ha hr=>exact⟨hp,L_ w ⟨b,o,none⟩ c0,ad,cap,c0,c1,c2,c3,⟨hk,hn,hm,hl,hc⟩,ha,hr⟩
theorem M0.addr {w:World} {P:Nat->Prop} {ad:Option Addr} {t:Tm} {ts:List Tm} (h:M0 w P ad (t::ts)): ∃b o,ad=some ⟨b,o,none⟩:=by
 cases h with
 |cons b o=>exact⟨b,o,rfl⟩
theorem E5.inP {w:World} {ad:Option Addr} {ts:List Tm} (h:E5 w ad ts):M0 w (fun b=>b<w.heap.size) ad ts:=by
 induction h with
 |nil ad=>exact .nil ad
 |cons b o k n nm l ts ad cap c0 c1 c2 c3 hk hn hm hl hc _ _ ih1 ih2=>exact .cons b o k n nm l ts ad cap (L_ w ⟨b,o,none⟩ c0) c0 c1 c2 c3 hk hn hm hl hc ih1 ih2
theorem G6.inP {w:World} {t:Tm} {ad:Option Addr} {cap:Nat} (h:G6 w t ad cap):TmP w (fun b=>b<w.heap.size) t ad cap:=⟨h.kind,h.n,h.name,h.len,h.cap,h.args.inP⟩
theorem G6.ok {w:World} {t:Tm} {ad:Option Addr} {cap:Nat} (h:G6 w t ad cap):TmOk t cap:=⟨h.kind,h.n,h.name,h.len,h.cap⟩
def two (q g:Nat):Nat->Prop:=fun j=>j=q\/j=g
end Go.Proofs.YtinefdlkajnomaaGreatDoor
namespace Go.Proofs.YtinefdlkajnomaaGreatDoor
open Go.RowKit Go.Shelf
structure S7 (n₀:Nat) (w:World) (L:List (Nat×Obj)) (M:Nat->Prop) (W:World):Prop where
 below:Below n₀ w W
 far: ∀j,M j->n₀<=j/\ ∀p∈L,p.1≠j
 has: ∀p∈L,W.heap[p.1]?=some p.2
theorem S7.lt {n₀:Nat} {w W:World} {L:List (Nat×Obj)} {M:Nat->Prop} (h:S7 n₀ w L M W) {p:Nat×Obj} (a:p∈L):p.1<W.heap.size:=(Array.getElem?_eq_some_iff.1 (h.has p a)).1
theorem S7.turn {n₀:Nat} {w A B:World} {L:List (Nat×Obj)} {M M':Nat->Prop} (m:n₀<=w.heap.size) (h:S7 n₀ w L M A) (a:V0 M A B) (l: ∀j,M' j->M j\/A.heap.size<=j):S7 n₀ w L M' B:=by
 have d:=h.below.size;refine⟨⟨a.os.trans h.below.os,a.tape.trans h.below.tape,a.output.trans h.below.output,Nat.le_trans d a.size,fun k i=>(a.block k (by omega) (fun c=>by have:=(h.far k c).1;omega)).trans (h.below.block k i)⟩,fun j g=>?_,fun p b=>(a.block p.1 (h.lt b) (fun c=>(h.far _ c).2 p b rfl)).trans (h.has p b)⟩;rcases l j g with h2|h2
 · exact h.far j h2
 · exact⟨by omega,fun p b e=>by have:=h.lt b;omega⟩
def StayI {σ:Type} (n₀:Nat) (w:World) (L:Nat->σ->List (Nat×Obj)) (P:Nat->σ->Prop):(Nat->Prop)->Nat->World->Prop:=fun M k W=> ∃s,S7 n₀ w (L k s) M W/\P k s
theorem Uz {σ:Type} {n₀:Nat} {w:World} (a:n₀<=w.heap.size) (L:Nat->σ->List (Nat×Obj)) (P:Nat->σ->Prop):Q7 (StayI n₀ w L P):=by
 rintro M M' k A B ⟨s,h,b⟩ d c _;exact⟨s,h.turn a d c,b⟩
theorem S7.keeps {n₀:Nat} {w W:World} {L:List (Nat×Obj)} {M:Nat->Prop} (h:S7 n₀ w L M W) {q:Nat} {o:Obj} (b:(q,o)∈L) (i:Nat) (v:Value):T2 M W (W.setCell ⟨q,i,none⟩ v):=
 T2.set W (p:=⟨q,i,none⟩) (fun a=>(h.far q a).2 _ b rfl) v
theorem S7.put {n₀:Nat} {w W W':World} {L L':List (Nat×Obj)} {M:Nat->Prop} (h:S7 n₀ w L M W) (d:Below n₀ W W') (b: ∀p∈L',(∃o,(p.1,o)∈L)\/W.heap.size<=p.1) (c: ∀j,M j->j<W.heap.size) (g: ∀p∈L',W'.heap[p.1]?=some p.2):S7 n₀ w L' M W':=
 ⟨h.below.trans d,fun j a=>⟨(h.far j a).1,fun p k e=>by
  rcases b p k with⟨o,i⟩|l
  · exact(h.far j a).2 _ i e
  · have:=c j a;omega⟩,g⟩
def setL (L:List (Nat×Obj)) (q:Nat) (o:Obj):List (Nat×Obj):=L.map fun p=>if p.1=q then(q,o)else p
theorem S7.store {n₀:Nat} {w W:World} {L:List (Nat×Obj)} {M:Nat->Prop} (h:S7 n₀ w L M W) {q t:Nat} {cs:Array Value} (g:(q,.cells cs t (0,0))∈L) (k:n₀<=q) (i:Nat) (v:Value):
 T2 M W (W.setCell ⟨q,i,none⟩ v)/\Below n₀ W (W.setCell ⟨q,i,none⟩ v)/\S7 n₀ w (setL L q (.cells (cs.setIfInBounds i v) t (0,0))) M (W.setCell ⟨q,i,none⟩ v):=by
 have c:Below n₀ W (W.setCell ⟨q,i,none⟩ v):=(F_ n₀ W).setCell (p:=⟨q,i,none⟩) k v;refine⟨h.keeps g i v,c,h.below.trans c,fun j d=>⟨(h.far j d).1,fun p b=>?_⟩,fun p b=>?_⟩
 · obtain⟨p0,a,rfl⟩:=List.mem_map.1 b;have:=(h.far j d).2 p0 a;split
   · rename_i e;rw [e]at this;exact this
   · exact this
 · obtain⟨p0,a,rfl⟩:=List.mem_map.1 b;split
   · exact heap_setCell_same W q i cs t v (h.has _ g)
   · rename_i e;exact(S_ _ _ _ _ e).trans (h.has p0 a)
theorem S7.less {n₀:Nat} {w W:World} {L L':List (Nat×Obj)} {M:Nat->Prop} (h:S7 n₀ w L M W) (c: ∀p∈L',p∈L):S7 n₀ w L' M W:=⟨h.below,fun j b=>⟨(h.far j b).1,fun p a=>(h.far j b).2 p (c p a)⟩,fun p a=>h.has p (c p a)⟩
theorem S7.grow {n₀:Nat} {w W W':World} {L:List (Nat×Obj)} {M:Nat->Prop} (h:S7 n₀ w L M W) (i:n₀<=w.heap.size) (d: ∀j,M j->j<W.heap.size) (b:Below W.heap.size W W'):
 T2 M W W'/\Below n₀ W W'/\S7 n₀ w L M W':=by
 have g:=h.below.size;have a:Below n₀ W W':=b.mono (by omega);exact⟨T2.of_below b d,a,h.below.trans a,h.far,fun p c=>(b.block p.1 (h.lt c)).trans (h.has p c)⟩
theorem S7.cons {n₀:Nat} {w W:World} {L:List (Nat×Obj)} {M:Nat->Prop} (h:S7 n₀ w L M W) {q:Nat} {o:Obj} (d: ∀j,M j->q≠j) (c:W.heap[q]?=some o):S7 n₀ w ((q,o)::L) M W:=
 ⟨h.below,fun j b=>⟨(h.far j b).1,fun p a=>by
  rcases List.mem_cons.1 a with rfl|a
  · exact d j b
  · exact(h.far j b).2 p a⟩,fun p a=>by
  rcases List.mem_cons.1 a with rfl|a
  · exact c
  · exact h.has p a⟩
theorem block_set1 {W:World} {q t:Nat} {v0 v:Value} (h:W.heap[q]?=some (.cells #[v0] t (0,0))):(W.setCell ⟨q,0,none⟩ v).heap[q]?=some (.cells #[v] t (0,0)):=by
 rw [heap_setCell_same W q 0 #[v0] t v h];rfl
theorem I4 {W:World} {q t:Nat} {v:Value} (h:W.heap[q]?=some (.cells #[v] t (0,0))):W.cell? ⟨q,0,none⟩=some v/\W.frozen? ⟨q,0,none⟩=false:=by
 simp [World.cell?,World.frozen?,h]
theorem tj {n₀ D:Nat} {w W:World} (h:Below n₀ w W) (a:n₀<=D):Below n₀ w (W.putObj D (.deferred none)):=h.trans (m7 W _ a)
end Go.Proofs.YtinefdlkajnomaaGreatDoor
