import Derived.Test.YtinefdlkajnomaaGreatDoorChecked
import Derived.Test.YtinefdlkajnomaaGreatDoorMTkM
import Derived.WalkKit
import Derived.WalkSpells
import Derived.Lib.Hide
import Derived.Laws.AppendOwn
import Derived.Laws.OwnMore
import Derived.Deep.AppendLies
import Derived.Test.YtinefdlkajnomaaGreatDoorMCharA
import Derived.Deep.RegionHeld3
import Derived.Lib.Strings
namespace Go.Proofs.YtinefdlkajnomaaGreatDoor
open Go.RowKit
set_option maxHeartbeats 20000000
inductive Tm where
 |mk:Int->ByteArray->Int->List Tm->Tm
def Tm.kind:Tm->Int
 | .mk k _ _ _=>k
def Tm.name:Tm->ByteArray
 | .mk _ s _ _=>s
def Tm.n:Tm->Int
 | .mk _ _ n _=>n
def Tm.args:Tm->List Tm
 | .mk _ _ _ l=>l
mutual
def Tm.size:Tm->Nat
 | .mk _ _ _ l=>1+Tm.sizes l
def Tm.sizes:List Tm->Nat
 | []=>0
 |t::l=>t.size+Tm.sizes l
end
mutual
def Tm.deep:Tm->Nat
 | .mk _ _ _ l=>Tm.deeps l+1
def Tm.deeps:List Tm->Nat
 | []=>0
 |t::l=>max t.deep (Tm.deeps l)
end
theorem Tm.eta (t:Tm):t=.mk t.kind t.name t.n t.args:=by cases t;rfl
theorem Tm.size_eq (t:Tm):t.size=1+Tm.sizes t.args:=by cases t;rfl
theorem Tm.deep_eq (t:Tm):t.deep=Tm.deeps t.args+1:=by cases t;rfl
theorem Tm.sizes_cons (t:Tm) (l:List Tm):Tm.sizes (t::l)=t.size+Tm.sizes l:=rfl
theorem Tm.sizes_append (a b:List Tm):Tm.sizes (a++b)=Tm.sizes a+Tm.sizes b:=by
 induction a with
 |nil=>rw [List.nil_append];show _=0+_;omega
 |cons t l ih=>rw [List.cons_append,Tm.sizes_cons,Tm.sizes_cons,ih];omega
theorem Tm.size_pos (t:Tm):1<=t.size:=by rw [Tm.size_eq];omega
theorem Tm.mem_size {t:Tm} {l:List Tm} (h:t∈l):t.size<=Tm.sizes l:=by
 induction l with
 |nil=>cases h
 |cons x l ih=>
  rw [Tm.sizes_cons];rcases List.mem_cons.1 h with rfl|h
  · omega
  · have:=ih h;omega
theorem Tm.deeps_snoc (l:List Tm) (t:Tm):Tm.deeps (l++ [t])=max (Tm.deeps l) t.deep:=by
 induction l with
 |nil=>show max t.deep 0=max 0 t.deep;omega
 |cons x l ih=>show max x.deep (Tm.deeps (l++ [t]))=max (max x.deep (Tm.deeps l)) t.deep;rw [ih];omega
theorem Tm.length_le_sizes (l:List Tm):l.length<=Tm.sizes l:=by
 induction l with
 |nil=>exact R_ 0
 |cons t l ih=>rw [Tm.sizes_cons,List.length_cons];have:=t.size_pos;omega
theorem Tm.deeps_le' (m:Nat): ∀l:List Tm,Tm.sizes l<=m->Tm.deeps l<=Tm.sizes l:=by
 induction m with
 |zero=>
  intro l h;cases l with
  |nil=>exact R_ 0
  |cons t l=>rw [Tm.sizes_cons]at h;have:=t.size_pos;omega
 | succ m ih=>
  intro l h;cases l with
  |nil=>exact R_ 0
  |cons t l=>
   rw [Tm.sizes_cons]at h⊢;have a:=t.size_eq;have b:=ih t.args (by omega);have c:=ih l (by have:=t.size_pos;omega);show max t.deep (Tm.deeps l)<=_
   rw [t.deep_eq];omega
theorem Tm.deeps_le (l:List Tm):Tm.deeps l<=Tm.sizes l:=Tm.deeps_le' _ l (R_ _)
theorem Tm.deep_le_size (t:Tm):t.deep<=t.size:=by
 have:=Tm.deeps_le t.args;rw [t.deep_eq,t.size_eq];omega
theorem Tm.sizes_take (l:List Tm) (k:Nat):Tm.sizes (l.take k)<=Tm.sizes l:=by
 have:=Tm.sizes_append (l.take k) (l.drop k);rw [List.take_append_drop]at this;omega
inductive E5 (w:World):Option Addr->List Tm->Prop where
 |nil (ad:Option Addr):E5 w ad []
 |cons (b o:Nat) (k n:Int) (nm:ByteArray) (l ts:List Tm) (ad:Option Addr) (cap:Nat):
  w.cell? ⟨b,o,none⟩=some (.int .i64 k)->w.cell? ⟨b,o+1,none⟩=some (.string nm)->w.cell? ⟨b,o+2,none⟩=some (.int .i64 n)->w.cell? ⟨b,o+3,none⟩=some (.slice ad l.length cap)->
  In64 k->In64 n->nm.size<=maxLen->l.length<=cap->cap<=maxLen->
  E5 w ad l->E5 w (some ⟨b,o+4,none⟩) ts->E5 w (some ⟨b,o,none⟩) (.mk k nm n l::ts)
def tmv (t:Tm) (ad:Option Addr) (cap:Nat):Value:=.agg #[.int .i64 t.kind,.string t.name,.int .i64 t.n,.slice ad t.args.length cap]
structure G6 (w:World) (t:Tm) (ad:Option Addr) (cap:Nat):Prop where
 kind:In64 t.kind
 n:In64 t.n
 name:t.name.size<=maxLen
 len:t.args.length<=cap
 cap:cap<=maxLen
 args:E5 w ad t.args
theorem E5.on {w w':World} {ad:Option Addr} {ts:List Tm} (h:E5 w ad ts) (a:Below w.heap.size w w'):E5 w' ad ts:=by
 have keep: ∀(b o:Nat) (v:Value),w.cell? ⟨b,o,none⟩=some v->w'.cell? ⟨b,o,none⟩=some v:=fun b o v hc=>(a.cell (L_ w ⟨b,o,none⟩ hc)).trans hc;induction h with
 |nil ad=>exact .nil ad
 |cons b o k n nm l ts ad cap c0 c1 c2 c3 hk hn hm hl hc _ _ ih1 ih2=>exact .cons b o k n nm l ts ad cap (keep _ _ _ c0) (keep _ _ _ c1) (keep _ _ _ c2) (keep _ _ _ c3) hk hn hm hl hc ih1 ih2
theorem G6.on {w w':World} {t:Tm} {ad:Option Addr} {cap:Nat} (h:G6 w t ad cap) (a:Below w.heap.size w w'):G6 w' t ad cap:=⟨h.kind,h.n,h.name,h.len,h.cap,h.args.on a⟩
theorem E5.get {w:World} {b o:Nat} {ts:List Tm} (h:E5 w (some ⟨b,o,none⟩) ts) (i:Nat) (a:i<ts.length):
 ∃ad cap,w.cell? ⟨b,o+i*4,none⟩=some (.int .i64 (ts[i]'a).kind)/\w.cell? ⟨b,o+i*4+1,none⟩=some (.string (ts[i]'a).name)/\w.cell? ⟨b,o+i*4+2,none⟩=some (.int .i64 (ts[i]'a).n)/\
  w.cell? ⟨b,o+i*4+3,none⟩=some (.slice ad (ts[i]'a).args.length cap)/\G6 w (ts[i]'a) ad cap:=by
 induction i generalizing o ts with
 |zero=>
  rw [Nat.zero_mul,Nat.add_zero];cases h with
  |nil=>cases a
  |cons _ _ k n nm l ts ad cap c0 c1 c2 c3 hk hn hm hl hc ha _=>exact⟨ad,cap,c0,c1,c2,c3,⟨hk,hn,hm,hl,hc,ha⟩⟩
 | succ i ih=>
  cases h with
  |nil=>cases a
  |cons _ _ k n nm l ts ad cap c0 c1 c2 c3 hk hn hm hl hc ha hr=>
   have c:=ih hr (by simpa using a);rw [show o+(i+1)*4=o+4+i*4 by omega];exact c
theorem E5.addr {w:World} {ad:Option Addr} {ts:List Tm} (h:E5 w ad ts) (a:0<ts.length): ∃b o,ad=some ⟨b,o,none⟩:=by
 cases h with
 |nil=>cases a
 |cons b o=>exact⟨b,o,rfl⟩
inductive M0 (w:World) (P:Nat->Prop):Option Addr->List Tm->Prop where
 |nil (ad:Option Addr):M0 w P ad []
 |cons (b o:Nat) (k n:Int) (nm:ByteArray) (l ts:List Tm) (ad:Option Addr) (cap:Nat):P b->
  w.cell? ⟨b,o,none⟩=some (.int .i64 k)->w.cell? ⟨b,o+1,none⟩=some (.string nm)->w.cell? ⟨b,o+2,none⟩=some (.int .i64 n)->w.cell? ⟨b,o+3,none⟩=some (.slice ad l.length cap)->
  In64 k->In64 n->nm.size<=maxLen->l.length<=cap->cap<=maxLen->
  M0 w P ad l->M0 w P (some ⟨b,o+4,none⟩) ts->M0 w P (some ⟨b,o,none⟩) (.mk k nm n l::ts)
theorem M0.all {w:World} {P:Nat->Prop} {ad:Option Addr} {ts:List Tm} (h:M0 w P ad ts):E5 w ad ts:=by
 induction h with
 |nil ad=>exact .nil ad
 |cons b o k n nm l ts ad cap _ c0 c1 c2 c3 hk hn hm hl hc _ _ ih1 ih2=>exact .cons b o k n nm l ts ad cap c0 c1 c2 c3 hk hn hm hl hc ih1 ih2
theorem M0.kept {w w':World} {P Q:Nat->Prop} {ad:Option Addr} {ts:List Tm} (h:M0 w P ad ts) (d: ∀b,P b->b<w.heap.size->w'.heap[b]?=w.heap[b]?) (g: ∀b,P b->b<w.heap.size->Q b):M0 w' Q ad ts:=by
 have keep: ∀(b o:Nat) (v:Value),P b->w.cell? ⟨b,o,none⟩=some v->w'.cell? ⟨b,o,none⟩=some v:=fun b o v c hc=>
  (World.cell?_of_block (w:=w) (w':=w') (a:=⟨b,o,none⟩) (d b c (L_ w ⟨b,o,none⟩ hc))).trans hc
 induction h with
 |nil ad=>exact .nil ad
 |cons b o k n nm l ts ad cap c c0 c1 c2 c3 d hn hm hl hc _ _ ih1 ih2=>
  exact .cons b o k n nm l ts ad cap (g b c (L_ w ⟨b,o,none⟩ c0)) (keep _ _ _ c c0) (keep _ _ _ c c1) (keep _ _ _ c c2) (keep _ _ _ c c3) d hn hm hl hc ih1 ih2
structure TmP (w:World) (P:Nat->Prop) (t:Tm) (ad:Option Addr) (cap:Nat):Prop where
 kind:In64 t.kind
 n:In64 t.n
 name:t.name.size<=maxLen
 len:t.args.length<=cap
 cap:cap<=maxLen
 args:M0 w P ad t.args
theorem TmP.toIn {w:World} {P:Nat->Prop} {t:Tm} {ad:Option Addr} {cap:Nat} (h:TmP w P t ad cap):G6 w t ad cap:=⟨h.kind,h.n,h.name,h.len,h.cap,h.args.all⟩
theorem TmP.kept {w w':World} {P Q:Nat->Prop} {t:Tm} {ad:Option Addr} {cap:Nat} (h:TmP w P t ad cap) (c: ∀b,P b->b<w.heap.size->w'.heap[b]?=w.heap[b]?) (a: ∀b,P b->b<w.heap.size->Q b):TmP w' Q t ad cap:=⟨h.kind,h.n,h.name,h.len,h.cap,h.args.kept c a⟩
def D0 (t:Tm) (ad:Option Addr) (cap:Nat):List Value:= [.int .i64 t.kind,.string t.name,.int .i64 t.n,.slice ad t.args.length cap]
inductive H4 (w:World) (P:Nat->Prop):List Value->List Tm->Prop where
 |nil:H4 w P [] []
 |cons (t:Tm) (ad:Option Addr) (cap:Nat) (xs:List Value) (ts:List Tm):TmP w P t ad cap->H4 w P xs ts->H4 w P (D0 t ad cap++xs) (t::ts)
theorem H4.kept {w w':World} {P Q:Nat->Prop} {xs:List Value} {ts:List Tm} (h:H4 w P xs ts) (c: ∀b,P b->b<w.heap.size->w'.heap[b]?=w.heap[b]?) (a: ∀b,P b->b<w.heap.size->Q b):H4 w' Q xs ts:=by
 induction h with
 |nil=>exact .nil
 |cons t ad cap xs ts ht _ ih=>exact .cons t ad cap xs ts (ht.kept c a) ih
theorem H4.snoc {w:World} {P:Nat->Prop} {xs:List Value} {ts:List Tm} (h:H4 w P xs ts) {t:Tm} {ad:Option Addr} {cap:Nat} (a:TmP w P t ad cap):H4 w P (xs++D0 t ad cap) (ts++ [t]):=by
 induction h with
 |nil=>exact .cons t ad cap [] [] a .nil
 |cons t' ad' cap' xs ts ht' _ ih=>rw [List.append_assoc];exact .cons t' ad' cap' _ _ ht' ih
theorem H4.length {w:World} {P:Nat->Prop} {xs:List Value} {ts:List Tm} (h:H4 w P xs ts):xs.length=ts.length*4:=by
 induction h with
 |nil=>rfl
 |cons t ad cap xs ts _ _ ih=>rw [P_,ih,List.length_cons];show 4+_=_;omega
theorem H4.args {w:World} {P Q:Nat->Prop} {xs:List Value} {ts:List Tm} (h:H4 w P xs ts) (g:Nat) (d:Q g) (a: ∀b,P b->Q b): ∀o:Nat,(∀j,j<xs.length->w.cell? ⟨g,o+j,none⟩=xs[j]?)->M0 w Q (some ⟨g,o,none⟩) ts:=by
 induction h with
 |nil=>exact fun o _=>.nil _
 | cons t ad cap xs ts ht _ ih=>
  intro o hc;have m:(D0 t ad cap++xs).length=4+xs.length:=by rw [P_];rfl
  have c0:=hc 0 (by omega);have c1:=hc 1 (by omega);have c2:=hc 2 (by omega);have c3:=hc 3 (by omega);have k:=ih (o+4) (fun j l=>by
   have c:=hc (4+j) (by omega);rw [show o+4+j=o+(4+j) by omega,c,List.getElem?_append_right (by show 4<=4+j;omega),show 4+j-(D0 t ad cap).length=j by show 4+j-4=j;omega])
  rw [t.eta];exact .cons g o t.kind t.n t.name t.args ts ad cap d c0 c1 c2 c3 ht.kind ht.n ht.name ht.len ht.cap (ht.args.kept (fun _ _ _=>rfl) (fun b i _=>a b i)) k
theorem Qx:(Tryz.prog.info? 26).map (fun i=>(i.zero,i.size,i.bytes))=some (some (.agg #[.int .i64 0,.string ⟨#[]⟩,.int .i64 0,.slice none 0 0]),4,56):=by kernel_rfl
def Q1 (B:Nat) (w:World) (v:Value) (ts:List Tm):Prop:= ∃xs,w.ownsRow B 26 4 v ts.length xs/\H4 w (fun b=>B<=b/\some b≠v.ownBlock) xs ts
theorem Q1.nil (B:Nat) (w:World):Q1 B w (.slice none 0 0) []:=⟨[],O_ _ _ _ _,.nil⟩
theorem Q1.lt {B:Nat} {w:World} {v:Value} {ts:List Tm} (h:Q1 B w v ts): ∀k,v.ownBlock=some k->B<=k/\k<w.heap.size:=by obtain⟨xs,a,_⟩:=h;exact a.lt
theorem Q1.below {B:Nat} {w w':World} {v:Value} {ts:List Tm} (h:Q1 B w v ts) (a:Below w.heap.size w w'):Q1 B w' v ts:=by
 obtain⟨xs,⟨m,k⟩,l⟩:=h;refine⟨xs,⟨m,?_⟩,l.kept (fun b _ i=>a.block b i) (fun b n _=>n)⟩;rcases k with j|⟨g,cap,cur,o,c,d,r⟩
 · exact .inl j
 · exact .inr ⟨g,cap,cur,o,c,(a.block g (Array.getElem?_eq_some_iff.1 d).1).trans d,r⟩
theorem Q1.slice {B:Nat} {w:World} {v:Value} {ts:List Tm} (h:Q1 B w v ts): ∃ad cap,v=.slice ad ts.length cap/\ts.length<=cap/\cap<=maxLen/\M0 w (fun b=>B<=b) ad ts:=by
 obtain⟨xs,⟨i,o⟩,p⟩:=h;rcases o with⟨rfl,m⟩|⟨g,cap,cur,rfl,a,q,d,c,k,l⟩
 · cases ts with
   |nil=>exact⟨none,0,rfl,R_ _,Nat.zero_le _,.nil _⟩
   |cons t ts=>cases m
 · refine⟨some ⟨g,0,none⟩,cap,rfl,d,c,p.args g a (fun b s=>s.1) 0 (fun j r=>?_)⟩;rw [Nat.zero_add];exact World.ownsRow.cellAt (w:=w) (base:=B) (e:=26) (size:=4) (n:=ts.length) (xs:=xs) ⟨i,.inr ⟨g,cap,cur,rfl,a,q,d,c,k,l⟩⟩ j (by rw [<-i];exact r)
theorem Q1.grown {B:Nat} {w w':World} {v v':Value} {ts:List Tm} {xs:List Value} {t:Tm} {ad:Option Addr} {cap:Nat} (k:H4 w (fun b=>B<=b/\some b≠v.ownBlock) xs ts)
 (l:w'.ownsRow B 26 4 v' (ts.length+1) (xs++D0 t ad cap)) (j:w.grownBy w' v.ownBlock) (i:v'.ownBlock=v.ownBlock\/ ∃g,v'.ownBlock=some g/\w.heap.size<=g) (m:TmP w (fun b=>B<=b/\some b≠v.ownBlock) t ad cap):Q1 B w' v' (ts++ [t]):=by
 refine⟨xs++D0 t ad cap,by rw [P_];exact l,?_⟩;have d: ∀b,(B<=b/\some b≠v.ownBlock)->b<w.heap.size->(B<=b/\some b≠v'.ownBlock):=fun b c a=>by
  refine⟨c.1,?_⟩;rcases i with h|⟨g,h,n⟩
  · rw [h];exact c.2
  · rw [h];intro e;have:=Option.some.inj e;omega
 exact(k.kept (fun b c a=>j.block b a c.2) d).snoc (m.kept (fun b c a=>j.block b a c.2) d)
theorem deeps_step (l:List Tm) (k:Nat) (h:k<l.length):Tm.deeps (l.take (k+1))=max (Tm.deeps (l.take k)) (l[k]'h).deep:=by
 rw [U_ h,Tm.deeps_snoc]
set_option maxRecDepth 100000 in
theorem ref_Deep (m:Nat): ∀(T:Tm) (ad:Option Addr) (cap:Nat) (w:World),T.size<=m->T.size<=1000000->G6 w T ad cap->
 Calls Tryz.prog 62 #[tmv T ad cap] w fun e w'=>e=.returned (.int .i64 (T.deep:Nat))/\Below w.heap.size w w':=by
 induction m with
 |zero=>intro T ad cap w h;have:=T.size_pos;omega
 | succ m ih=>
  intro T ad cap w N I d;have IH:=D_ ih;clear ih;have t:=D_ d;have s:=Tm.length_le_sizes T.args;have q:=T.size_eq;have M:T.args.length<=1000000:=by omega
  have D:=d.len;have n:=d.cap;unfold maxLen at n;have c:=D_ q;clear q s d;unfold tmv;go_enter Tryz.func62,Tryz.ntmps62;go_wp2_with fail;go_loopw [3,9] (fun nv iv wr=> ∃k:Nat,k<=T.args.length/\iv=.int .i64 k/\nv=.int .i64 (Tm.deeps (T.args.take k):Nat)/\Below w.heap.size w wr) (fun _ iv _=>T.args.length-(intOf iv).toNat)
  case atStart=>exact⟨0,Nat.zero_le _,rfl,rfl,(F_ _ w).alloc (R_ _) _⟩
  case round=>
   obtain⟨k,J,rfl,rfl,a⟩:=hrel;by_cases j:k<T.args.length
   · obtain⟨b,o,rfl⟩:=t.out.args.addr (by omega);obtain⟨ad1,cap1,c0,c1,c2,c3,i⟩:=(t.out.args.on a).get k j;have G:=Tm.mem_size (List.getElem_mem j);generalize hx:T.args[k]=x at*;have E:=D_ hx;have u:=D_ i;clear hx i;have H:=Tm.deep_le_size x;have A:Tm.deeps (T.args.take k)<=1000000:=by
      have l:=Tm.deeps_le (T.args.take k);have v:=Tm.sizes_take T.args k;have F:=c.out;omega
     have C:x.size<=m:=by have:=c.out;omega
     have B:x.size<=1000000:=by have:=c.out;omega
     have z:=D_ (deeps_step T.args k j);go_wp2_with fail;refine(IH.out x ad1 cap1 _ C B (u.out.on ((F_ _ wr).alloc (R_ _) _))).mono ?_;rintro e w2 ⟨rfl,p⟩;have r:=(a.alloc a.size _).trans (p.mono (Nat.le_trans a.size (by simp)));clear p a c0 c1 c2 c3;go_wp2_with fail;go_roundw
     case rel=>
      refine⟨k+1,by omega,by go_num,?_,r⟩;have l:=z.out;have v:=E.out;rw [v]at l;rw [l];split<;>(congr 1;omega)
     case measure=>simp [intOf];omega
   · have g:T.args.take k=T.args:=List.take_of_length_le (by omega);have A:Tm.deeps T.args<=1000000:=by
      have l:=Tm.deeps_le T.args;have F:=c.out;omega
     have y:=D_ T.deep_eq;rw [g];clear g;go_wp2_with fail;go_ret;exact⟨ret_i (by rw [y.out];omega),a⟩
noncomputable def Tm.same (a b:Tm):Bool:= @decide (a=b) (Classical.propDecidable _)
theorem Tm.same_iff (a b:Tm):a.same b=true↔a=b:=by unfold Tm.same;simp
theorem Tm.same_false {a b:Tm} (h:a≠b):a.same b=false:=by unfold Tm.same;simp [h]
theorem Tm.same_true {a b:Tm} (h:a=b):a.same b=true:=(Tm.same_iff a b).2 h
theorem Tm.ext4 {a b:Tm} (c:a.kind=b.kind) (d:a.name=b.name) (g:a.n=b.n) (h:a.args=b.args):a=b:=by
 cases a;cases b;cases c;cases d;cases g;cases h;rfl
set_option maxRecDepth 100000 in
theorem ZJ (m:Nat): ∀(A B:Tm) (ad bd:Option Addr) (ca cb:Nat) (w:World),A.size<=m->A.size<=1000000->G6 w A ad ca->G6 w B bd cb->
 Calls Tryz.prog 20 #[tmv A ad ca,tmv B bd cb] w fun e w'=>e=.returned (.bool (A.same B))/\Below w.heap.size w w':=by
 induction m with
 |zero=>intro T _ ad _ cap _ w h;have:=T.size_pos;omega
 | succ m ih=>
  intro A B ad bd ca cb w hm hM C D;have IH:=D_ ih;clear ih;have U:=D_ C;have V:=D_ D;have N:=Tm.length_le_sizes A.args;have F:=A.size_eq;have hl:A.args.length<=1000000:=by omega
  have f_:=C.len;have J:=C.cap;have g_:=D.len;have M:=D.cap;unfold maxLen at J M;have E:=D_ F;clear F N C D;by_cases R:A.kind=B.kind/\A.name=B.name/\A.n=B.n/\A.args.length=B.args.length
  · obtain⟨q0,q1,q2,q3⟩:=R;unfold tmv;rw [q0,q1,q2,q3];go_enter Tryz.func20,Tryz.ntmps20;go_wp2_with fail;generalize d:(w.alloc _).alloc _=w0;have z:Below w.heap.size w w0:=by rw [<-d];exact((F_ _ w).alloc (R_ _) _).alloc (by simp) _
    have e_:w0.heap.size=w.heap.size+2:=by rw [<-d];simp
    have e0:w0.cell? ⟨w.heap.size,3,none⟩=some (.slice ad B.args.length ca):=by rw [<-d,World.cell?_alloc_past _ _ _ (by simp),World.cell?_alloc_at _ _ _ _ rfl];rfl
    have e1:w0.cell? ⟨w.heap.size+1,3,none⟩=some (.slice bd B.args.length cb):=by rw [<-d,World.cell?_alloc_at _ _ _ _ (by simp)];rfl
    clear d;go_loopw [37] (fun iv wr=> ∃k:Nat,k<=A.args.length/\iv=.int .i64 k/\A.args.take k=B.args.take k/\Below w0.heap.size w0 wr) (fun iv _=>A.args.length-(intOf iv).toNat)
    case atStart=>exact⟨0,Nat.zero_le _,rfl,rfl,F_ _ w0⟩
    case round=>
     obtain⟨k,hk,rfl,c,a⟩:=hrel;have f0:=(a.cell (p:=⟨w.heap.size,3,none⟩) (by show w.heap.size<_;omega)).trans e0;have f1:=(a.cell (p:=⟨w.heap.size+1,3,none⟩) (by show w.heap.size+1<_;omega)).trans e1;by_cases s:k<A.args.length
     · obtain⟨b,o,rfl⟩:=U.out.args.addr (by omega);obtain⟨b',o',rfl⟩:=V.out.args.addr (by omega);have j:Below w.heap.size w wr:=z.trans (a.mono (by omega));obtain⟨ad1,cap1,c0,c1,c2,c3,q⟩:=(U.out.args.on j).get k s;obtain⟨ad2,cap2,d0,d1,d2,d3,r⟩:=(V.out.args.on j).get k (by omega);have O:=Tm.mem_size (List.getElem_mem s);generalize hx:A.args[k]=x at*;generalize hy:B.args[k]'(by omega)=y at*;have X:=D_ hx;have Y:=D_ hy;have G:=D_ q;have H:=D_ r;clear hx hy q r;have d_:x.size<=m:=by have:=E.out;omega
       have c_:x.size<=1000000:=by have:=E.out;omega
       have W:=D_ c;clear c O;have t:k<B.args.length:=by omega
       have h_:(0:Int)<=(k:Int):=by omega
       have i_:(k:Int)<(B.args.length:Int):=by omega
       go_wp2_with fail;go_region_held3 (fun w'=>w'.cell? ⟨w.heap.size,3,none⟩=some (.slice (some ⟨b,o,none⟩) B.args.length ca)/\w'.cell? ⟨w.heap.size+1,3,none⟩=some (.slice (some ⟨b',o',none⟩) B.args.length cb)/\
        w'.cell? ⟨b,o+k*4,none⟩=some (.int .i64 x.kind)/\w'.cell? ⟨b,o+k*4+1,none⟩=some (.string x.name)/\w'.cell? ⟨b,o+k*4+2,none⟩=some (.int .i64 x.n)/\w'.cell? ⟨b,o+k*4+3,none⟩=some (.slice ad1 x.args.length cap1)/\
        w'.cell? ⟨b',o'+k*4,none⟩=some (.int .i64 y.kind)/\w'.cell? ⟨b',o'+k*4+1,none⟩=some (.string y.name)/\w'.cell? ⟨b',o'+k*4+2,none⟩=some (.int .i64 y.n)/\w'.cell? ⟨b',o'+k*4+3,none⟩=some (.slice ad2 y.args.length cap2)) (first|go_keep|(have keep: ∀(b o:Nat) (v:Value),wr.cell? ⟨b,o,none⟩=some v->w2.cell? ⟨b,o,none⟩=some v:=fun b o v hc=>(((F_ _ wr).drew.trans g).cell (L_ wr ⟨b,o,none⟩ hc)).trans hc;exact⟨keep _ _ _ f0,keep _ _ _ f1,keep _ _ _ c0,keep _ _ _ c1,keep _ _ _ c2,keep _ _ _ c3,keep _ _ _ d0,keep _ _ _ d1,keep _ _ _ d2,keep _ _ _ d3⟩))
        ((go_at_call 20;refine(IH.out x y ad1 ad2 cap1 cap2 _ d_ c_ (G.out.on (F_ _ wr).drew) (H.out.on (F_ _ wr).drew)).mono ?_;rintro e w2 ⟨rfl,g⟩))
       by_cases l:x=y
       · have u:=Tm.same_true l;rw [u];have I:=a.trans (((F_ _ wr).drew.trans g).mono a.size);clear g a c0 c1 c2 c3 d0 d1 d2 d3 f0 f1;go_wp2_with fail;go_roundw
         case rel=>
          refine⟨k+1,by omega,by go_num,?_,I⟩;rw [U_ s,U_ t,W.out,X.out,Y.out,l]
         case measure=>simp [intOf];omega
       · have u:=Tm.same_false l;rw [u];go_wp2_with fail;go_ret;refine⟨?_,j.trans (((F_ _ wr).drew.trans g).mono j.size)⟩;rw [Tm.same_false]
         · rfl
         intro a_;subst a_;exact l (X.out.symm.trans Y.out)
     · have Z:A=B:=by
        rw [List.take_of_length_le (by omega),List.take_of_length_le (by omega)]at c;exact Tm.ext4 q0 q1 q2 c
       clear c;have t: ¬k<B.args.length:=by omega
       go_wp2_with fail;go_ret;exact⟨by rw [Tm.same_true Z];rfl,z.trans (a.mono (by omega))⟩
  · have b_:A≠B:=fun e=>R (by rw [e];exact⟨rfl,rfl,rfl,rfl⟩);have u:=Tm.same_false b_;rw [u];have i: ∀o1 o2:Obj,Below w.heap.size w ((w.alloc o1).alloc o2):=fun o1 o2=>((F_ _ w).alloc (R_ _) _).alloc (by simp) _;unfold tmv;go_enter Tryz.func20,Tryz.ntmps20;by_cases q0:A.kind=B.kind
    · by_cases q1:A.name.toList=B.name.toList
      · by_cases q2:A.n=B.n
        · have q3:((A.args.length:Int) !=(B.args.length:Int))=true:=by
           have q1':A.name=B.name:=by rw [Lib.toList_data,Lib.toList_data]at q1;exact ByteArray.ext (Array.toList_inj.mp q1)
           have:A.args.length≠B.args.length:=fun h=>R ⟨q0,q1',q2,h⟩;simp [bne];omega
          go_wp2_with fail;go_ret;exact⟨rfl,i _ _⟩
        · go_wp2_with fail;go_ret;exact⟨rfl,i _ _⟩
      · go_wp2_with fail;go_ret;exact⟨rfl,i _ _⟩
    · go_wp2_with fail;go_ret;exact⟨rfl,i _ _⟩
def leftI (s:Nat) (n:Int):Int:=if(s:Int)<=n then n-s else-1
end Go.Proofs.YtinefdlkajnomaaGreatDoor
