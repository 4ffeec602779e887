import Derived.Test.YtinefdlkajnomaaGreatDoorMCl1
import Derived.Test.YtinefdlkajnomaaGreatDoorMIterReg
import Derived.Sort.CutIn
import Derived.Test.YtinefdlkajnomaaGreatDoorMTermDevAB
namespace Go.Proofs.YtinefdlkajnomaaGreatDoor
open Go.RowKit
set_option maxHeartbeats 20000000
set_option linter.unusedSimpArgs false
attribute [local go_sem] Oper.semAt_some
theorem cl_goals (T:Tm) (ad:Option Addr) (cap:Nat) (w:World):
 Calls Tryz.prog 60 #[tmv T ad cap] w fun e w'=>e=.returned (.func (.func 76) #[] #[.pointer (some ⟨w.heap.size,0,none⟩)])/\w.alloc (.cells #[.int .i64 T.kind,.string T.name,.int .i64 T.n,.slice ad T.args.length cap] 26)=w':=by
 unfold tmv;go_enter Tryz.func60,Tryz.ntmps60;go_wp2_with fail;go_ret;exact⟨rfl,rfl⟩
theorem blocks_new (l:List Obj): ∀(w:World),(l.foldl World.alloc w).heap.size=w.heap.size+l.length/\Below w.heap.size w (l.foldl World.alloc w)/\ ∀i o,l[i]?=some o->(l.foldl World.alloc w).heap[w.heap.size+i]?=some o:=by
 induction l with
 |nil=>exact fun w=>⟨rfl,F_ _ _,fun i o h=>by simp at h⟩
 | cons o l ih=>
  intro w;obtain⟨b,a,c⟩:=ih (w.alloc o);rw [Z_]at b a c;refine⟨by rw [List.foldl_cons,b,List.length_cons];omega,((F_ _ w).alloc (R_ _) o).trans (a.mono (by omega)),fun i o' d=>?_⟩;cases i with
  |zero=>
   have e:o=o':=by simpa using d
   subst e;rw [List.foldl_cons,Nat.add_zero,a.block w.heap.size (by omega)];exact H2 w o
  |succ i=>
   have:=c i o' (by simpa using d);rw [List.foldl_cons,show w.heap.size+(i+1)=w.heap.size+1+i by omega];exact this
theorem six_blocks (w:World) (o1 o2 o3 o4 o5 o6:Obj) {W:World} (h:(((((w.alloc o1).alloc o2).alloc o3).alloc o4).alloc o5).alloc o6=W):
 W.heap.size=w.heap.size+6/\Below w.heap.size w W/\W.heap[w.heap.size]?=some o1/\W.heap[w.heap.size+1]?=some o2/\W.heap[w.heap.size+2]?=some o3/\W.heap[w.heap.size+3]?=some o4/\W.heap[w.heap.size+4]?=some o5/\W.heap[w.heap.size+5]?=some o6:=by
 obtain⟨b,c,a⟩:=blocks_new [o1,o2,o3,o4,o5,o6] w;rw [<-h];exact⟨b,c,a 0 o1 rfl,a 1 o2 rfl,a 2 o3 rfl,a 3 o4 rfl,a 4 o5 rfl,a 5 o6 rfl⟩
theorem wpIn_called {F:Fence} {n:Nat} {P:Program} {c:Code} {Q:Exit->Act->World->Prop} {a:Act} {w:World} (h: ∀W,w=W->c.wpIn F n P Q a W):c.wpIn F n P Q a w:=h w rfl
structure GaI (Mb:Nat->Prop) (T:Tm) (X:Nat->Tm) (St:Nat->World->Prop) (fv:Value) (w:World) (v:Value) (M:Nat->Prop) (k:Nat) (W:World):Prop where
 turn:V0 Mb w W
 far: ∀j,M j->w.heap.size+6<=j
 bec:W.heap[w.heap.size+1]?=some (.cells #[fv] 28 (0,0))
 r1:W.heap[w.heap.size+2]?=some (.cells #[.slice none 0 0] 24 (0,0))
 r2:W.heap[w.heap.size+3]?=some (.cells #[.int .i64 0] 31 (0,0))
 lst:W.heap[w.heap.size+4]?=some (.cells #[v] 24 (0,0))
 own: ∃xs,W.ownsRow (w.heap.size+6) 26 4 v k xs/\H4 W (fun b=>w.heap.size+6<=b/\ ¬M b/\some b≠v.ownBlock) xs ((List.range k).map X)
 free: ∀g,v.ownBlock=some g-> ¬M g
 st:St k W
 goal:(T.body.take k).all Tm.goal=true
 sz:w.heap.size+6<=W.heap.size
def GaX (Mb:Nat->Prop) (T:Tm) (w:World) (M:Nat->Prop) (W:World):Prop:=
 V0 Mb w W/\(∀j,M j->w.heap.size+6<=j)/\W.heap[w.heap.size+2]?=some (.cells #[.slice none 0 0] 24 (0,0))/\W.heap[w.heap.size+3]?=some (.cells #[.int .i64 80] 31 (0,0))/\T.body.all Tm.goal=false/\w.heap.size+6<=W.heap.size
theorem GaI.turned {Mb:Nat->Prop} {T:Tm} {X:Nat->Tm} {St:Nat->World->Prop} {fv:Value} {w:World} {v:Value} {M M':Nat->Prop} {k:Nat} {A B:World} (p: ∀j,Mb j->j<w.heap.size) (q: ∀k A B,St k A->(∀j,Mb j->B.heap[j]?=A.heap[j]?)->St k B)
 (h:GaI Mb T X St fv w v M k A) (a:V0 M A B) (n: ∀j,M' j->M j\/A.heap.size<=j):GaI Mb T X St fv w v M' k B:=by
 have t:=h.sz;have lo: ∀j,j<w.heap.size+6->B.heap[j]?=A.heap[j]?:=fun j c=>a.block j (by omega) (fun i=>by have:=h.far j i;omega);obtain⟨xs,o,s⟩:=h.own;refine⟨⟨a.os.trans h.turn.os,a.tape.trans h.turn.tape,a.output.trans h.turn.output,Nat.le_trans h.turn.size a.size,fun j c r=>(lo j (by omega)).trans (h.turn.block j c r)⟩,fun j c=>?_,(lo _ (by omega)).trans h.bec,(lo _ (by omega)).trans h.r1,(lo _ (by omega)).trans h.r2,(lo _ (by omega)).trans h.lst,⟨xs,?_,?_⟩,fun g l i=>?_,q k A B h.st fun j c=>lo j (by have:=p j c;omega),h.goal,by have:=a.size;omega⟩
 · rcases n j c with h'|h'
   · exact h.far j h'
   · omega
 · exact F3 o fun g l m=>a.block g m (h.free g l)
 · refine s.kept (fun b d m=>a.block b m d.2.1) fun b d m=>⟨d.1,fun i=>?_,d.2.2⟩;rcases n b i with h'|h'
   · exact d.2.1 h'
   · omega
 · rcases n g i with h'|h'
   · exact h.free g l h'
   · have:=(o.lt g l).2;omega
theorem gaX_turned {Mb:Nat->Prop} {T:Tm} {w:World} {M M':Nat->Prop} {A B:World} (_hMb: ∀j,Mb j->j<w.heap.size) (h:GaX Mb T w M A) (a:V0 M A B) (o: ∀j,M' j->M j\/A.heap.size<=j):GaX Mb T w M' B:=by
 obtain⟨b,d,k,g,l,m⟩:=h;have p:=(Array.getElem?_eq_some_iff.1 g).1;have lo: ∀j,j<w.heap.size+4->B.heap[j]?=A.heap[j]?:=fun j c=>a.block j (by omega) (fun n=>by have:=d j n;omega);refine⟨⟨a.os.trans b.os,a.tape.trans b.tape,a.output.trans b.output,Nat.le_trans b.size a.size,fun j c i=>(lo j (by omega)).trans (b.block j c i)⟩,fun j c=>?_,(lo _ (by omega)).trans k,(lo _ (by omega)).trans g,l,Nat.le_trans m a.size⟩;rcases o j c with h'|h'
 · exact d j h'
 · omega
theorem gaX_of {Mb:Nat->Prop} {T:Tm} {X:Nat->Tm} {St:Nat->World->Prop} {fv:Value} {w W₂ W₄:World} {v:Value} {M:Nat->Prop} {k:Nat} (a:GaI Mb T X St fv w v M k W₂) (m: ∀j,M j->j<W₂.heap.size) (b:Below W₂.heap.size W₂ W₄) (h:T.body.all Tm.goal=false):
 T2 M W₂ ((W₄.setCell ⟨w.heap.size+1+1,0,none⟩ (.slice none 0 0)).setCell ⟨w.heap.size+1+1+1,0,none⟩ (.int .i64 80))/\GaX Mb T w M ((W₄.setCell ⟨w.heap.size+1+1,0,none⟩ (.slice none 0 0)).setCell ⟨w.heap.size+1+1+1,0,none⟩ (.int .i64 80)):=by
 have n:=b.size;have o:=a.sz;have d: ∀j,j≠w.heap.size+2->j≠w.heap.size+3->j<W₂.heap.size->((W₄.setCell ⟨w.heap.size+1+1,0,none⟩ (.slice none 0 0)).setCell ⟨w.heap.size+1+1+1,0,none⟩ (.int .i64 80)).heap[j]?=W₂.heap[j]?:=fun j p q l=>
  (S_ _ _ _ _ (show j≠w.heap.size+1+1+1 by omega)).trans ((S_ _ _ _ _ (show j≠w.heap.size+1+1 by omega)).trans (b.block j l))
 have e1:=H_ (i:=0) ((b.block (w.heap.size+2) (by omega)).trans a.r1) (.slice none 0 0);have e2:=H_ (i:=0) ((show(W₄.setCell ⟨w.heap.size+2,0,none⟩ (.slice none 0 0)).heap[w.heap.size+3]?=W₄.heap[w.heap.size+3]? from S_ _ _ _ _ (show w.heap.size+3≠w.heap.size+2 by omega)).trans ((b.block (w.heap.size+3) (by omega)).trans a.r2)) (.int .i64 80);refine⟨⟨by simp [World.setCell];exact n,fun j c=>d j (by have:=a.far j c;omega) (by have:=a.far j c;omega) (m j c)⟩,?_,a.far,?_,?_,h,by simp [World.setCell];omega⟩
 · have t:=a.turn;exact⟨b.os.trans t.os,b.tape.trans t.tape,b.output.trans t.output,by simp [World.setCell];have:=t.size;omega,fun j c g=>(d j (by omega) (by omega) (by omega)).trans (t.block j c g)⟩
 · exact(S_ _ _ _ _ (show w.heap.size+2≠w.heap.size+1+1+1 by omega)).trans e1
 · exact e2
theorem GaI.next {Mb:Nat->Prop} {T:Tm} {X:Nat->Tm} {St:Nat->World->Prop} {fv:Value} {w W₂ W₃ Wa W9 W':World} {v:Value} {M:Nat->Prop} {k n₀:Nat} {ad:Option Addr} {cap g9 cap9:Nat} {xs:List Value} (s: ∀j,Mb j->n₀<=j/\j<w.heap.size) (hn:n₀<=w.heap.size)
 (G: ∀k A B,St k A->(∀j,Mb j->B.heap[j]?=A.heap[j]?)->St k B) (d:GaI Mb T X St fv w v M k W₂) (C: ∀j,M j->j<W₂.heap.size) (l:Below W₂.heap.size W₂ W₃) (o:V0 Mb W₃ Wa) (N:St (k+1) Wa)
 (hx:TmP Wa (fun b=>W₃.heap.size<=b) (X k) ad cap) (U:W₂.ownsRow (w.heap.size+6) 26 4 v k xs) (V:H4 W₂ (fun b=>w.heap.size+6<=b/\ ¬M b/\some b≠v.ownBlock) xs ((List.range k).map X))
 (c:Wa.grownBy W9 v.ownBlock) (q:v.ownBlock=some g9\/g9=Wa.heap.size) (y:(T.body.take (k+1)).all Tm.goal=true)
 (J:W'.os=W9.os/\W'.tape=W9.tape/\W'.output=W9.output/\W'.heap.size=W9.heap.size) (E: ∀b,b≠g9->b≠w.heap.size+4->W'.heap[b]?=W9.heap[b]?)
 (F:W'.ownsRow (w.heap.size+6) 26 4 (.slice (some ⟨g9,0,none⟩) (k+1) cap9) (k+1) (xs++D0 (X k) ad cap)) (W:W'.heap[w.heap.size+4]?=some (.cells #[.slice (some ⟨g9,0,none⟩) (k+1) cap9] 24 (0,0))):
 T2 M W₂ W'/\Below n₀ W₂ W'/\ ∃v',GaI Mb T X St fv w v' M (k+1) W':=by
 have a_:=l.size;have c_:=o.size;have b_:=c.size;have d_:=d.sz;obtain⟨e1,e2,e3,e4⟩:=J;have Z:w.heap.size+6<=g9:=F.lt g9 rfl|>.1;have x: ∀g,v.ownBlock=some g->w.heap.size+6<=g/\g<W₂.heap.size:=fun g u=>U.lt g u;have keep: ∀b,b<W₂.heap.size->b≠w.heap.size+4-> ¬Mb b->some b≠v.ownBlock->W'.heap[b]?=W₂.heap[b]?:=fun b a r I O=>by
  have u:b≠g9:=fun e=>by
   rcases q with h|h
   · exact O (by rw [h,e])
   · omega
  exact(E b u r).trans ((c.block b (by omega) O).trans ((o.block b (by omega) I).trans (l.block b a)))
 have n: ∀b,w.heap.size<=b-> ¬Mb b:=fun b a i=>by have:=(s b i).2;omega
 have lo: ∀b,b<w.heap.size+6->some b≠v.ownBlock:=fun b a e=>by have:=x b e.symm;omega
 have D: ∀b,(w.heap.size+6<=b/\ ¬M b/\some b≠v.ownBlock)->b<W₂.heap.size->w.heap.size+6<=b/\ ¬M b/\some b≠(Value.slice (some ⟨g9,0,none⟩) (k+1) cap9).ownBlock:=fun b a p=>by
  refine⟨a.1,a.2.1,fun e=>?_⟩;have e':b=g9:=by simpa [Value.ownBlock]using e
  rcases q with h|h
  · exact a.2.2 (by rw [h,e'])
  · omega
 have H: ¬M g9:=fun i=>by
  rcases q with h|h
  · exact d.free g9 h i
  · have:=C g9 i;omega
 have Y:g9<W'.heap.size:=(F.lt g9 rfl).2;have z: ∀b,W₃.heap.size<=b->b<Wa.heap.size->b≠g9:=fun b h R e=>by
  rcases q with hh|hh
  · have:=(x g9 hh).2;omega
  · omega
 refine⟨⟨by omega,fun j m=>keep j (C j m) (by have:=d.far j m;omega) (n j (by have:=d.far j m;omega)) (fun e=>d.free j e.symm m)⟩,⟨e1.trans (c.os.trans (o.os.trans l.os)),e2.trans (c.tape.trans (o.tape.trans l.tape)),e3.trans (c.output.trans (o.output.trans l.output)),by omega,fun b a=>keep b (by omega) (by omega) (fun i=>by have:=(s b i).1;omega) (lo b (by omega))⟩,_,?_,d.far,?_,?_,?_,W,⟨_,F,?_⟩,?_,?_,y,by omega⟩
 · have t:=d.turn;exact⟨e1.trans (c.os.trans (o.os.trans (l.os.trans t.os))),e2.trans (c.tape.trans (o.tape.trans (l.tape.trans t.tape))),e3.trans (c.output.trans (o.output.trans (l.output.trans t.output))),by have:=t.size;omega,fun j m r=>(keep j (by omega) (by omega) r (lo j (by omega))).trans (t.block j m r)⟩
 · exact(keep _ (by omega) (by omega) (n _ (by omega)) (lo _ (by omega))).trans d.bec
 · exact(keep _ (by omega) (by omega) (n _ (by omega)) (lo _ (by omega))).trans d.r1
 · exact(keep _ (by omega) (by omega) (n _ (by omega)) (lo _ (by omega))).trans d.r2
 · rw [List.range_succ,List.map_append];refine(V.kept (fun b a p=>keep b p (by omega) (n b (by omega)) a.2.2) D).snoc (hx.kept (fun b a p=>?_) fun b a p=>⟨by omega,fun i=>by have:=C b i;omega,fun e=>z b a p (by simpa [Value.ownBlock]using e)⟩);exact(E b (z b a p) (by omega)).trans (c.block b p (fun e=>by have:=(x b e.symm).2;omega))
 · intro g u i;have:g=g9:=by simpa [Value.ownBlock]using u.symm
   exact H (this▸i)
 · refine G (k+1) Wa W' N fun j m=>?_;have R:=s j m;exact(E j (by omega) (by omega)).trans (c.block j (by omega) (lo j (by omega)))
def Wq:List Value:= [.int .i64 0,.string ⟨#[]⟩,.int .i64 0,.slice none 0 0]
theorem n8: ∀u∈Wq,u.oneCell'=true:=by
 intro u a;simp [Wq]at a;rcases a with rfl|rfl|rfl|rfl<;>rfl
theorem gaI_done {Mb:Nat->Prop} {T:Tm} {X:Nat->Tm} {St:Nat->World->Prop} {fv:Value} {w W:World} {v:Value} {M:Nat->Prop} {N D:Nat} (d: ∀j,Mb j->j<w.heap.size) (r: ∀k A B,St k A->(∀j,Mb j->B.heap[j]?=A.heap[j]?)->St k B)
 (c:GaI Mb T X St fv w v M N W) (n:M D) (W':World) (a:W'=((W.setCell ⟨w.heap.size+1+1,0,none⟩ v).setCell ⟨w.heap.size+1+1+1,0,none⟩ (.int .i64 0)).putObj D (.deferred none)):
 W'.heap[w.heap.size+1+1]?=some (.cells #[v] 24 (0,0))/\W'.heap[w.heap.size+1+1+1]?=some (.cells #[.int .i64 0] 31 (0,0))/\V0 Mb w W'/\Q1 w.heap.size W' v ((List.range N).map X)/\St N W':=by
 have z:=c.far D n;have y:=c.sz;have m: ∀j,j≠w.heap.size+2->j≠w.heap.size+3->j≠D->W'.heap[j]?=W.heap[j]?:=fun j l q x=>by
  rw [a,World.putObj_heap_other x];exact(S_ _ _ _ _ (show j≠w.heap.size+1+1+1 by omega)).trans (S_ _ _ _ _ (show j≠w.heap.size+1+1 by omega))
 have e1:=H_ (i:=0) c.r1 v;have e2:=H_ (i:=0) ((show(W.setCell ⟨w.heap.size+2,0,none⟩ v).heap[w.heap.size+3]?=W.heap[w.heap.size+3]? from S_ _ _ _ _ (show w.heap.size+3≠w.heap.size+2 by omega)).trans c.r2) (.int .i64 0);have C:W'.heap.size=W.heap.size:=by rw [a];simp [World.setCell]
 obtain⟨xs,l,q⟩:=c.own;refine⟨?_,?_,?_,⟨xs,?_,?_⟩,r N W W' c.st fun j h=>m j (by have:=d j h;omega) (by have:=d j h;omega) (by have:=d j h;omega)⟩
 · rw [a,World.putObj_heap_other (by omega)];exact(S_ _ _ _ _ (show w.heap.size+2≠w.heap.size+1+1+1 by omega)).trans e1
 · rw [a,World.putObj_heap_other (by omega)];exact e2
 · have t:=c.turn;exact⟨by rw [a];exact t.os,by rw [a];exact t.tape,by rw [a];exact t.output,by have:=t.size;omega,fun j h u=>(m j (by omega) (by omega) (by omega)).trans (t.block j h u)⟩
 · rw [List.length_map,List.length_range];exact Z3 (F3 l fun g p s=>m g (by have:=(l.lt g p).1;omega) (by have:=(l.lt g p).1;omega) (fun e=>c.free g p (e▸n))) (by omega)
 · exact q.kept (fun b o s=>m b (by omega) (by omega) (fun e=>o.2.1 (e▸n))) fun b o s=>⟨by omega,o.2.2⟩
theorem rz {w:World} {B n:Nat} {xs:List Value} {v:Value} (h:w.ownsRow B 26 4 v n xs): ∃ad cap,v=.slice ad n cap:=by
 obtain⟨_,⟨rfl,rfl⟩|⟨g,cap,cur,rfl,_⟩⟩:=h
 · exact⟨_,_,rfl⟩
 · exact⟨_,_,rfl⟩
theorem Pq (w:World): ∀j u,Wq[j]?=some u->(w.alloc (.cells #[.int .i64 0,.string ⟨#[]⟩,.int .i64 0,.slice none 0 0] 26)).cell? ((⟨w.heap.size,0,none⟩:Addr).add j)=some u:=by
 intro j u a;rw [U8,Nat.zero_add,World.cell?_alloc_at _ _ _ _ rfl,<-a,<-List.getElem?_toArray];rfl
theorem yx (w:World) {W:World} {Mb:Nat->Prop} (h:V0 Mb (w.alloc (.cells #[.int .i64 0,.string ⟨#[]⟩,.int .i64 0,.slice none 0 0] 26)).drew W) (d: ¬Mb w.heap.size): ∀j u,Wq[j]?=some u->W.cell? ((⟨w.heap.size,0,none⟩:Addr).add j)=some u:=by
 intro j u c;have b:=Pq w j u c;rw [U8]at b⊢;exact(World.cell?_of_block (a:=⟨w.heap.size,0+j,none⟩) (h.block w.heap.size (by show w.heap.size<(w.alloc _).heap.size;rw [Z_];omega) d)).trans b
theorem set4_row {W:World} {B g n cap i:Nat} {xs:List Value} {t:Tm} {ad:Option Addr} {c:Nat} {a b d e:Value} (h:W.ownsRow B 26 4 (.slice (some ⟨g,0,none⟩) n cap) n (xs++([a,b,d,e]++ []))) (hx:xs.length=i*4):
 ((((W.setCell ⟨g,i*4,none⟩ (.int .i64 t.kind)).setCell ⟨g,i*4+1,none⟩ (.string t.name)).setCell ⟨g,i*4+2,none⟩ (.int .i64 t.n)).setCell ⟨g,i*4+3,none⟩ (.slice ad t.args.length c)).ownsRow B 26 4 (.slice (some ⟨g,0,none⟩) n cap) n (xs++D0 t ad c):=by
 have:=row_set4 h hx (.int .i64 t.kind) (.string t.name) (.int .i64 t.n) (.slice ad t.args.length c);rw [List.append_nil]at this;exact this
theorem sc_os (W:World) (p:Addr) (v:Value):(W.setCell p v).os=W.os:=rfl
theorem sc_tape (W:World) (p:Addr) (v:Value):(W.setCell p v).tape=W.tape:=rfl
theorem sc_out (W:World) (p:Addr) (v:Value):(W.setCell p v).output=W.output:=rfl
theorem GZ (W:World) (p:Addr) (v:Value):(W.setCell p v).heap.size=W.heap.size:=by simp [World.setCell]
theorem GaI.next89 {Mb:Nat->Prop} {T:Tm} {X:Nat->Tm} {St:Nat->World->Prop} {fv:Value} {w W₂ W₃ Wa W9:World} {v:Value} {M:Nat->Prop} {k n₀:Nat} {ad:Option Addr} {cap g9 cap9:Nat} {xs:List Value} (g: ∀j,Mb j->n₀<=j/\j<w.heap.size) (C:n₀<=w.heap.size)
 (h: ∀k A B,St k A->(∀j,Mb j->B.heap[j]?=A.heap[j]?)->St k B) (u:GaI Mb T X St fv w v M k W₂) (x: ∀j,M j->j<W₂.heap.size) (y:Below W₂.heap.size W₂ W₃) (D:V0 Mb W₃ Wa) (q:St (k+1) Wa)
 (hx:TmP Wa (fun b=>W₃.heap.size<=b) (X k) ad cap) (s:W₂.ownsRow (w.heap.size+6) 26 4 v k xs) (t:H4 W₂ (fun b=>w.heap.size+6<=b/\ ¬M b/\some b≠v.ownBlock) xs ((List.range k).map X))
 (m:Wa.grownBy W9 v.ownBlock) (l:v.ownBlock=some g9\/g9=Wa.heap.size) (d:(T.body.take (k+1)).all Tm.goal=true)
 (p:W9.ownsRow (w.heap.size+6) 26 4 (.slice (some ⟨g9,0,none⟩) (k+1) cap9) (k+1) (xs++([.int .i64 0,.string ⟨#[]⟩,.int .i64 0,.slice none 0 0]++ []))) (z:W9.heap[w.heap.size+4]?=some (.cells #[v] 24 (0,0))) (r:xs.length=k*4):
 T2 M W₂ (((((W9.setCell ⟨g9,k*4,none⟩ (.int .i64 (X k).kind)).setCell ⟨g9,k*4+1,none⟩ (.string (X k).name)).setCell ⟨g9,k*4+2,none⟩ (.int .i64 (X k).n)).setCell ⟨g9,k*4+3,none⟩ (.slice ad (X k).args.length cap)).setCell ⟨w.heap.size+1+1+1+1,0,none⟩ (.slice (some ⟨g9,0,none⟩) (k+1) cap9))/\Below n₀ W₂ (((((W9.setCell ⟨g9,k*4,none⟩ (.int .i64 (X k).kind)).setCell ⟨g9,k*4+1,none⟩ (.string (X k).name)).setCell ⟨g9,k*4+2,none⟩ (.int .i64 (X k).n)).setCell ⟨g9,k*4+3,none⟩ (.slice ad (X k).args.length cap)).setCell ⟨w.heap.size+1+1+1+1,0,none⟩ (.slice (some ⟨g9,0,none⟩) (k+1) cap9))/\ ∃v',GaI Mb T X St fv w v' M (k+1) (((((W9.setCell ⟨g9,k*4,none⟩ (.int .i64 (X k).kind)).setCell ⟨g9,k*4+1,none⟩ (.string (X k).name)).setCell ⟨g9,k*4+2,none⟩ (.int .i64 (X k).n)).setCell ⟨g9,k*4+3,none⟩ (.slice ad (X k).args.length cap)).setCell ⟨w.heap.size+1+1+1+1,0,none⟩ (.slice (some ⟨g9,0,none⟩) (k+1) cap9)):=by
 have F:=(p.lt g9 rfl).1;have c:w.heap.size+4≠g9:=by omega
 have o:((((W9.setCell ⟨g9,k*4,none⟩ (.int .i64 (X k).kind)).setCell ⟨g9,k*4+1,none⟩ (.string (X k).name)).setCell ⟨g9,k*4+2,none⟩ (.int .i64 (X k).n)).setCell ⟨g9,k*4+3,none⟩ (.slice ad (X k).args.length cap)).heap[w.heap.size+4]?=some (.cells #[v] 24 (0,0)):=((S_ _ _ _ _ (show w.heap.size+4≠g9 from c)).trans ((S_ _ _ _ _ (show w.heap.size+4≠g9 from c)).trans ((S_ _ _ _ _ (show w.heap.size+4≠g9 from c)).trans (S_ _ _ _ _ (show w.heap.size+4≠g9 from c))))).trans z;refine GaI.next (W':=(((((W9.setCell ⟨g9,k*4,none⟩ (.int .i64 (X k).kind)).setCell ⟨g9,k*4+1,none⟩ (.string (X k).name)).setCell ⟨g9,k*4+2,none⟩ (.int .i64 (X k).n)).setCell ⟨g9,k*4+3,none⟩ (.slice ad (X k).args.length cap)).setCell ⟨w.heap.size+1+1+1+1,0,none⟩ (.slice (some ⟨g9,0,none⟩) (k+1) cap9))) g C h u x y D q hx s t m l d ⟨by simp only [sc_os],by simp only [sc_tape],by simp only [sc_out],by simp only [GZ]⟩ (fun b a E=>(S_ _ _ _ _ (show b≠w.heap.size+1+1+1+1 by omega)).trans ((S_ _ _ _ _ (show b≠g9 from a)).trans ((S_ _ _ _ _ (show b≠g9 from a)).trans ((S_ _ _ _ _ (show b≠g9 from a)).trans (S_ _ _ _ _ (show b≠g9 from a)))))) (I1 (set4_row p r) (S_ _ _ _ _ (show g9≠w.heap.size+1+1+1+1 by omega))) ?_;have e:=H_ (i:=0) o (.slice (some ⟨g9,0,none⟩) (k+1) cap9);simpa using e
theorem GaI.next98 {Mb:Nat->Prop} {T:Tm} {X:Nat->Tm} {St:Nat->World->Prop} {fv:Value} {w W₂ W₃ Wa W9:World} {v:Value} {M:Nat->Prop} {k n₀:Nat} {ad:Option Addr} {cap g9 cap9:Nat} {xs:List Value} (g: ∀j,Mb j->n₀<=j/\j<w.heap.size) (z:n₀<=w.heap.size)
 (h: ∀k A B,St k A->(∀j,Mb j->B.heap[j]?=A.heap[j]?)->St k B) (t:GaI Mb T X St fv w v M k W₂) (u: ∀j,M j->j<W₂.heap.size) (x:Below W₂.heap.size W₂ W₃) (C:V0 Mb W₃ Wa) (p:St (k+1) Wa)
 (hx:TmP Wa (fun b=>W₃.heap.size<=b) (X k) ad cap) (r:W₂.ownsRow (w.heap.size+6) 26 4 v k xs) (s:H4 W₂ (fun b=>w.heap.size+6<=b/\ ¬M b/\some b≠v.ownBlock) xs ((List.range k).map X))
 (m:Wa.grownBy W9 v.ownBlock) (l:v.ownBlock=some g9\/g9=Wa.heap.size) (d:(T.body.take (k+1)).all Tm.goal=true)
 (o:W9.ownsRow (w.heap.size+6) 26 4 (.slice (some ⟨g9,0,none⟩) (k+1) cap9) (k+1) (xs++([.int .i64 0,.string ⟨#[]⟩,.int .i64 0,.slice none 0 0]++ []))) (y:W9.heap[w.heap.size+4]?=some (.cells #[v] 24 (0,0))) (q:xs.length=k*4):
 T2 M W₂ (((((W9.setCell ⟨w.heap.size+1+1+1+1,0,none⟩ (.slice (some ⟨g9,0,none⟩) (k+1) cap9)).setCell ⟨g9,k*4,none⟩ (.int .i64 (X k).kind)).setCell ⟨g9,k*4+1,none⟩ (.string (X k).name)).setCell ⟨g9,k*4+2,none⟩ (.int .i64 (X k).n)).setCell ⟨g9,k*4+3,none⟩ (.slice ad (X k).args.length cap))/\Below n₀ W₂ (((((W9.setCell ⟨w.heap.size+1+1+1+1,0,none⟩ (.slice (some ⟨g9,0,none⟩) (k+1) cap9)).setCell ⟨g9,k*4,none⟩ (.int .i64 (X k).kind)).setCell ⟨g9,k*4+1,none⟩ (.string (X k).name)).setCell ⟨g9,k*4+2,none⟩ (.int .i64 (X k).n)).setCell ⟨g9,k*4+3,none⟩ (.slice ad (X k).args.length cap))/\ ∃v',GaI Mb T X St fv w v' M (k+1) (((((W9.setCell ⟨w.heap.size+1+1+1+1,0,none⟩ (.slice (some ⟨g9,0,none⟩) (k+1) cap9)).setCell ⟨g9,k*4,none⟩ (.int .i64 (X k).kind)).setCell ⟨g9,k*4+1,none⟩ (.string (X k).name)).setCell ⟨g9,k*4+2,none⟩ (.int .i64 (X k).n)).setCell ⟨g9,k*4+3,none⟩ (.slice ad (X k).args.length cap)):=by
 have E:=(o.lt g9 rfl).1;have c:w.heap.size+4≠g9:=by omega
 refine GaI.next (W':=(((((W9.setCell ⟨w.heap.size+1+1+1+1,0,none⟩ (.slice (some ⟨g9,0,none⟩) (k+1) cap9)).setCell ⟨g9,k*4,none⟩ (.int .i64 (X k).kind)).setCell ⟨g9,k*4+1,none⟩ (.string (X k).name)).setCell ⟨g9,k*4+2,none⟩ (.int .i64 (X k).n)).setCell ⟨g9,k*4+3,none⟩ (.slice ad (X k).args.length cap))) g z h t u x C p hx r s m l d ⟨by simp only [sc_os],by simp only [sc_tape],by simp only [sc_out],by simp only [GZ]⟩ (fun b a D=>(S_ _ _ _ _ (show b≠g9 from a)).trans ((S_ _ _ _ _ (show b≠g9 from a)).trans ((S_ _ _ _ _ (show b≠g9 from a)).trans ((S_ _ _ _ _ (show b≠g9 from a)).trans (S_ _ _ _ _ (show b≠w.heap.size+1+1+1+1 by omega)))))) (set4_row (I1 o (S_ _ _ _ _ (show g9≠w.heap.size+1+1+1+1 by omega))) q) ?_;have e:=H_ (i:=0) y (.slice (some ⟨g9,0,none⟩) (k+1) cap9);exact((S_ _ _ _ _ (show w.heap.size+4≠g9 from c)).trans ((S_ _ _ _ _ (show w.heap.size+4≠g9 from c)).trans ((S_ _ _ _ _ (show w.heap.size+4≠g9 from c)).trans (S_ _ _ _ _ (show w.heap.size+4≠g9 from c))))).trans (by simpa using e)
theorem goals_step {T x:Tm} {k:Nat} (h:(T.body.take k).all Tm.goal=true) (hx:T.body[k]?=some x) (a:x.goal=true):(T.body.take (k+1)).all Tm.goal=true:=by
 rw [List.take_add_one,hx,List.all_append,h];simp [a]
theorem goals_not {T x:Tm} {k:Nat} (hx:T.body[k]?=some x) (a:x.goal=false):T.body.all Tm.goal=false:=by
 rw [List.all_eq_false];exact⟨x,List.mem_of_getElem? hx,by rw [a];nofun⟩
end Go.Proofs.YtinefdlkajnomaaGreatDoor
namespace Go.Proofs.YtinefdlkajnomaaGreatDoor
open Go.RowKit
set_option maxHeartbeats 20000000
set_option linter.unusedSimpArgs false
attribute [local go_sem] Oper.semAt_some
end Go.Proofs.YtinefdlkajnomaaGreatDoor
namespace Go.Proofs.YtinefdlkajnomaaGreatDoor
open Go.RowKit
set_option maxHeartbeats 20000000
set_option linter.unusedSimpArgs false
theorem V0.none {A B:World} (h:V0 (fun _=>False) A B):Below A.heap.size A B:=⟨h.os,h.tape,h.output,h.size,fun k a=>h.block k a (fun e=>e)⟩
end Go.Proofs.YtinefdlkajnomaaGreatDoor
namespace Go.Proofs.YtinefdlkajnomaaGreatDoor
open Go.RowKit
set_option maxHeartbeats 20000000
set_option linter.unusedSimpArgs false
attribute [local go_sem] Oper.semAt_some
set_option maxRecDepth 100000 in
theorem cl_gatherN (T:Tm) (ad:Option Addr) (cap:Nat) (w:World) (n₀:Nat) (Mb:Nat->Prop) (X:Nat->Tm) (St:Nat->World->Prop) (mb:Nat)
 (hM:T.size<=1000000) (hp:TmP w (fun b=>b<n₀) T ad cap) (hn:n₀<=w.heap.size) (hMb: ∀j,Mb j->n₀<=j/\j<w.heap.size) (hSt: ∀k A B,St k A->(∀j,Mb j->B.heap[j]?=A.heap[j]?)->St k B) (h0:St 0 w)
 (hX: ∀k x ad cap W,T.body[k]?=some x->TmP W (fun b=>b<n₀) x ad cap->St k W->Calls Tryz.prog 40 #[.map (some mb),.agg #[.int .i64 x.kind,.string x.name,.int .i64 x.n,.slice ad x.args.length cap]] W fun e w'=> ∃ad' cap',e=.returned (tmv (X k) ad' cap')/\TmP w' (fun b=>W.heap.size<=b) (X k) ad' cap'/\V0 Mb W w'/\St (k+1) w'):
 Calls Tryz.prog 41 #[tmv T ad cap,(.func (.func 40) #[.map (some mb)] #[])] w fun e w'=>V0 Mb w w'/\((T.body.all Tm.goal=true/\(∃v,e=.returned (.tuple #[v,.int .i64 0])/\Q1 w.heap.size w' v ((List.range T.body.length).map X))/\St T.body.length w')\/(T.body.all Tm.goal=false/\e=.returned (.tuple #[.slice none 0 0,.int .i64 80]))):=by
 have HP:=D_ hp;have HG:=D_ (fun W=>cl_goals T ad cap W);have HX:=D_ hX;have V:=D_ hSt;have F:=D_ hMb;have H0:=D_ h0;clear hp hX hSt hMb h0;unfold tmv at HG;unfold tmv;refine(callsIn_wide (n:=4)).1 ?_;refine callsIn_of_wp_marks Tryz.func41 rfl trivial ?_ rfl;simp only [Tryz.ntmps41,List.size_toArray,List.length_cons,List.length_nil,Nat.reduceAdd,Nat.reduceSub,Array.replicate_succ,Array.replicate_zero,List.push_toArray,List.append_toArray,List.nil_append,List.cons_append]
 gi_wp2_with ((refine⟨trivial,?_⟩;gi_at_call 60;refine(callsIn_wide.2 (HG.out _)).mono ?_;rintro e w' ⟨rfl,rfl⟩))
 refine wpIn_called fun W0 hW0=>?_;obtain⟨hsz,p_,n0,n1,n2,n3,n4,n5⟩:=six_blocks w _ _ _ _ _ _ hW0;have x_:=goals_seq T ad cap (w.heap.size+5) n₀ W0 hM n5 (HP.out.kept (fun b hb hlt=>p_.block b hlt) fun _ h _=>h) (by omega);have hI0: ∃v,GaI Mb T X St (.func (.func 40) #[.map (some mb)] #[]) w v (fun _=>False) 0 W0:=by
  refine⟨.slice none 0 0,⟨p_.os,p_.tape,p_.output,p_.size,fun k hk _=>p_.block k hk⟩,fun _ h=>h.elim,n1,n2,n3,n4,⟨[],O_ _ _ _ _,.nil⟩,(fun g hg=>by cases hg),V.out 0 w W0 H0.out fun j hj=>p_.block j (F.out j hj).2,by simp,by omega⟩
 have HBL:=D_ p_;clear hW0 n0 n1 n2 n3 n4 n5 p_ HG;refine dQ (gf:=76) (lb:= #[.pointer (some ⟨w.heap.size+5,0,none⟩)]) rfl (enters_of Tryz.func76 (by kernel_rfl) rfl) x_ (F_ _ _) (by omega) (fun _=>rfl)
  (fun M k W=> ∃v,GaI Mb T X St (.func (.func 40) #[.map (some mb)] #[]) w v M k W) (fun c M _ W=>c=.ret/\GaX Mb T w M W)
  (fun M M' k A B ⟨v,h⟩ ht hs _=>⟨v,h.turned (fun j hj=>(F.out j hj).2) V.out ht hs⟩) (fun c M M' k A B ⟨h1,h2⟩ ht hs _=>⟨h1,gaX_turned (fun j hj=>(F.out j hj).2) h2 ht hs⟩) hI0 ?round ?done ?stop
 case round=>
  rintro l M k ⟨x,xad,xcap⟩ W1 ⟨v,hI⟩ hk ⟨hx1,hx2⟩ hMl;obtain⟨vad,vcap,rfl⟩:=rz hI.own.choose_spec.1;dsimp only at hx1 hx2;have hM1: ∀j,M j->j<W1.heap.size:=fun j hj=>(hMl j hj).2;have hsz1:=hI.sz;have HI:=D_ hI;have y_:=D_ hx1;have HX2:=D_ hx2;have HM1:=D_ hM1;clear hI hx1 hx2 hMl hM1 x_ hI0;unfold goalv tmv;dsimp only;gi_wp2
  refine⟨T2.alloc HM1.out _,(F_ n₀ W1).alloc (by omega) _,fun W₂ ht hs2=>?_⟩;have hg7:W₂.heap[W1.heap.size]?=some (.cells #[.int .i64 x.kind,.string x.name,.int .i64 x.n,.slice xad x.args.length xcap] 26 (0,0)):=(ht.block _ (by simp) (fun hm=>by have:=HM1.out _ hm;omega)).trans (H2 W1 _);have hI2:GaI Mb T X St (.func (.func 40) #[.map (some mb)] #[]) w (.slice vad k vcap) M k W₂:=HI.out.turned (fun j hj=>(F.out j hj).2) V.out ((V0.alloc M W1 _).trans ht) (fun j hj=>.inl hj);have hs2':W₂.heap.size=W1.heap.size+1:=by rw [hs2];exact Z_ _ _
  have hx7:TmP W₂ (fun b=>b<n₀) x xad xcap:=HX2.out.kept (fun b hb _=>(hI2.turn.block b (by omega) (fun hm=>by have:=(F.out b hm).1;omega)).trans (HBL.out.block b (by omega)).symm) fun _ h _=>h;obtain⟨c0,c1,c2,c3,_⟩:=P1 hg7;have J:=D_ hI2;have HG7:=D_ hg7;have HX7:=D_ hx7;have u_:=D_ (fun W=>ZQ x.kind x.n x.name xad x.args.length xcap W);have m_:n₀<=w.heap.size:=hn;have hM2: ∀j,M j->j<W₂.heap.size:=fun j hj=>by have:=HM1.out j hj;omega
  have i_:=D_ hM2;clear ht hs2 hg7 hI2 hx7 hM2;cases hg:x.goal with
  |false=>
   rw [show V7 x.kind x.name.data.toList x.args.length=false from hg]at u_;have HNO:=D_ (goals_not y_.out hg);clear hg;gi_wp2_with ((refine⟨trivial,?_⟩;gi_at_call 57;refine(CallsIn.inRound l (callsIn_wide.2 (u_.out _))).mono ?_;rintro e W₄ ⟨rfl,hb4⟩;obtain⟨f1,f2⟩:=I4 (B0 hb4 J.out.r1);obtain⟨f3,f4⟩:=I4 (B0 hb4 J.out.r2)))
   obtain⟨r1,r2⟩:=gaX_of J.out i_.out hb4 HNO.out;exact⟨r1,rfl,r2⟩
  | true =>
   rw [show V7 x.kind x.name.data.toList x.args.length=true from hg]at u_;have k_:=D_ (goals_step J.out.goal y_.out hg);clear hg;gi_upto_region 6 with((refine⟨trivial,?_⟩;gi_at_call 57;refine(CallsIn.inRound l (callsIn_wide.2 (u_.out _))).mono ?_;rintro e W₃ ⟨rfl,v_⟩))
   obtain⟨xs,o1,o2⟩:=J.out.own;have hv1:=fun g (h:(Value.slice vad k vcap).ownBlock=some g)=>(HI.out.own.choose_spec.1.lt g h).2;have a_:Hid (xs.length=k*4):=D_ o1.1;have hs3:=v_.size;have hlo: ∀b,w.heap.size<=b-> ¬Mb b:=fun b hb hm=>by have:=(F.out b hm).2;omega
   have hsz2:=J.out.sz;have hkb:=T.body_length;have w_:k+1<=2000000:=by omega
   have HO:=D_ (And.intro o1 o2);have I:Hid (∀W,V0 Mb W₃.drew W->(W.cell? ⟨w.heap.size+1,0,none⟩=some (.func (.func 40) #[.map (some mb)] #[])/\W.cell? ⟨W1.heap.size,0,none⟩=some (.int .i64 x.kind)/\W.cell? ⟨W1.heap.size,1,none⟩=some (.string x.name)/\W.cell? ⟨W1.heap.size,2,none⟩=some (.int .i64 x.n)/\W.cell? ⟨W1.heap.size,3,none⟩=some (.slice xad x.args.length xcap))/\W.cell? ⟨w.heap.size+1+1+1+1,0,none⟩=some (.slice vad k vcap)/\(∀b,w.heap.size<=b->b<W₂.heap.size->W.heap[b]?=W₂.heap[b]?)/\W.ownsRow (w.heap.size+6) 26 4 (.slice vad k vcap) k xs):=D_ (fun W t=>by
    have kb: ∀b,w.heap.size<=b->b<W₂.heap.size->W.heap[b]?=W₂.heap[b]?:=fun b h1 h2=>(t.block b (by show b<W₃.heap.size;omega) (hlo b h1)).trans (v_.block b h2);obtain⟨c0,c1,c2,c3,_⟩:=P1 ((kb _ (by omega) (by omega)).trans HG7.out);exact⟨⟨(I4 ((kb _ (by omega) (by omega)).trans J.out.bec)).1,c0,c1,c2,c3⟩,(I4 ((kb (w.heap.size+4) (by omega) (by omega)).trans J.out.lst)).1,kb,F3 o1 fun g hg hl=>kb g (by have:=(o1.lt g hg).1;omega) hl⟩)
   have t_:Hid (∀Wa W9 g9,V0 Mb W₃.drew Wa->Wa.grownBy W9 (Value.slice vad k vcap).ownBlock->((Value.slice vad k vcap).ownBlock=some g9\/g9=Wa.heap.size)->(∀W':World,(∀b,b≠g9->b≠w.heap.size+4->W'.heap[b]?=W9.heap[b]?)->(W'.cell? ⟨w.heap.size+1,0,none⟩=some (.func (.func 40) #[.map (some mb)] #[])/\W'.cell? ⟨W1.heap.size,0,none⟩=some (.int .i64 x.kind)/\W'.cell? ⟨W1.heap.size,1,none⟩=some (.string x.name)/\W'.cell? ⟨W1.heap.size,2,none⟩=some (.int .i64 x.n)/\W'.cell? ⟨W1.heap.size,3,none⟩=some (.slice xad x.args.length xcap)))/\W9.heap[w.heap.size+4]?=some (.cells #[(.slice vad k vcap)] 24 (0,0))):=D_ (fun Wa W9 g9 t hg H=>by
    have kb:=(I.out Wa t).2.2.1;have hv: ∀b,b<w.heap.size+6\/b=W1.heap.size->some b≠(Value.slice vad k vcap).ownBlock:=fun b hb e=>by have h1:=(o1.lt b e.symm).1;have h2:=hv1 b e.symm;omega
    have ha:W₃.heap.size<=Wa.heap.size:=t.size;have k0: ∀b,w.heap.size<=b->b<W₂.heap.size->some b≠(Value.slice vad k vcap).ownBlock->W9.heap[b]?=W₂.heap[b]?:=fun b h1 h2 h4=>(hg.block b (by omega) h4).trans (kb b h1 h2);have hn9: ∀b,b<W₂.heap.size->some b≠(Value.slice vad k vcap).ownBlock->b≠g9:=fun b h1 h2 e=>by
     rcases H with h|h
     · exact h2 (by rw [h,e])
     · omega
    refine⟨fun W' h=>?_,(k0 _ (by omega) (by omega) (hv _ (.inl (by omega)))).trans J.out.lst⟩;have k9: ∀b,w.heap.size<=b->b<W₂.heap.size->b≠w.heap.size+4->some b≠(Value.slice vad k vcap).ownBlock->W'.heap[b]?=W₂.heap[b]?:=fun b h1 h2 h3 h4=>(h b (hn9 b h2 h4) h3).trans (k0 b h1 h2 h4);obtain⟨c0,c1,c2,c3,_⟩:=P1 ((k9 _ (by omega) (by omega) (by omega) (hv _ (.inr rfl))).trans HG7.out);exact⟨(I4 ((k9 _ (by omega) (by omega) (by omega) (hv _ (.inl (by omega)))).trans J.out.bec)).1,c0,c1,c2,c3⟩)
   have z_:=D_ (fun W (t:V0 Mb W₃.drew W) (hm: ∀j,Mb j->W.heap[j]?=W₃.heap[j]?)=>HX.out k x xad xcap W y_.out (HX7.out.kept (w':=W) (Q:=fun b=>b<n₀) (fun b hb _=>(t.block b (by show b<W₃.heap.size;omega) (fun hm=>by have:=(F.out b hm).1;omega)).trans (v_.block b (by omega))) fun _ h _=>h) (V.out k W₂ W J.out.st (fun j hj=>(hm j hj).trans (v_.block j (by have:=(F.out j hj).2;omega)))));have HD:Hid (∀W,V0 Mb W₃.drew W->V0 Mb W₃ W):=D_ (fun W t=>⟨t.os,t.tape,t.output,t.size,t.block⟩);have j_:=D_ v_;have t0:V0 Mb W₃.drew W₃.drew:=V0.refl _ _;have tz:V0 Mb W₃.drew (W₃.alloc (.cells #[.int .i64 0,.string ⟨#[]⟩,.int .i64 0,.slice none 0 0] 26)).drew:=⟨rfl,rfl,rfl,by show W₃.heap.size<=(W₃.alloc _).heap.size;rw [Z_];omega,fun b hb _=>A_ W₃ _ _ hb⟩;have b0: ∀j,Mb j->W₃.drew.heap[j]?=W₃.heap[j]?:=fun _ _=>rfl;have bz: ∀j,Mb j->(W₃.alloc (.cells #[.int .i64 0,.string ⟨#[]⟩,.int .i64 0,.slice none 0 0] 26)).drew.heap[j]?=W₃.heap[j]?:=fun j hj=>A_ W₃ _ _ (by have:=(F.out j hj).2;omega);have q0:=(I.out _ t0).2.1;have qz:=(I.out _ tz).2.1;have hk11:(k:Int)<(k:Int)+1:=by omega
   clear c0 c1 c2 c3 o1 o2 v_;refine Ez (S:=fun W=>W.cell? ⟨w.heap.size+1,0,none⟩=some (.func (.func 40) #[.map (some mb)] #[])/\W.cell? ⟨W1.heap.size,0,none⟩=some (.int .i64 x.kind)/\W.cell? ⟨W1.heap.size,1,none⟩=some (.string x.name)/\W.cell? ⟨W1.heap.size,2,none⟩=some (.int .i64 x.n)/\W.cell? ⟨W1.heap.size,3,none⟩=some (.slice xad x.args.length xcap)) (by kernel_rfl) (by rintro⟨a,w,h⟩;exact h) (by kernel_rfl) (I.out _ t0).1 (fun m=>?_);refine tK 1 (v:=?v1) rfl (.inl ⟨by rfl,?y1⟩) ?r1
   case y1=>(intro w G;(try dsimp only at G);go_simp;try with_reducible rfl)
   (try simp only [Act.put,T_,C_,E_])
   refine tK 2 (v:=?v2) rfl (.inl ⟨by rfl,?y2⟩) ?r2
   case y2=>(intro w G;(try dsimp only at G);go_simp;try with_reducible rfl)
   (try simp only [Act.put,T_,C_,E_])
   refine wpAnyH_ready (rs:= [0,3,5]) (by kernel_rfl) (by simp) ?_;refine AllReadyH.cons (o:=_) rfl (fun K i=>?_) (AllReadyH.cons (o:=_) rfl (fun K i=>?_) (AllReadyH.cons (o:=_) rfl (fun K i=>?_) (AllReadyH.nil)))
   · skip
     go_simp
     refine i.out _ _ (I.out _ t0).1 (fun m=>?_);clear i K;(try simp only [Act.put,T_,C_,E_])
     refine tK 4 (v:=?v3) rfl (.inl ⟨by rfl,?y3⟩) ?r3
     case y3=>(intro w G;(try dsimp only at G);go_simp;try with_reducible rfl)
     (try simp only [Act.put,T_,C_,E_])
     refine wpAnyH_ready (rs:= [3,5]) (by kernel_rfl) (by simp) ?_;refine AllReadyH.cons (o:=_) rfl (fun K i=>?_) (AllReadyH.cons (o:=_) rfl (fun K i=>?_) (AllReadyH.nil))
     · skip
       go_simp
       (with_reducible refine(z_.out _ t0 b0).mono ?_);rintro e Wc ⟨ad5,cap5,rfl,h_,Z,Y⟩
       unfold tmv;have tc:V0 Mb W₃.drew Wc:=t0.trans Z;have qc:=(I.out _ tc).2.1;have tcz:V0 Mb W₃.drew (Wc.alloc (.cells #[.int .i64 0,.string ⟨#[]⟩,.int .i64 0,.slice none 0 0] 26)):=tc.trans (V0.alloc Mb _ _);have qcz:=(I.out _ tcz).2.1;have q_:=D_ Z;have l_:=D_ h_;have o_:=D_ Y;clear Z h_ Y;try go_wp2_with fail
       refine i.out _ _ (I.out _ tc).1 (fun m=>?_);clear i K;(try simp only [Act.put,T_,C_,E_])
       refine rY 5 rfl fun K i=>?_
       · skip
         go_simp
         refine i.out _ _ (I.out _ tcz).1 (fun m=>?_);clear i K;(try simp only [Act.put,T_,C_,E_])
         refine rY 6 rfl fun K i=>?_;have hz: ∀j u,Wq[j]?=some u->(Wc.alloc (.cells #[.int .i64 0,.string ⟨#[]⟩,.int .i64 0,.slice none 0 0] 26)).cell? ((⟨Wc.heap.size,0,none⟩:Addr).add j)=some u:=Pq Wc;have g_:TmP (Wc.alloc (.cells #[.int .i64 0,.string ⟨#[]⟩,.int .i64 0,.slice none 0 0] 26)) (fun b=>W₃.heap.size<=b) (X k) ad5 cap5:=l_.out.kept (fun b _ hl=>A_ _ _ _ hl) fun b hb _=>hb;have f_:St (k+1) (Wc.alloc (.cells #[.int .i64 0,.string ⟨#[]⟩,.int .i64 0,.slice none 0 0] 26)):=V.out (k+1) Wc _ o_.out fun j hj=>A_ _ _ _ (by have:=(F.out j hj).2;have:=tc.size;have:W₃.drew.heap.size=W₃.heap.size:=rfl;omega);have C:w.heap.size+6<=(Wc.alloc (.cells #[.int .i64 0,.string ⟨#[]⟩,.int .i64 0,.slice none 0 0] 26)).heap.size:=by have:=tcz.size;have:W₃.drew.heap.size=W₃.heap.size:=rfl;omega
         have N:=D_ tcz;have e_:=D_ g_;have d_:=D_ f_;clear g_ f_;refine O3 (by rfl) (.tmp 14) (.tmp 19) (by rfl) (by rfl) (I.out _ tcz).2.2.2 (by rfl) (by rfl) hz n8 (by decide) w_ C ?_;intro g9 cap9 W9 s r H s_;have p:=D_ (t_.out (Wc.alloc (.cells #[.int .i64 0,.string ⟨#[]⟩,.int .i64 0,.slice none 0 0] 26)) W9 g9 N.out r H);have r_:=(s.lt g9 rfl).1;have q:w.heap.size+4≠g9:=by omega
         have z:Hid (∀W':World,W'.heap[g9]?=W9.heap[g9]?->(∃u,W'.cell? ⟨g9,k*4,none⟩=some u)/\(∃u,W'.cell? ⟨g9,k*4+1,none⟩=some u)/\(∃u,W'.cell? ⟨g9,k*4+2,none⟩=some u)/\(∃u,W'.cell? ⟨g9,k*4+3,none⟩=some u)/\W'.frozen? ⟨g9,k*4,none⟩=false/\W'.frozen? ⟨g9,k*4+1,none⟩=false/\W'.frozen? ⟨g9,k*4+2,none⟩=false/\W'.frozen? ⟨g9,k*4+3,none⟩=false/\W'.ownsRow (w.heap.size+6) 26 4 (.slice (some ⟨g9,0,none⟩) (k+1) cap9) (k+1) (xs++([.int .i64 0,.string ⟨#[]⟩,.int .i64 0,.slice none 0 0]++ []))):=D_ (fun (W':World) h=>by
          have E:W'.ownsRow (w.heap.size+6) 26 4 (.slice (some ⟨g9,0,none⟩) (k+1) cap9) (k+1) (xs++([.int .i64 0,.string ⟨#[]⟩,.int .i64 0,.slice none 0 0]++ [])):=by rw [List.append_nil];exact I1 s h
          obtain⟨z0,z1,z2,z3⟩:=m6 E a_.out;exact⟨⟨_,z0⟩,⟨_,z1⟩,⟨_,z2⟩,⟨_,z3⟩,E.frozenAt _,E.frozenAt _,E.frozenAt _,E.frozenAt _,E⟩)
         have c_:=D_ r;have b_:=D_ H;clear s r H hz C;refine i.out _ _ (p.out.1 W9 (fun _ _ _=>rfl)) (fun m=>?_);clear i K;(try simp only [Act.put,T_,C_,E_])
         refine tK 7 (v:=?v4) rfl (.inl ⟨by rfl,?y4⟩) ?r4
         case y4=>(intro w G;(try dsimp only at G);go_simp;try with_reducible rfl)
         (try simp only [Act.put,T_,C_,E_])
         refine wpAnyH_ready (rs:= [8,9]) (by kernel_rfl) (by simp) ?_;refine AllReadyH.cons (o:=_) rfl (fun K i=>?_) (AllReadyH.cons (o:=_) rfl (fun K i=>?_) (AllReadyH.nil))
         · have O:=D_ (HD.out _ N.out);obtain⟨⟨u0,p0⟩,⟨u1,p1⟩,⟨u2,p2⟩,⟨u3,p3⟩,f0,f1,f2,f3,y⟩:=z.out W9 rfl;have n_:=D_ y;clear y;go_simp
           clear p0 p1 p2 p3 f0 f1 f2 f3;refine i.out _ _ (p.out.1 ((((W9.setCell ⟨g9,k*4,none⟩ (.int .i64 (X k).kind)).setCell ⟨g9,k*4+1,none⟩ (.string (X k).name)).setCell ⟨g9,k*4+2,none⟩ (.int .i64 (X k).n)).setCell ⟨g9,k*4+3,none⟩ (.slice ad5 (X k).args.length cap5)) (fun b d R=>(S_ _ _ _ _ (show b≠g9 from d)).trans ((S_ _ _ _ _ (show b≠g9 from d)).trans ((S_ _ _ _ _ (show b≠g9 from d)).trans (S_ _ _ _ _ (show b≠g9 from d)))))) (fun m=>?_);clear i K;(try simp only [Act.put,T_,C_,E_])
           refine rY 9 rfl fun K i=>?_;have U:((((W9.setCell ⟨g9,k*4,none⟩ (.int .i64 (X k).kind)).setCell ⟨g9,k*4+1,none⟩ (.string (X k).name)).setCell ⟨g9,k*4+2,none⟩ (.int .i64 (X k).n)).setCell ⟨g9,k*4+3,none⟩ (.slice ad5 (X k).args.length cap5)).heap[w.heap.size+4]?=some (.cells #[(.slice vad k vcap)] 24 (0,0)):=((S_ _ _ _ _ (show w.heap.size+4≠g9 from q)).trans ((S_ _ _ _ _ (show w.heap.size+4≠g9 from q)).trans ((S_ _ _ _ _ (show w.heap.size+4≠g9 from q)).trans (S_ _ _ _ _ (show w.heap.size+4≠g9 from q))))).trans p.out.2;obtain⟨s0,s1⟩:=I4 U;go_simp
           clear s0 s1;refine i.out _ _ (p.out.1 (((((W9.setCell ⟨g9,k*4,none⟩ (.int .i64 (X k).kind)).setCell ⟨g9,k*4+1,none⟩ (.string (X k).name)).setCell ⟨g9,k*4+2,none⟩ (.int .i64 (X k).n)).setCell ⟨g9,k*4+3,none⟩ (.slice ad5 (X k).args.length cap5)).setCell ⟨w.heap.size+1+1+1+1,0,none⟩ (.slice (some ⟨g9,0,none⟩) (k+1) cap9)) (fun b d R=>(S_ _ _ _ _ (show b≠w.heap.size+1+1+1+1 by omega)).trans ((S_ _ _ _ _ (show b≠g9 from d)).trans ((S_ _ _ _ _ (show b≠g9 from d)).trans ((S_ _ _ _ _ (show b≠g9 from d)).trans (S_ _ _ _ _ (show b≠g9 from d))))))) (fun m=>?_);clear i K;(try simp only [Act.put,T_,C_,E_])
           refine wpAnyH_done (by kernel_rfl) ?_ _;exact GaI.next89 F.out m_ V.out J.out i_.out j_.out O.out d_.out e_.out HO.out.1 HO.out.2 c_.out b_.out k_.out (z.out W9 rfl).2.2.2.2.2.2.2.2 p.out.2 a_.out
         · have O:=D_ (HD.out _ N.out);have U:=p.out.2;obtain⟨s0,s1⟩:=I4 U;go_simp
           clear s0 s1;refine i.out _ _ (p.out.1 (W9.setCell ⟨w.heap.size+1+1+1+1,0,none⟩ (.slice (some ⟨g9,0,none⟩) (k+1) cap9)) (fun b d R=>S_ _ _ _ _ (show b≠w.heap.size+1+1+1+1 by omega))) (fun m=>?_);clear i K;(try simp only [Act.put,T_,C_,E_])
           refine rY 8 rfl fun K i=>?_;obtain⟨⟨u0,p0⟩,⟨u1,p1⟩,⟨u2,p2⟩,⟨u3,p3⟩,f0,f1,f2,f3,y⟩:=z.out (W9.setCell ⟨w.heap.size+1+1+1+1,0,none⟩ (.slice (some ⟨g9,0,none⟩) (k+1) cap9)) (S_ _ _ _ _ (show g9≠w.heap.size+1+1+1+1 by omega));have n_:=D_ y;clear y;go_simp
           clear p0 p1 p2 p3 f0 f1 f2 f3;refine i.out _ _ (p.out.1 (((((W9.setCell ⟨w.heap.size+1+1+1+1,0,none⟩ (.slice (some ⟨g9,0,none⟩) (k+1) cap9)).setCell ⟨g9,k*4,none⟩ (.int .i64 (X k).kind)).setCell ⟨g9,k*4+1,none⟩ (.string (X k).name)).setCell ⟨g9,k*4+2,none⟩ (.int .i64 (X k).n)).setCell ⟨g9,k*4+3,none⟩ (.slice ad5 (X k).args.length cap5)) (fun b d R=>(S_ _ _ _ _ (show b≠g9 from d)).trans ((S_ _ _ _ _ (show b≠g9 from d)).trans ((S_ _ _ _ _ (show b≠g9 from d)).trans ((S_ _ _ _ _ (show b≠g9 from d)).trans (S_ _ _ _ _ (show b≠w.heap.size+1+1+1+1 by omega))))))) (fun m=>?_);clear i K;(try simp only [Act.put,T_,C_,E_])
           refine wpAnyH_done (by kernel_rfl) ?_ _;exact GaI.next98 F.out m_ V.out J.out i_.out j_.out O.out d_.out e_.out HO.out.1 HO.out.2 c_.out b_.out k_.out (z.out W9 rfl).2.2.2.2.2.2.2.2 p.out.2 a_.out
     · skip
       go_simp
       refine i.out _ _ (I.out _ tz).1 (fun m=>?_);clear i K;(try simp only [Act.put,T_,C_,E_])
       refine rY 3 rfl fun K i=>?_
       · skip
         go_simp
         (with_reducible refine(z_.out _ tz bz).mono ?_);rintro e Wc ⟨ad5,cap5,rfl,h_,Z,Y⟩
         unfold tmv;have tc:V0 Mb W₃.drew Wc:=tz.trans Z;have qc:=(I.out _ tc).2.1;have tcz:V0 Mb W₃.drew (Wc.alloc (.cells #[.int .i64 0,.string ⟨#[]⟩,.int .i64 0,.slice none 0 0] 26)):=tc.trans (V0.alloc Mb _ _);have qcz:=(I.out _ tcz).2.1;have q_:=D_ Z;have l_:=D_ h_;have o_:=D_ Y;clear Z h_ Y;try go_wp2_with fail
         refine i.out _ _ (I.out _ tc).1 (fun m=>?_);clear i K;(try simp only [Act.put,T_,C_,E_])
         refine rY 6 rfl fun K i=>?_;have hz: ∀j u,Wq[j]?=some u->Wc.cell? ((⟨W₃.heap.size,0,none⟩:Addr).add j)=some u:=yx W₃ q_.out (hlo _ (by omega));have g_:TmP Wc (fun b=>W₃.heap.size<=b) (X k) ad5 cap5:=l_.out.kept (fun _ _ _=>rfl) fun b hb _=>Nat.le_trans (show W₃.heap.size<=(W₃.alloc (.cells #[.int .i64 0,.string ⟨#[]⟩,.int .i64 0,.slice none 0 0] 26)).heap.size by rw [Z_];omega) hb;have f_:St (k+1) Wc:=o_.out;have C:w.heap.size+6<=Wc.heap.size:=by have:=tc.size;have:W₃.drew.heap.size=W₃.heap.size:=rfl;omega
         have N:=D_ tc;have e_:=D_ g_;have d_:=D_ f_;clear g_ f_;refine O3 (by rfl) (.tmp 14) (.tmp 19) (by rfl) (by rfl) (I.out _ tc).2.2.2 (by rfl) (by rfl) hz n8 (by decide) w_ C ?_;intro g9 cap9 W9 s r H s_;have p:=D_ (t_.out Wc W9 g9 N.out r H);have r_:=(s.lt g9 rfl).1;have q:w.heap.size+4≠g9:=by omega
         have z:Hid (∀W':World,W'.heap[g9]?=W9.heap[g9]?->(∃u,W'.cell? ⟨g9,k*4,none⟩=some u)/\(∃u,W'.cell? ⟨g9,k*4+1,none⟩=some u)/\(∃u,W'.cell? ⟨g9,k*4+2,none⟩=some u)/\(∃u,W'.cell? ⟨g9,k*4+3,none⟩=some u)/\W'.frozen? ⟨g9,k*4,none⟩=false/\W'.frozen? ⟨g9,k*4+1,none⟩=false/\W'.frozen? ⟨g9,k*4+2,none⟩=false/\W'.frozen? ⟨g9,k*4+3,none⟩=false/\W'.ownsRow (w.heap.size+6) 26 4 (.slice (some ⟨g9,0,none⟩) (k+1) cap9) (k+1) (xs++([.int .i64 0,.string ⟨#[]⟩,.int .i64 0,.slice none 0 0]++ []))):=D_ (fun (W':World) h=>by
          have E:W'.ownsRow (w.heap.size+6) 26 4 (.slice (some ⟨g9,0,none⟩) (k+1) cap9) (k+1) (xs++([.int .i64 0,.string ⟨#[]⟩,.int .i64 0,.slice none 0 0]++ [])):=by rw [List.append_nil];exact I1 s h
          obtain⟨z0,z1,z2,z3⟩:=m6 E a_.out;exact⟨⟨_,z0⟩,⟨_,z1⟩,⟨_,z2⟩,⟨_,z3⟩,E.frozenAt _,E.frozenAt _,E.frozenAt _,E.frozenAt _,E⟩)
         have c_:=D_ r;have b_:=D_ H;clear s r H hz C;refine i.out _ _ (p.out.1 W9 (fun _ _ _=>rfl)) (fun m=>?_);clear i K;(try simp only [Act.put,T_,C_,E_])
         refine tK 7 (v:=?v5) rfl (.inl ⟨by rfl,?y5⟩) ?r5
         case y5=>(intro w G;(try dsimp only at G);go_simp;try with_reducible rfl)
         (try simp only [Act.put,T_,C_,E_])
         refine wpAnyH_ready (rs:= [8,9]) (by kernel_rfl) (by simp) ?_;refine AllReadyH.cons (o:=_) rfl (fun K i=>?_) (AllReadyH.cons (o:=_) rfl (fun K i=>?_) (AllReadyH.nil))
         · have O:=D_ (HD.out _ N.out);obtain⟨⟨u0,p0⟩,⟨u1,p1⟩,⟨u2,p2⟩,⟨u3,p3⟩,f0,f1,f2,f3,y⟩:=z.out W9 rfl;have n_:=D_ y;clear y;go_simp
           clear p0 p1 p2 p3 f0 f1 f2 f3;refine i.out _ _ (p.out.1 ((((W9.setCell ⟨g9,k*4,none⟩ (.int .i64 (X k).kind)).setCell ⟨g9,k*4+1,none⟩ (.string (X k).name)).setCell ⟨g9,k*4+2,none⟩ (.int .i64 (X k).n)).setCell ⟨g9,k*4+3,none⟩ (.slice ad5 (X k).args.length cap5)) (fun b d R=>(S_ _ _ _ _ (show b≠g9 from d)).trans ((S_ _ _ _ _ (show b≠g9 from d)).trans ((S_ _ _ _ _ (show b≠g9 from d)).trans (S_ _ _ _ _ (show b≠g9 from d)))))) (fun m=>?_);clear i K;(try simp only [Act.put,T_,C_,E_])
           refine rY 9 rfl fun K i=>?_;have U:((((W9.setCell ⟨g9,k*4,none⟩ (.int .i64 (X k).kind)).setCell ⟨g9,k*4+1,none⟩ (.string (X k).name)).setCell ⟨g9,k*4+2,none⟩ (.int .i64 (X k).n)).setCell ⟨g9,k*4+3,none⟩ (.slice ad5 (X k).args.length cap5)).heap[w.heap.size+4]?=some (.cells #[(.slice vad k vcap)] 24 (0,0)):=((S_ _ _ _ _ (show w.heap.size+4≠g9 from q)).trans ((S_ _ _ _ _ (show w.heap.size+4≠g9 from q)).trans ((S_ _ _ _ _ (show w.heap.size+4≠g9 from q)).trans (S_ _ _ _ _ (show w.heap.size+4≠g9 from q))))).trans p.out.2;obtain⟨s0,s1⟩:=I4 U;go_simp
           clear s0 s1;refine i.out _ _ (p.out.1 (((((W9.setCell ⟨g9,k*4,none⟩ (.int .i64 (X k).kind)).setCell ⟨g9,k*4+1,none⟩ (.string (X k).name)).setCell ⟨g9,k*4+2,none⟩ (.int .i64 (X k).n)).setCell ⟨g9,k*4+3,none⟩ (.slice ad5 (X k).args.length cap5)).setCell ⟨w.heap.size+1+1+1+1,0,none⟩ (.slice (some ⟨g9,0,none⟩) (k+1) cap9)) (fun b d R=>(S_ _ _ _ _ (show b≠w.heap.size+1+1+1+1 by omega)).trans ((S_ _ _ _ _ (show b≠g9 from d)).trans ((S_ _ _ _ _ (show b≠g9 from d)).trans ((S_ _ _ _ _ (show b≠g9 from d)).trans (S_ _ _ _ _ (show b≠g9 from d))))))) (fun m=>?_);clear i K;(try simp only [Act.put,T_,C_,E_])
           refine wpAnyH_done (by kernel_rfl) ?_ _;exact GaI.next89 F.out m_ V.out J.out i_.out j_.out O.out d_.out e_.out HO.out.1 HO.out.2 c_.out b_.out k_.out (z.out W9 rfl).2.2.2.2.2.2.2.2 p.out.2 a_.out
         · have O:=D_ (HD.out _ N.out);have U:=p.out.2;obtain⟨s0,s1⟩:=I4 U;go_simp
           clear s0 s1;refine i.out _ _ (p.out.1 (W9.setCell ⟨w.heap.size+1+1+1+1,0,none⟩ (.slice (some ⟨g9,0,none⟩) (k+1) cap9)) (fun b d R=>S_ _ _ _ _ (show b≠w.heap.size+1+1+1+1 by omega))) (fun m=>?_);clear i K;(try simp only [Act.put,T_,C_,E_])
           refine rY 8 rfl fun K i=>?_;obtain⟨⟨u0,p0⟩,⟨u1,p1⟩,⟨u2,p2⟩,⟨u3,p3⟩,f0,f1,f2,f3,y⟩:=z.out (W9.setCell ⟨w.heap.size+1+1+1+1,0,none⟩ (.slice (some ⟨g9,0,none⟩) (k+1) cap9)) (S_ _ _ _ _ (show g9≠w.heap.size+1+1+1+1 by omega));have n_:=D_ y;clear y;go_simp
           clear p0 p1 p2 p3 f0 f1 f2 f3;refine i.out _ _ (p.out.1 (((((W9.setCell ⟨w.heap.size+1+1+1+1,0,none⟩ (.slice (some ⟨g9,0,none⟩) (k+1) cap9)).setCell ⟨g9,k*4,none⟩ (.int .i64 (X k).kind)).setCell ⟨g9,k*4+1,none⟩ (.string (X k).name)).setCell ⟨g9,k*4+2,none⟩ (.int .i64 (X k).n)).setCell ⟨g9,k*4+3,none⟩ (.slice ad5 (X k).args.length cap5)) (fun b d R=>(S_ _ _ _ _ (show b≠g9 from d)).trans ((S_ _ _ _ _ (show b≠g9 from d)).trans ((S_ _ _ _ _ (show b≠g9 from d)).trans ((S_ _ _ _ _ (show b≠g9 from d)).trans (S_ _ _ _ _ (show b≠w.heap.size+1+1+1+1 by omega))))))) (fun m=>?_);clear i K;(try simp only [Act.put,T_,C_,E_])
           refine wpAnyH_done (by kernel_rfl) ?_ _;exact GaI.next98 F.out m_ V.out J.out i_.out j_.out O.out d_.out e_.out HO.out.1 HO.out.2 c_.out b_.out k_.out (z.out W9 rfl).2.2.2.2.2.2.2.2 p.out.2 a_.out
   · skip
     go_simp
     (with_reducible refine(z_.out _ t0 b0).mono ?_);rintro e Wc ⟨ad5,cap5,rfl,h_,Z,Y⟩
     unfold tmv;have tc:V0 Mb W₃.drew Wc:=t0.trans Z;have qc:=(I.out _ tc).2.1;have tcz:V0 Mb W₃.drew (Wc.alloc (.cells #[.int .i64 0,.string ⟨#[]⟩,.int .i64 0,.slice none 0 0] 26)):=tc.trans (V0.alloc Mb _ _);have qcz:=(I.out _ tcz).2.1;have q_:=D_ Z;have l_:=D_ h_;have o_:=D_ Y;clear Z h_ Y;try go_wp2_with fail
     refine i.out _ _ (I.out _ tc).1 (fun m=>?_);clear i K;(try simp only [Act.put,T_,C_,E_])
     refine wpAnyH_ready (rs:= [0,5]) (by kernel_rfl) (by simp) ?_;refine AllReadyH.cons (o:=_) rfl (fun K i=>?_) (AllReadyH.cons (o:=_) rfl (fun K i=>?_) (AllReadyH.nil))
     · skip
       go_simp
       refine i.out _ _ (I.out _ tc).1 (fun m=>?_);clear i K;(try simp only [Act.put,T_,C_,E_])
       refine tK 4 (v:=?v6) rfl (.inl ⟨by rfl,?y6⟩) ?r6
       case y6=>(intro w G;(try dsimp only at G);go_simp;try with_reducible rfl)
       (try simp only [Act.put,T_,C_,E_])
       refine rY 5 rfl fun K i=>?_
       · skip
         go_simp
         refine i.out _ _ (I.out _ tcz).1 (fun m=>?_);clear i K;(try simp only [Act.put,T_,C_,E_])
         refine rY 6 rfl fun K i=>?_;have hz: ∀j u,Wq[j]?=some u->(Wc.alloc (.cells #[.int .i64 0,.string ⟨#[]⟩,.int .i64 0,.slice none 0 0] 26)).cell? ((⟨Wc.heap.size,0,none⟩:Addr).add j)=some u:=Pq Wc;have g_:TmP (Wc.alloc (.cells #[.int .i64 0,.string ⟨#[]⟩,.int .i64 0,.slice none 0 0] 26)) (fun b=>W₃.heap.size<=b) (X k) ad5 cap5:=l_.out.kept (fun b _ hl=>A_ _ _ _ hl) fun b hb _=>hb;have f_:St (k+1) (Wc.alloc (.cells #[.int .i64 0,.string ⟨#[]⟩,.int .i64 0,.slice none 0 0] 26)):=V.out (k+1) Wc _ o_.out fun j hj=>A_ _ _ _ (by have:=(F.out j hj).2;have:=tc.size;have:W₃.drew.heap.size=W₃.heap.size:=rfl;omega);have C:w.heap.size+6<=(Wc.alloc (.cells #[.int .i64 0,.string ⟨#[]⟩,.int .i64 0,.slice none 0 0] 26)).heap.size:=by have:=tcz.size;have:W₃.drew.heap.size=W₃.heap.size:=rfl;omega
         have N:=D_ tcz;have e_:=D_ g_;have d_:=D_ f_;clear g_ f_;refine O3 (by rfl) (.tmp 14) (.tmp 19) (by rfl) (by rfl) (I.out _ tcz).2.2.2 (by rfl) (by rfl) hz n8 (by decide) w_ C ?_;intro g9 cap9 W9 s r H s_;have p:=D_ (t_.out (Wc.alloc (.cells #[.int .i64 0,.string ⟨#[]⟩,.int .i64 0,.slice none 0 0] 26)) W9 g9 N.out r H);have r_:=(s.lt g9 rfl).1;have q:w.heap.size+4≠g9:=by omega
         have z:Hid (∀W':World,W'.heap[g9]?=W9.heap[g9]?->(∃u,W'.cell? ⟨g9,k*4,none⟩=some u)/\(∃u,W'.cell? ⟨g9,k*4+1,none⟩=some u)/\(∃u,W'.cell? ⟨g9,k*4+2,none⟩=some u)/\(∃u,W'.cell? ⟨g9,k*4+3,none⟩=some u)/\W'.frozen? ⟨g9,k*4,none⟩=false/\W'.frozen? ⟨g9,k*4+1,none⟩=false/\W'.frozen? ⟨g9,k*4+2,none⟩=false/\W'.frozen? ⟨g9,k*4+3,none⟩=false/\W'.ownsRow (w.heap.size+6) 26 4 (.slice (some ⟨g9,0,none⟩) (k+1) cap9) (k+1) (xs++([.int .i64 0,.string ⟨#[]⟩,.int .i64 0,.slice none 0 0]++ []))):=D_ (fun (W':World) h=>by
          have E:W'.ownsRow (w.heap.size+6) 26 4 (.slice (some ⟨g9,0,none⟩) (k+1) cap9) (k+1) (xs++([.int .i64 0,.string ⟨#[]⟩,.int .i64 0,.slice none 0 0]++ [])):=by rw [List.append_nil];exact I1 s h
          obtain⟨z0,z1,z2,z3⟩:=m6 E a_.out;exact⟨⟨_,z0⟩,⟨_,z1⟩,⟨_,z2⟩,⟨_,z3⟩,E.frozenAt _,E.frozenAt _,E.frozenAt _,E.frozenAt _,E⟩)
         have c_:=D_ r;have b_:=D_ H;clear s r H hz C;refine i.out _ _ (p.out.1 W9 (fun _ _ _=>rfl)) (fun m=>?_);clear i K;(try simp only [Act.put,T_,C_,E_])
         refine tK 7 (v:=?v7) rfl (.inl ⟨by rfl,?y7⟩) ?r7
         case y7=>(intro w G;(try dsimp only at G);go_simp;try with_reducible rfl)
         (try simp only [Act.put,T_,C_,E_])
         refine wpAnyH_ready (rs:= [8,9]) (by kernel_rfl) (by simp) ?_;refine AllReadyH.cons (o:=_) rfl (fun K i=>?_) (AllReadyH.cons (o:=_) rfl (fun K i=>?_) (AllReadyH.nil))
         · have O:=D_ (HD.out _ N.out);obtain⟨⟨u0,p0⟩,⟨u1,p1⟩,⟨u2,p2⟩,⟨u3,p3⟩,f0,f1,f2,f3,y⟩:=z.out W9 rfl;have n_:=D_ y;clear y;go_simp
           clear p0 p1 p2 p3 f0 f1 f2 f3;refine i.out _ _ (p.out.1 ((((W9.setCell ⟨g9,k*4,none⟩ (.int .i64 (X k).kind)).setCell ⟨g9,k*4+1,none⟩ (.string (X k).name)).setCell ⟨g9,k*4+2,none⟩ (.int .i64 (X k).n)).setCell ⟨g9,k*4+3,none⟩ (.slice ad5 (X k).args.length cap5)) (fun b d R=>(S_ _ _ _ _ (show b≠g9 from d)).trans ((S_ _ _ _ _ (show b≠g9 from d)).trans ((S_ _ _ _ _ (show b≠g9 from d)).trans (S_ _ _ _ _ (show b≠g9 from d)))))) (fun m=>?_);clear i K;(try simp only [Act.put,T_,C_,E_])
           refine rY 9 rfl fun K i=>?_;have U:((((W9.setCell ⟨g9,k*4,none⟩ (.int .i64 (X k).kind)).setCell ⟨g9,k*4+1,none⟩ (.string (X k).name)).setCell ⟨g9,k*4+2,none⟩ (.int .i64 (X k).n)).setCell ⟨g9,k*4+3,none⟩ (.slice ad5 (X k).args.length cap5)).heap[w.heap.size+4]?=some (.cells #[(.slice vad k vcap)] 24 (0,0)):=((S_ _ _ _ _ (show w.heap.size+4≠g9 from q)).trans ((S_ _ _ _ _ (show w.heap.size+4≠g9 from q)).trans ((S_ _ _ _ _ (show w.heap.size+4≠g9 from q)).trans (S_ _ _ _ _ (show w.heap.size+4≠g9 from q))))).trans p.out.2;obtain⟨s0,s1⟩:=I4 U;go_simp
           clear s0 s1;refine i.out _ _ (p.out.1 (((((W9.setCell ⟨g9,k*4,none⟩ (.int .i64 (X k).kind)).setCell ⟨g9,k*4+1,none⟩ (.string (X k).name)).setCell ⟨g9,k*4+2,none⟩ (.int .i64 (X k).n)).setCell ⟨g9,k*4+3,none⟩ (.slice ad5 (X k).args.length cap5)).setCell ⟨w.heap.size+1+1+1+1,0,none⟩ (.slice (some ⟨g9,0,none⟩) (k+1) cap9)) (fun b d R=>(S_ _ _ _ _ (show b≠w.heap.size+1+1+1+1 by omega)).trans ((S_ _ _ _ _ (show b≠g9 from d)).trans ((S_ _ _ _ _ (show b≠g9 from d)).trans ((S_ _ _ _ _ (show b≠g9 from d)).trans (S_ _ _ _ _ (show b≠g9 from d))))))) (fun m=>?_);clear i K;(try simp only [Act.put,T_,C_,E_])
           refine wpAnyH_done (by kernel_rfl) ?_ _;exact GaI.next89 F.out m_ V.out J.out i_.out j_.out O.out d_.out e_.out HO.out.1 HO.out.2 c_.out b_.out k_.out (z.out W9 rfl).2.2.2.2.2.2.2.2 p.out.2 a_.out
         · have O:=D_ (HD.out _ N.out);have U:=p.out.2;obtain⟨s0,s1⟩:=I4 U;go_simp
           clear s0 s1;refine i.out _ _ (p.out.1 (W9.setCell ⟨w.heap.size+1+1+1+1,0,none⟩ (.slice (some ⟨g9,0,none⟩) (k+1) cap9)) (fun b d R=>S_ _ _ _ _ (show b≠w.heap.size+1+1+1+1 by omega))) (fun m=>?_);clear i K;(try simp only [Act.put,T_,C_,E_])
           refine rY 8 rfl fun K i=>?_;obtain⟨⟨u0,p0⟩,⟨u1,p1⟩,⟨u2,p2⟩,⟨u3,p3⟩,f0,f1,f2,f3,y⟩:=z.out (W9.setCell ⟨w.heap.size+1+1+1+1,0,none⟩ (.slice (some ⟨g9,0,none⟩) (k+1) cap9)) (S_ _ _ _ _ (show g9≠w.heap.size+1+1+1+1 by omega));have n_:=D_ y;clear y;go_simp
           clear p0 p1 p2 p3 f0 f1 f2 f3;refine i.out _ _ (p.out.1 (((((W9.setCell ⟨w.heap.size+1+1+1+1,0,none⟩ (.slice (some ⟨g9,0,none⟩) (k+1) cap9)).setCell ⟨g9,k*4,none⟩ (.int .i64 (X k).kind)).setCell ⟨g9,k*4+1,none⟩ (.string (X k).name)).setCell ⟨g9,k*4+2,none⟩ (.int .i64 (X k).n)).setCell ⟨g9,k*4+3,none⟩ (.slice ad5 (X k).args.length cap5)) (fun b d R=>(S_ _ _ _ _ (show b≠g9 from d)).trans ((S_ _ _ _ _ (show b≠g9 from d)).trans ((S_ _ _ _ _ (show b≠g9 from d)).trans ((S_ _ _ _ _ (show b≠g9 from d)).trans (S_ _ _ _ _ (show b≠w.heap.size+1+1+1+1 by omega))))))) (fun m=>?_);clear i K;(try simp only [Act.put,T_,C_,E_])
           refine wpAnyH_done (by kernel_rfl) ?_ _;exact GaI.next98 F.out m_ V.out J.out i_.out j_.out O.out d_.out e_.out HO.out.1 HO.out.2 c_.out b_.out k_.out (z.out W9 rfl).2.2.2.2.2.2.2.2 p.out.2 a_.out
     · skip
       go_simp
       refine i.out _ _ (I.out _ tcz).1 (fun m=>?_);clear i K;(try simp only [Act.put,T_,C_,E_])
       refine rY 0 rfl fun K i=>?_
       · skip
         go_simp
         refine i.out _ _ (I.out _ tcz).1 (fun m=>?_);clear i K;(try simp only [Act.put,T_,C_,E_])
         refine tK 4 (v:=?v8) rfl (.inl ⟨by rfl,?y8⟩) ?r8
         case y8=>(intro w G;(try dsimp only at G);go_simp;try with_reducible rfl)
         (try simp only [Act.put,T_,C_,E_])
         refine rY 6 rfl fun K i=>?_;have hz: ∀j u,Wq[j]?=some u->(Wc.alloc (.cells #[.int .i64 0,.string ⟨#[]⟩,.int .i64 0,.slice none 0 0] 26)).cell? ((⟨Wc.heap.size,0,none⟩:Addr).add j)=some u:=Pq Wc;have g_:TmP (Wc.alloc (.cells #[.int .i64 0,.string ⟨#[]⟩,.int .i64 0,.slice none 0 0] 26)) (fun b=>W₃.heap.size<=b) (X k) ad5 cap5:=l_.out.kept (fun b _ hl=>A_ _ _ _ hl) fun b hb _=>hb;have f_:St (k+1) (Wc.alloc (.cells #[.int .i64 0,.string ⟨#[]⟩,.int .i64 0,.slice none 0 0] 26)):=V.out (k+1) Wc _ o_.out fun j hj=>A_ _ _ _ (by have:=(F.out j hj).2;have:=tc.size;have:W₃.drew.heap.size=W₃.heap.size:=rfl;omega);have C:w.heap.size+6<=(Wc.alloc (.cells #[.int .i64 0,.string ⟨#[]⟩,.int .i64 0,.slice none 0 0] 26)).heap.size:=by have:=tcz.size;have:W₃.drew.heap.size=W₃.heap.size:=rfl;omega
         have N:=D_ tcz;have e_:=D_ g_;have d_:=D_ f_;clear g_ f_;refine O3 (by rfl) (.tmp 14) (.tmp 19) (by rfl) (by rfl) (I.out _ tcz).2.2.2 (by rfl) (by rfl) hz n8 (by decide) w_ C ?_;intro g9 cap9 W9 s r H s_;have p:=D_ (t_.out (Wc.alloc (.cells #[.int .i64 0,.string ⟨#[]⟩,.int .i64 0,.slice none 0 0] 26)) W9 g9 N.out r H);have r_:=(s.lt g9 rfl).1;have q:w.heap.size+4≠g9:=by omega
         have z:Hid (∀W':World,W'.heap[g9]?=W9.heap[g9]?->(∃u,W'.cell? ⟨g9,k*4,none⟩=some u)/\(∃u,W'.cell? ⟨g9,k*4+1,none⟩=some u)/\(∃u,W'.cell? ⟨g9,k*4+2,none⟩=some u)/\(∃u,W'.cell? ⟨g9,k*4+3,none⟩=some u)/\W'.frozen? ⟨g9,k*4,none⟩=false/\W'.frozen? ⟨g9,k*4+1,none⟩=false/\W'.frozen? ⟨g9,k*4+2,none⟩=false/\W'.frozen? ⟨g9,k*4+3,none⟩=false/\W'.ownsRow (w.heap.size+6) 26 4 (.slice (some ⟨g9,0,none⟩) (k+1) cap9) (k+1) (xs++([.int .i64 0,.string ⟨#[]⟩,.int .i64 0,.slice none 0 0]++ []))):=D_ (fun (W':World) h=>by
          have E:W'.ownsRow (w.heap.size+6) 26 4 (.slice (some ⟨g9,0,none⟩) (k+1) cap9) (k+1) (xs++([.int .i64 0,.string ⟨#[]⟩,.int .i64 0,.slice none 0 0]++ [])):=by rw [List.append_nil];exact I1 s h
          obtain⟨z0,z1,z2,z3⟩:=m6 E a_.out;exact⟨⟨_,z0⟩,⟨_,z1⟩,⟨_,z2⟩,⟨_,z3⟩,E.frozenAt _,E.frozenAt _,E.frozenAt _,E.frozenAt _,E⟩)
         have c_:=D_ r;have b_:=D_ H;clear s r H hz C;refine i.out _ _ (p.out.1 W9 (fun _ _ _=>rfl)) (fun m=>?_);clear i K;(try simp only [Act.put,T_,C_,E_])
         refine tK 7 (v:=?v9) rfl (.inl ⟨by rfl,?y9⟩) ?r9
         case y9=>(intro w G;(try dsimp only at G);go_simp;try with_reducible rfl)
         (try simp only [Act.put,T_,C_,E_])
         refine wpAnyH_ready (rs:= [8,9]) (by kernel_rfl) (by simp) ?_;refine AllReadyH.cons (o:=_) rfl (fun K i=>?_) (AllReadyH.cons (o:=_) rfl (fun K i=>?_) (AllReadyH.nil))
         · have O:=D_ (HD.out _ N.out);obtain⟨⟨u0,p0⟩,⟨u1,p1⟩,⟨u2,p2⟩,⟨u3,p3⟩,f0,f1,f2,f3,y⟩:=z.out W9 rfl;have n_:=D_ y;clear y;go_simp
           clear p0 p1 p2 p3 f0 f1 f2 f3;refine i.out _ _ (p.out.1 ((((W9.setCell ⟨g9,k*4,none⟩ (.int .i64 (X k).kind)).setCell ⟨g9,k*4+1,none⟩ (.string (X k).name)).setCell ⟨g9,k*4+2,none⟩ (.int .i64 (X k).n)).setCell ⟨g9,k*4+3,none⟩ (.slice ad5 (X k).args.length cap5)) (fun b d R=>(S_ _ _ _ _ (show b≠g9 from d)).trans ((S_ _ _ _ _ (show b≠g9 from d)).trans ((S_ _ _ _ _ (show b≠g9 from d)).trans (S_ _ _ _ _ (show b≠g9 from d)))))) (fun m=>?_);clear i K;(try simp only [Act.put,T_,C_,E_])
           refine rY 9 rfl fun K i=>?_;have U:((((W9.setCell ⟨g9,k*4,none⟩ (.int .i64 (X k).kind)).setCell ⟨g9,k*4+1,none⟩ (.string (X k).name)).setCell ⟨g9,k*4+2,none⟩ (.int .i64 (X k).n)).setCell ⟨g9,k*4+3,none⟩ (.slice ad5 (X k).args.length cap5)).heap[w.heap.size+4]?=some (.cells #[(.slice vad k vcap)] 24 (0,0)):=((S_ _ _ _ _ (show w.heap.size+4≠g9 from q)).trans ((S_ _ _ _ _ (show w.heap.size+4≠g9 from q)).trans ((S_ _ _ _ _ (show w.heap.size+4≠g9 from q)).trans (S_ _ _ _ _ (show w.heap.size+4≠g9 from q))))).trans p.out.2;obtain⟨s0,s1⟩:=I4 U;go_simp
           clear s0 s1;refine i.out _ _ (p.out.1 (((((W9.setCell ⟨g9,k*4,none⟩ (.int .i64 (X k).kind)).setCell ⟨g9,k*4+1,none⟩ (.string (X k).name)).setCell ⟨g9,k*4+2,none⟩ (.int .i64 (X k).n)).setCell ⟨g9,k*4+3,none⟩ (.slice ad5 (X k).args.length cap5)).setCell ⟨w.heap.size+1+1+1+1,0,none⟩ (.slice (some ⟨g9,0,none⟩) (k+1) cap9)) (fun b d R=>(S_ _ _ _ _ (show b≠w.heap.size+1+1+1+1 by omega)).trans ((S_ _ _ _ _ (show b≠g9 from d)).trans ((S_ _ _ _ _ (show b≠g9 from d)).trans ((S_ _ _ _ _ (show b≠g9 from d)).trans (S_ _ _ _ _ (show b≠g9 from d))))))) (fun m=>?_);clear i K;(try simp only [Act.put,T_,C_,E_])
           refine wpAnyH_done (by kernel_rfl) ?_ _;exact GaI.next89 F.out m_ V.out J.out i_.out j_.out O.out d_.out e_.out HO.out.1 HO.out.2 c_.out b_.out k_.out (z.out W9 rfl).2.2.2.2.2.2.2.2 p.out.2 a_.out
         · have O:=D_ (HD.out _ N.out);have U:=p.out.2;obtain⟨s0,s1⟩:=I4 U;go_simp
           clear s0 s1;refine i.out _ _ (p.out.1 (W9.setCell ⟨w.heap.size+1+1+1+1,0,none⟩ (.slice (some ⟨g9,0,none⟩) (k+1) cap9)) (fun b d R=>S_ _ _ _ _ (show b≠w.heap.size+1+1+1+1 by omega))) (fun m=>?_);clear i K;(try simp only [Act.put,T_,C_,E_])
           refine rY 8 rfl fun K i=>?_;obtain⟨⟨u0,p0⟩,⟨u1,p1⟩,⟨u2,p2⟩,⟨u3,p3⟩,f0,f1,f2,f3,y⟩:=z.out (W9.setCell ⟨w.heap.size+1+1+1+1,0,none⟩ (.slice (some ⟨g9,0,none⟩) (k+1) cap9)) (S_ _ _ _ _ (show g9≠w.heap.size+1+1+1+1 by omega));have n_:=D_ y;clear y;go_simp
           clear p0 p1 p2 p3 f0 f1 f2 f3;refine i.out _ _ (p.out.1 (((((W9.setCell ⟨w.heap.size+1+1+1+1,0,none⟩ (.slice (some ⟨g9,0,none⟩) (k+1) cap9)).setCell ⟨g9,k*4,none⟩ (.int .i64 (X k).kind)).setCell ⟨g9,k*4+1,none⟩ (.string (X k).name)).setCell ⟨g9,k*4+2,none⟩ (.int .i64 (X k).n)).setCell ⟨g9,k*4+3,none⟩ (.slice ad5 (X k).args.length cap5)) (fun b d R=>(S_ _ _ _ _ (show b≠g9 from d)).trans ((S_ _ _ _ _ (show b≠g9 from d)).trans ((S_ _ _ _ _ (show b≠g9 from d)).trans ((S_ _ _ _ _ (show b≠g9 from d)).trans (S_ _ _ _ _ (show b≠w.heap.size+1+1+1+1 by omega))))))) (fun m=>?_);clear i K;(try simp only [Act.put,T_,C_,E_])
           refine wpAnyH_done (by kernel_rfl) ?_ _;exact GaI.next98 F.out m_ V.out J.out i_.out j_.out O.out d_.out e_.out HO.out.1 HO.out.2 c_.out b_.out k_.out (z.out W9 rfl).2.2.2.2.2.2.2.2 p.out.2 a_.out
   · skip
     go_simp
     refine i.out _ _ (I.out _ tz).1 (fun m=>?_);clear i K;(try simp only [Act.put,T_,C_,E_])
     refine wpAnyH_ready (rs:= [0,3]) (by kernel_rfl) (by simp) ?_;refine AllReadyH.cons (o:=_) rfl (fun K i=>?_) (AllReadyH.cons (o:=_) rfl (fun K i=>?_) (AllReadyH.nil))
     · skip
       go_simp
       refine i.out _ _ (I.out _ tz).1 (fun m=>?_);clear i K;(try simp only [Act.put,T_,C_,E_])
       refine tK 4 (v:=?v10) rfl (.inl ⟨by rfl,?y10⟩) ?r10
       case y10=>(intro w G;(try dsimp only at G);go_simp;try with_reducible rfl)
       (try simp only [Act.put,T_,C_,E_])
       refine rY 3 rfl fun K i=>?_
       · skip
         go_simp
         (with_reducible refine(z_.out _ tz bz).mono ?_);rintro e Wc ⟨ad5,cap5,rfl,h_,Z,Y⟩
         unfold tmv;have tc:V0 Mb W₃.drew Wc:=tz.trans Z;have qc:=(I.out _ tc).2.1;have tcz:V0 Mb W₃.drew (Wc.alloc (.cells #[.int .i64 0,.string ⟨#[]⟩,.int .i64 0,.slice none 0 0] 26)):=tc.trans (V0.alloc Mb _ _);have qcz:=(I.out _ tcz).2.1;have q_:=D_ Z;have l_:=D_ h_;have o_:=D_ Y;clear Z h_ Y;try go_wp2_with fail
         refine i.out _ _ (I.out _ tc).1 (fun m=>?_);clear i K;(try simp only [Act.put,T_,C_,E_])
         refine rY 6 rfl fun K i=>?_;have hz: ∀j u,Wq[j]?=some u->Wc.cell? ((⟨W₃.heap.size,0,none⟩:Addr).add j)=some u:=yx W₃ q_.out (hlo _ (by omega));have g_:TmP Wc (fun b=>W₃.heap.size<=b) (X k) ad5 cap5:=l_.out.kept (fun _ _ _=>rfl) fun b hb _=>Nat.le_trans (show W₃.heap.size<=(W₃.alloc (.cells #[.int .i64 0,.string ⟨#[]⟩,.int .i64 0,.slice none 0 0] 26)).heap.size by rw [Z_];omega) hb;have f_:St (k+1) Wc:=o_.out;have C:w.heap.size+6<=Wc.heap.size:=by have:=tc.size;have:W₃.drew.heap.size=W₃.heap.size:=rfl;omega
         have N:=D_ tc;have e_:=D_ g_;have d_:=D_ f_;clear g_ f_;refine O3 (by rfl) (.tmp 14) (.tmp 19) (by rfl) (by rfl) (I.out _ tc).2.2.2 (by rfl) (by rfl) hz n8 (by decide) w_ C ?_;intro g9 cap9 W9 s r H s_;have p:=D_ (t_.out Wc W9 g9 N.out r H);have r_:=(s.lt g9 rfl).1;have q:w.heap.size+4≠g9:=by omega
         have z:Hid (∀W':World,W'.heap[g9]?=W9.heap[g9]?->(∃u,W'.cell? ⟨g9,k*4,none⟩=some u)/\(∃u,W'.cell? ⟨g9,k*4+1,none⟩=some u)/\(∃u,W'.cell? ⟨g9,k*4+2,none⟩=some u)/\(∃u,W'.cell? ⟨g9,k*4+3,none⟩=some u)/\W'.frozen? ⟨g9,k*4,none⟩=false/\W'.frozen? ⟨g9,k*4+1,none⟩=false/\W'.frozen? ⟨g9,k*4+2,none⟩=false/\W'.frozen? ⟨g9,k*4+3,none⟩=false/\W'.ownsRow (w.heap.size+6) 26 4 (.slice (some ⟨g9,0,none⟩) (k+1) cap9) (k+1) (xs++([.int .i64 0,.string ⟨#[]⟩,.int .i64 0,.slice none 0 0]++ []))):=D_ (fun (W':World) h=>by
          have E:W'.ownsRow (w.heap.size+6) 26 4 (.slice (some ⟨g9,0,none⟩) (k+1) cap9) (k+1) (xs++([.int .i64 0,.string ⟨#[]⟩,.int .i64 0,.slice none 0 0]++ [])):=by rw [List.append_nil];exact I1 s h
          obtain⟨z0,z1,z2,z3⟩:=m6 E a_.out;exact⟨⟨_,z0⟩,⟨_,z1⟩,⟨_,z2⟩,⟨_,z3⟩,E.frozenAt _,E.frozenAt _,E.frozenAt _,E.frozenAt _,E⟩)
         have c_:=D_ r;have b_:=D_ H;clear s r H hz C;refine i.out _ _ (p.out.1 W9 (fun _ _ _=>rfl)) (fun m=>?_);clear i K;(try simp only [Act.put,T_,C_,E_])
         refine tK 7 (v:=?v11) rfl (.inl ⟨by rfl,?y11⟩) ?r11
         case y11=>(intro w G;(try dsimp only at G);go_simp;try with_reducible rfl)
         (try simp only [Act.put,T_,C_,E_])
         refine wpAnyH_ready (rs:= [8,9]) (by kernel_rfl) (by simp) ?_;refine AllReadyH.cons (o:=_) rfl (fun K i=>?_) (AllReadyH.cons (o:=_) rfl (fun K i=>?_) (AllReadyH.nil))
         · have O:=D_ (HD.out _ N.out);obtain⟨⟨u0,p0⟩,⟨u1,p1⟩,⟨u2,p2⟩,⟨u3,p3⟩,f0,f1,f2,f3,y⟩:=z.out W9 rfl;have n_:=D_ y;clear y;go_simp
           clear p0 p1 p2 p3 f0 f1 f2 f3;refine i.out _ _ (p.out.1 ((((W9.setCell ⟨g9,k*4,none⟩ (.int .i64 (X k).kind)).setCell ⟨g9,k*4+1,none⟩ (.string (X k).name)).setCell ⟨g9,k*4+2,none⟩ (.int .i64 (X k).n)).setCell ⟨g9,k*4+3,none⟩ (.slice ad5 (X k).args.length cap5)) (fun b d R=>(S_ _ _ _ _ (show b≠g9 from d)).trans ((S_ _ _ _ _ (show b≠g9 from d)).trans ((S_ _ _ _ _ (show b≠g9 from d)).trans (S_ _ _ _ _ (show b≠g9 from d)))))) (fun m=>?_);clear i K;(try simp only [Act.put,T_,C_,E_])
           refine rY 9 rfl fun K i=>?_;have U:((((W9.setCell ⟨g9,k*4,none⟩ (.int .i64 (X k).kind)).setCell ⟨g9,k*4+1,none⟩ (.string (X k).name)).setCell ⟨g9,k*4+2,none⟩ (.int .i64 (X k).n)).setCell ⟨g9,k*4+3,none⟩ (.slice ad5 (X k).args.length cap5)).heap[w.heap.size+4]?=some (.cells #[(.slice vad k vcap)] 24 (0,0)):=((S_ _ _ _ _ (show w.heap.size+4≠g9 from q)).trans ((S_ _ _ _ _ (show w.heap.size+4≠g9 from q)).trans ((S_ _ _ _ _ (show w.heap.size+4≠g9 from q)).trans (S_ _ _ _ _ (show w.heap.size+4≠g9 from q))))).trans p.out.2;obtain⟨s0,s1⟩:=I4 U;go_simp
           clear s0 s1;refine i.out _ _ (p.out.1 (((((W9.setCell ⟨g9,k*4,none⟩ (.int .i64 (X k).kind)).setCell ⟨g9,k*4+1,none⟩ (.string (X k).name)).setCell ⟨g9,k*4+2,none⟩ (.int .i64 (X k).n)).setCell ⟨g9,k*4+3,none⟩ (.slice ad5 (X k).args.length cap5)).setCell ⟨w.heap.size+1+1+1+1,0,none⟩ (.slice (some ⟨g9,0,none⟩) (k+1) cap9)) (fun b d R=>(S_ _ _ _ _ (show b≠w.heap.size+1+1+1+1 by omega)).trans ((S_ _ _ _ _ (show b≠g9 from d)).trans ((S_ _ _ _ _ (show b≠g9 from d)).trans ((S_ _ _ _ _ (show b≠g9 from d)).trans (S_ _ _ _ _ (show b≠g9 from d))))))) (fun m=>?_);clear i K;(try simp only [Act.put,T_,C_,E_])
           refine wpAnyH_done (by kernel_rfl) ?_ _;exact GaI.next89 F.out m_ V.out J.out i_.out j_.out O.out d_.out e_.out HO.out.1 HO.out.2 c_.out b_.out k_.out (z.out W9 rfl).2.2.2.2.2.2.2.2 p.out.2 a_.out
         · have O:=D_ (HD.out _ N.out);have U:=p.out.2;obtain⟨s0,s1⟩:=I4 U;go_simp
           clear s0 s1;refine i.out _ _ (p.out.1 (W9.setCell ⟨w.heap.size+1+1+1+1,0,none⟩ (.slice (some ⟨g9,0,none⟩) (k+1) cap9)) (fun b d R=>S_ _ _ _ _ (show b≠w.heap.size+1+1+1+1 by omega))) (fun m=>?_);clear i K;(try simp only [Act.put,T_,C_,E_])
           refine rY 8 rfl fun K i=>?_;obtain⟨⟨u0,p0⟩,⟨u1,p1⟩,⟨u2,p2⟩,⟨u3,p3⟩,f0,f1,f2,f3,y⟩:=z.out (W9.setCell ⟨w.heap.size+1+1+1+1,0,none⟩ (.slice (some ⟨g9,0,none⟩) (k+1) cap9)) (S_ _ _ _ _ (show g9≠w.heap.size+1+1+1+1 by omega));have n_:=D_ y;clear y;go_simp
           clear p0 p1 p2 p3 f0 f1 f2 f3;refine i.out _ _ (p.out.1 (((((W9.setCell ⟨w.heap.size+1+1+1+1,0,none⟩ (.slice (some ⟨g9,0,none⟩) (k+1) cap9)).setCell ⟨g9,k*4,none⟩ (.int .i64 (X k).kind)).setCell ⟨g9,k*4+1,none⟩ (.string (X k).name)).setCell ⟨g9,k*4+2,none⟩ (.int .i64 (X k).n)).setCell ⟨g9,k*4+3,none⟩ (.slice ad5 (X k).args.length cap5)) (fun b d R=>(S_ _ _ _ _ (show b≠g9 from d)).trans ((S_ _ _ _ _ (show b≠g9 from d)).trans ((S_ _ _ _ _ (show b≠g9 from d)).trans ((S_ _ _ _ _ (show b≠g9 from d)).trans (S_ _ _ _ _ (show b≠w.heap.size+1+1+1+1 by omega))))))) (fun m=>?_);clear i K;(try simp only [Act.put,T_,C_,E_])
           refine wpAnyH_done (by kernel_rfl) ?_ _;exact GaI.next98 F.out m_ V.out J.out i_.out j_.out O.out d_.out e_.out HO.out.1 HO.out.2 c_.out b_.out k_.out (z.out W9 rfl).2.2.2.2.2.2.2.2 p.out.2 a_.out
     · skip
       go_simp
       (with_reducible refine(z_.out _ tz bz).mono ?_);rintro e Wc ⟨ad5,cap5,rfl,h_,Z,Y⟩
       unfold tmv;have tc:V0 Mb W₃.drew Wc:=tz.trans Z;have qc:=(I.out _ tc).2.1;have tcz:V0 Mb W₃.drew (Wc.alloc (.cells #[.int .i64 0,.string ⟨#[]⟩,.int .i64 0,.slice none 0 0] 26)):=tc.trans (V0.alloc Mb _ _);have qcz:=(I.out _ tcz).2.1;have q_:=D_ Z;have l_:=D_ h_;have o_:=D_ Y;clear Z h_ Y;try go_wp2_with fail
       refine i.out _ _ (I.out _ tc).1 (fun m=>?_);clear i K;(try simp only [Act.put,T_,C_,E_])
       refine rY 0 rfl fun K i=>?_
       · skip
         go_simp
         refine i.out _ _ (I.out _ tc).1 (fun m=>?_);clear i K;(try simp only [Act.put,T_,C_,E_])
         refine tK 4 (v:=?v12) rfl (.inl ⟨by rfl,?y12⟩) ?r12
         case y12=>(intro w G;(try dsimp only at G);go_simp;try with_reducible rfl)
         (try simp only [Act.put,T_,C_,E_])
         refine rY 6 rfl fun K i=>?_;have hz: ∀j u,Wq[j]?=some u->Wc.cell? ((⟨W₃.heap.size,0,none⟩:Addr).add j)=some u:=yx W₃ q_.out (hlo _ (by omega));have g_:TmP Wc (fun b=>W₃.heap.size<=b) (X k) ad5 cap5:=l_.out.kept (fun _ _ _=>rfl) fun b hb _=>Nat.le_trans (show W₃.heap.size<=(W₃.alloc (.cells #[.int .i64 0,.string ⟨#[]⟩,.int .i64 0,.slice none 0 0] 26)).heap.size by rw [Z_];omega) hb;have f_:St (k+1) Wc:=o_.out;have C:w.heap.size+6<=Wc.heap.size:=by have:=tc.size;have:W₃.drew.heap.size=W₃.heap.size:=rfl;omega
         have N:=D_ tc;have e_:=D_ g_;have d_:=D_ f_;clear g_ f_;refine O3 (by rfl) (.tmp 14) (.tmp 19) (by rfl) (by rfl) (I.out _ tc).2.2.2 (by rfl) (by rfl) hz n8 (by decide) w_ C ?_;intro g9 cap9 W9 s r H s_;have p:=D_ (t_.out Wc W9 g9 N.out r H);have r_:=(s.lt g9 rfl).1;have q:w.heap.size+4≠g9:=by omega
         have z:Hid (∀W':World,W'.heap[g9]?=W9.heap[g9]?->(∃u,W'.cell? ⟨g9,k*4,none⟩=some u)/\(∃u,W'.cell? ⟨g9,k*4+1,none⟩=some u)/\(∃u,W'.cell? ⟨g9,k*4+2,none⟩=some u)/\(∃u,W'.cell? ⟨g9,k*4+3,none⟩=some u)/\W'.frozen? ⟨g9,k*4,none⟩=false/\W'.frozen? ⟨g9,k*4+1,none⟩=false/\W'.frozen? ⟨g9,k*4+2,none⟩=false/\W'.frozen? ⟨g9,k*4+3,none⟩=false/\W'.ownsRow (w.heap.size+6) 26 4 (.slice (some ⟨g9,0,none⟩) (k+1) cap9) (k+1) (xs++([.int .i64 0,.string ⟨#[]⟩,.int .i64 0,.slice none 0 0]++ []))):=D_ (fun (W':World) h=>by
          have E:W'.ownsRow (w.heap.size+6) 26 4 (.slice (some ⟨g9,0,none⟩) (k+1) cap9) (k+1) (xs++([.int .i64 0,.string ⟨#[]⟩,.int .i64 0,.slice none 0 0]++ [])):=by rw [List.append_nil];exact I1 s h
          obtain⟨z0,z1,z2,z3⟩:=m6 E a_.out;exact⟨⟨_,z0⟩,⟨_,z1⟩,⟨_,z2⟩,⟨_,z3⟩,E.frozenAt _,E.frozenAt _,E.frozenAt _,E.frozenAt _,E⟩)
         have c_:=D_ r;have b_:=D_ H;clear s r H hz C;refine i.out _ _ (p.out.1 W9 (fun _ _ _=>rfl)) (fun m=>?_);clear i K;(try simp only [Act.put,T_,C_,E_])
         refine tK 7 (v:=?v13) rfl (.inl ⟨by rfl,?y13⟩) ?r13
         case y13=>(intro w G;(try dsimp only at G);go_simp;try with_reducible rfl)
         (try simp only [Act.put,T_,C_,E_])
         refine wpAnyH_ready (rs:= [8,9]) (by kernel_rfl) (by simp) ?_;refine AllReadyH.cons (o:=_) rfl (fun K i=>?_) (AllReadyH.cons (o:=_) rfl (fun K i=>?_) (AllReadyH.nil))
         · have O:=D_ (HD.out _ N.out);obtain⟨⟨u0,p0⟩,⟨u1,p1⟩,⟨u2,p2⟩,⟨u3,p3⟩,f0,f1,f2,f3,y⟩:=z.out W9 rfl;have n_:=D_ y;clear y;go_simp
           clear p0 p1 p2 p3 f0 f1 f2 f3;refine i.out _ _ (p.out.1 ((((W9.setCell ⟨g9,k*4,none⟩ (.int .i64 (X k).kind)).setCell ⟨g9,k*4+1,none⟩ (.string (X k).name)).setCell ⟨g9,k*4+2,none⟩ (.int .i64 (X k).n)).setCell ⟨g9,k*4+3,none⟩ (.slice ad5 (X k).args.length cap5)) (fun b d R=>(S_ _ _ _ _ (show b≠g9 from d)).trans ((S_ _ _ _ _ (show b≠g9 from d)).trans ((S_ _ _ _ _ (show b≠g9 from d)).trans (S_ _ _ _ _ (show b≠g9 from d)))))) (fun m=>?_);clear i K;(try simp only [Act.put,T_,C_,E_])
           refine rY 9 rfl fun K i=>?_;have U:((((W9.setCell ⟨g9,k*4,none⟩ (.int .i64 (X k).kind)).setCell ⟨g9,k*4+1,none⟩ (.string (X k).name)).setCell ⟨g9,k*4+2,none⟩ (.int .i64 (X k).n)).setCell ⟨g9,k*4+3,none⟩ (.slice ad5 (X k).args.length cap5)).heap[w.heap.size+4]?=some (.cells #[(.slice vad k vcap)] 24 (0,0)):=((S_ _ _ _ _ (show w.heap.size+4≠g9 from q)).trans ((S_ _ _ _ _ (show w.heap.size+4≠g9 from q)).trans ((S_ _ _ _ _ (show w.heap.size+4≠g9 from q)).trans (S_ _ _ _ _ (show w.heap.size+4≠g9 from q))))).trans p.out.2;obtain⟨s0,s1⟩:=I4 U;go_simp
           clear s0 s1;refine i.out _ _ (p.out.1 (((((W9.setCell ⟨g9,k*4,none⟩ (.int .i64 (X k).kind)).setCell ⟨g9,k*4+1,none⟩ (.string (X k).name)).setCell ⟨g9,k*4+2,none⟩ (.int .i64 (X k).n)).setCell ⟨g9,k*4+3,none⟩ (.slice ad5 (X k).args.length cap5)).setCell ⟨w.heap.size+1+1+1+1,0,none⟩ (.slice (some ⟨g9,0,none⟩) (k+1) cap9)) (fun b d R=>(S_ _ _ _ _ (show b≠w.heap.size+1+1+1+1 by omega)).trans ((S_ _ _ _ _ (show b≠g9 from d)).trans ((S_ _ _ _ _ (show b≠g9 from d)).trans ((S_ _ _ _ _ (show b≠g9 from d)).trans (S_ _ _ _ _ (show b≠g9 from d))))))) (fun m=>?_);clear i K;(try simp only [Act.put,T_,C_,E_])
           refine wpAnyH_done (by kernel_rfl) ?_ _;exact GaI.next89 F.out m_ V.out J.out i_.out j_.out O.out d_.out e_.out HO.out.1 HO.out.2 c_.out b_.out k_.out (z.out W9 rfl).2.2.2.2.2.2.2.2 p.out.2 a_.out
         · have O:=D_ (HD.out _ N.out);have U:=p.out.2;obtain⟨s0,s1⟩:=I4 U;go_simp
           clear s0 s1;refine i.out _ _ (p.out.1 (W9.setCell ⟨w.heap.size+1+1+1+1,0,none⟩ (.slice (some ⟨g9,0,none⟩) (k+1) cap9)) (fun b d R=>S_ _ _ _ _ (show b≠w.heap.size+1+1+1+1 by omega))) (fun m=>?_);clear i K;(try simp only [Act.put,T_,C_,E_])
           refine rY 8 rfl fun K i=>?_;obtain⟨⟨u0,p0⟩,⟨u1,p1⟩,⟨u2,p2⟩,⟨u3,p3⟩,f0,f1,f2,f3,y⟩:=z.out (W9.setCell ⟨w.heap.size+1+1+1+1,0,none⟩ (.slice (some ⟨g9,0,none⟩) (k+1) cap9)) (S_ _ _ _ _ (show g9≠w.heap.size+1+1+1+1 by omega));have n_:=D_ y;clear y;go_simp
           clear p0 p1 p2 p3 f0 f1 f2 f3;refine i.out _ _ (p.out.1 (((((W9.setCell ⟨w.heap.size+1+1+1+1,0,none⟩ (.slice (some ⟨g9,0,none⟩) (k+1) cap9)).setCell ⟨g9,k*4,none⟩ (.int .i64 (X k).kind)).setCell ⟨g9,k*4+1,none⟩ (.string (X k).name)).setCell ⟨g9,k*4+2,none⟩ (.int .i64 (X k).n)).setCell ⟨g9,k*4+3,none⟩ (.slice ad5 (X k).args.length cap5)) (fun b d R=>(S_ _ _ _ _ (show b≠g9 from d)).trans ((S_ _ _ _ _ (show b≠g9 from d)).trans ((S_ _ _ _ _ (show b≠g9 from d)).trans ((S_ _ _ _ _ (show b≠g9 from d)).trans (S_ _ _ _ _ (show b≠w.heap.size+1+1+1+1 by omega))))))) (fun m=>?_);clear i K;(try simp only [Act.put,T_,C_,E_])
           refine wpAnyH_done (by kernel_rfl) ?_ _;exact GaI.next98 F.out m_ V.out J.out i_.out j_.out O.out d_.out e_.out HO.out.1 HO.out.2 c_.out b_.out k_.out (z.out W9 rfl).2.2.2.2.2.2.2.2 p.out.2 a_.out
 case done=>
  rintro D M W hD hMD ⟨v,hI⟩ i;obtain⟨vad,vcap,rfl⟩:=rz hI.own.choose_spec.1;obtain⟨s0,s1⟩:=I4 hI.lst;obtain⟨r0,r1⟩:=I4 hI.r1;obtain⟨e0,e1⟩:=I4 hI.r2;have HI:=D_ hI;have hD6:w.heap.size+6<=D:=by omega
  have hgo:=hI.goal;rw [List.take_of_length_le (R_ _)]at hgo;have u_:=D_ hgo;have HK:=D_ i;have HMD:=D_ hMD;clear hI x_ hI0 hgo i hMD;gi_wp2
  refine⟨by simp,.inl ⟨_,_,rfl,run_takeDeferred (((S_ _ _ _ _ (show D≠w.heap.size+1+1+1 by omega)).trans (S_ _ _ _ _ (show D≠w.heap.size+1+1 by omega))).trans HK.out),?_⟩⟩;obtain⟨f1,f2,f3,f4,f5⟩:=gaI_done (fun j hj=>(F.out j hj).2) V.out HI.out HMD.out _ rfl;obtain⟨g1,_⟩:=I4 f1;obtain⟨g2,_⟩:=I4 f2;exact⟨.tuple #[.slice vad T.body.length vcap,.int .i64 0],by simp [results,Tryz.results41,go_sem,g1,g2],f3,.inl ⟨u_.out,⟨_,rfl,f4⟩,f5⟩⟩
 case stop=>
  rintro D c M k W hD hDM hk ⟨rfl,hx⟩ i;obtain⟨x1,x2,x3,x4,x5,x6⟩:=hx;have hD6:=x2 D hDM;have y_:=D_ x1;have HX3:=D_ x3;have HX4:=D_ x4;have l_:=D_ x5;have HK:=D_ i;clear x_ hI0 x1 x2 x3 x4 x5 i;gi_wp2
  refine⟨by simp,.inl ⟨_,_,rfl,run_takeDeferred HK.out,?_⟩⟩;obtain⟨g1,_⟩:=I4 ((World.putObj_heap_other (o:=.deferred none) (show w.heap.size+1+1≠D by omega)).trans HX3.out);obtain⟨g2,_⟩:=I4 ((World.putObj_heap_other (o:=.deferred none) (show w.heap.size+1+1+1≠D by omega)).trans HX4.out);have t:=y_.out;exact⟨.tuple #[.slice none 0 0,.int .i64 80],by simp [results,Tryz.results41,go_sem,g1,g2],⟨t.os,t.tape,t.output,by rw [World.putObj_size];exact t.size,fun j hj hne=>(World.putObj_heap_other (show j≠D by omega)).trans (t.block j hj hne)⟩,.inr ⟨l_.out,rfl⟩⟩
end Go.Proofs.YtinefdlkajnomaaGreatDoor
