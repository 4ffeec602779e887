import Derived.Test.YtinefdlkajnomaaGreatDoorMTokRU
import Derived.Test.YtinefdlkajnomaaGreatDoorMCharM
import Derived.Test.YtinefdlkajnomaaGreatDoorMTokAH
import Derived.RegionTactic
import Derived.BigRegion
import Derived.Deep.RegionHeld3
import Derived.Test.YtinefdlkajnomaaGreatDoorMTokVB
import Derived.Test.YtinefdlkajnomaaGreatDoorMTokVCE
namespace Go.Proofs.YtinefdlkajnomaaGreatDoor
open Go.RowKit
set_option maxHeartbeats 20000000
theorem FX: ∀(l:List UInt8),(∀b∈l,b.toNat<128)->Lib.validD l=true
 | [],_=>rfl
 |b::t,h=>by
  have a:=h b (List.mem_cons_self ..);rw [qx _ (List.cons_ne_nil _ _),Lib.decodeL_ascii b t a];dsimp only;rw [I_ (by omega)];exact FX t (fun c hc=>h c (List.mem_cons_of_mem _ hc))
theorem check_span (P:Int->Bool) (d: ∀c:Int,128<=c->P c=false) (l:List UInt8):K2 (l.take (O0 P l))=decide (O0 P l<=255):=by
 unfold K2;rw [FX _ (fun b a=>?_),Bool.and_true,List.length_take,Nat.min_eq_left (F1 P l)];rw [take_spanL]at a;have h:=List.all_eq_true.1 (List.all_takeWhile (p:=fun b:UInt8=>P (b.toNat:Int)) (l:=l)) b a;apply Classical.byContradiction
 intro g;rw [d _ (by omega)]at h;cases h
theorem Zj (k:Int) (P:Int->Bool) (a: ∀c:Int,128<=c->P c=false) (l:List UInt8):V1 ⟨k,l.take (O0 P l),0,O0 P l⟩=if O0 P l<=255 then⟨k,l.take (O0 P l),0,O0 P l⟩else lx0:=by
 unfold V1;dsimp only;rw [check_span P a];by_cases h:O0 P l<=255
 · rw [decide_eq_true h,J_ rfl,J_ h]
 · rw [decide_eq_false h,I_ (by decide),I_ h]
theorem s5 {x:Lx} (gl:Bool) (h:x.kind≠6):A3 gl x=x.kind:=by
 unfold A3;rw [I_ (fun a=>h a.2.2)]
def Q3 (l:List UInt8) (p:Nat) (gl:Bool) (e:Ending):Prop:= ∃(k n q:Int) (t:ByteArray) (en:Nat) (ok:Bool),e=.returned (.tuple #[.agg #[.int .i64 k,.string t,.int .i64 n,.int .i64 q],.int .i64 (en:Nat),.bool ok])/\
 ok=decide ((G0 l).w≠0)/\(ok=true->(G0 l).kind≠0/\k=A3 gl (G0 l)/\t=⟨(G0 l).text.toArray⟩/\n=(G0 l).n/\q=(p:Nat)/\en=p+(G0 l).w)
theorem i6 {s:ByteArray} {p E n:Nat} {k kx:Int} {gl:Bool} (d:p+n=E) (j:n≠0) (c:kx≠0) (b:G0 (s.data.toList.drop p)=if V2 k n=true then lx0 else⟨kx,(s.data.toList.drop p).take n,0,n⟩)
 (g:A3 gl ⟨kx,(s.data.toList.drop p).take n,0,n⟩=k):
 Q3 (s.data.toList.drop p) p gl (.returned (.tuple #[.agg #[.int .i64 k,.string (s.extract p E),.int .i64 0,.int .i64 (p:Nat)],.int .i64 (E:Nat),.bool (!V2 k (E-p))])):=by
 have a:E-p=n:=by omega
 refine⟨k,0,(p:Nat),s.extract p E,E,!V2 k (E-p),rfl,?_,fun h=>?_⟩
 · rw [a,b];cases V2 k n with
   |true=>rfl
   |false=>
    rw [I_ (by decide)];symm
    exact decide_eq_true j
 · rw [a]at h;have i:V2 k n=false:=by simpa using h
   rw [b,i,I_ (by decide)];exact⟨c,g.symm,by rw [Lib.extract_eq,a],rfl,rfl,d.symm⟩
theorem tJ (w:World) (t:TypeId) (a b c:Int):Ks (w.alloc (.cells #[.int .i64 a,.int .i64 b,.int .i64 c] t)) w.heap.size [a,b,c]:=by
 intro i h;match i,h with
 |0,_=>exact World.cell?_alloc_at _ _ _ _ rfl
 |1,_=>exact World.cell?_alloc_at _ _ _ _ rfl
 |2,_=>exact World.cell?_alloc_at _ _ _ _ rfl
theorem Pj (w:World) (t:TypeId) (k:Int):Ks (w.alloc (.cells #[.int .i64 k] t)) w.heap.size [k]:=by
 intro i h;have:i=0:=by simp at h;omega
 subst this;exact World.cell?_alloc_at _ _ _ _ rfl
theorem amongW:O6 [1,2,3]=X2:=by
 funext c
 unfold O6 X2;rw [Bool.eq_iff_iff];simp
theorem sj:O6 [4]=U1:=by
 funext c
 unfold O6 U1;rw [Bool.eq_iff_iff];simp
theorem long_no (k:Int) (n:Nat) (a:k≠1) (b:k≠3):V2 k n=false:=by
 unfold V2;rw [beq_eq_false_iff_ne.2 a,beq_eq_false_iff_ne.2 b];simp
theorem long_one (k:Int) (n:Nat) (h:k=1\/k=3):V2 k n=decide (255<n):=by
 unfold V2;rcases h with rfl|rfl<;>simp
theorem long_if {k:Int} {n:Nat} (h:k=1\/k=3) (x:Lx):(if n<=255 then x else lx0)=if V2 k n=true then lx0 else x:=by
 rw [long_one k n h];by_cases a:n<=255
 · rw [J_ a,decide_eq_false (by omega),I_ (by decide)]
 · rw [I_ a,decide_eq_true (by omega),J_ rfl]
set_option maxRecDepth 100000 in
theorem tok_c1 (s:ByteArray) (p:Nat) (gl:Bool) (w:World) (B:s.size<=200000) (A:p<s.size) (hc:cls (s[p].toNat:Int)=1):
 Calls Tryz.prog 84 #[.string s,.int .i64 (p:Nat),.bool gl] w fun e w'=>Q3 (s.data.toList.drop p) p gl e/\Below w.heap.size w w':=by
 have j:=Q0 s p A;have I:(0:Int)<=(p:Int):=by omega
 have J:(p:Int)<(s.size:Int):=by omega
 have D:=D_ (fun W=>by
  have:=K1 s p W (by omega);rw [U3 s p A,hc]at this;exact this)
 obtain⟨n,l⟩: ∃n,O0 X2 (s.data.toList.drop p)=n:=⟨_,rfl⟩;have y:n≠0:=by rw [<-l,j];exact Nat.pos_iff_ne_zero.1 (Y2 _ _ _ (by unfold X2;rw [hc];decide))
 have z:=F1 X2 (s.data.toList.drop p);rw [l,List.length_drop,C0]at z;obtain⟨E,u⟩: ∃E,p+n=E:=⟨_,rfl⟩;have t:=D_ (fun (W:World) (g:Nat) (h:Ks W g [1,2,3])=>by
  have:=R4 s p [1,2,3] g W B (by omega) h (by decide) (by decide);rw [amongW,l,u]at this;exact this)
 have F:(p:Int)<(E:Int):=by omega
 have G:(E:Int)<=(s.size:Int):=by omega
 have k:G0 (s.data.toList.drop p)=if V2 1 n=true then lx0 else⟨1,(s.data.toList.drop p).take n,0,n⟩:=by
  have h:G0 (s.data.toList.drop p)=V1 (Bq 1 (s.data.toList.drop p)):=by
   rw [j];unfold G0;dsimp only;rw [hc,I_ (by decide),J_ rfl]
  rw [h];unfold Bq;rw [Zj 1 X2 N9,l];exact long_if (.inl rfl) _
 have C:=D_ (fun o:Obj=>(F_ w.heap.size w).alloc (R_ _) o);have r:=D_ (fun W=>l6 s p 1 E W B (by omega) (by omega));have b:=i6 (s:=s) (gl:=gl) u y (by decide) k (s5 gl (show(1:Int)≠6 by decide));generalize (!V2 1 (E-p))=ok at*;have q:=D_ b;clear b;clear j hc k l u;go_enter Tryz.func84,Tryz.ntmps84;go_wp2_with fail;refine(D.out _).mono ?_;rintro e w0 ⟨rfl,rfl⟩;go_wp2_with fail;generalize a:w.alloc (.cells #[.int .i64 0,.string ⟨#[]⟩,.int .i64 0,.int .i64 0] 96)=W0;have kz:W0.heap[w.heap.size]?=some (.cells #[.int .i64 0,.string ⟨#[]⟩,.int .i64 0,.int .i64 0] 96):=by rw [<-a];exact S0 w _
 have i:Below w.heap.size w W0:=by rw [<-a];exact C.out _
 have m:W0.heap.size=w.heap.size+1:=by rw [<-a];simp
 rw [<-m];refine(t.out _ _ (tJ W0 3 1 2 3)).mono ?_;rintro e w8 ⟨rfl,rfl⟩;have kz8:=j1 kz (.cells #[.int .i64 1,.int .i64 2,.int .i64 3] 3);have c:=i.alloc i.size (.cells #[.int .i64 1,.int .i64 2,.int .i64 3] 3);generalize W0.alloc (.cells #[.int .i64 1,.int .i64 2,.int .i64 3] 3)=w8 at*;clear a kz i m;go_wp2_with fail;refine(r.out _).mono ?_;rintro e w9 ⟨rfl,d⟩;have kz9:=K0 d kz8;have x:=c.trans (d.mono c.size);have H:w.heap.size<w9.heap.size:=(Array.getElem?_eq_some_iff.1 kz9).1;obtain⟨c0,c1,c2,c3,f0,f1,f2,f3⟩:=P0 kz9;clear kz8 kz9 c d;go_wp2_with fail;refine B_ (v:=.tuple #[.agg #[.int .i64 1,.string (s.extract p E),.int .i64 0,.int .i64 (p:Nat)],.int .i64 (E:Nat),.bool ok]) (by simp [results,Tryz.results84,go_sem,c0,c1,c2,c3]) rfl ⟨q.out,?_⟩;exact F0 x (R_ _) _ _ _ _
set_option maxRecDepth 100000 in
theorem tok_c2 (s:ByteArray) (p:Nat) (gl:Bool) (w:World) (B:s.size<=200000) (A:p<s.size) (hc:cls (s[p].toNat:Int)=2):
 Calls Tryz.prog 84 #[.string s,.int .i64 (p:Nat),.bool gl] w fun e w'=>Q3 (s.data.toList.drop p) p gl e/\Below w.heap.size w w':=by
 have j:=Q0 s p A;have I:(0:Int)<=(p:Int):=by omega
 have J:(p:Int)<(s.size:Int):=by omega
 have D:=D_ (fun W=>by
  have:=K1 s p W (by omega);rw [U3 s p A,hc]at this;exact this)
 obtain⟨n,l⟩: ∃n,O0 X2 (s.data.toList.drop p)=n:=⟨_,rfl⟩;have y:n≠0:=by rw [<-l,j];exact Nat.pos_iff_ne_zero.1 (Y2 _ _ _ (by unfold X2;rw [hc];decide))
 have z:=F1 X2 (s.data.toList.drop p);rw [l,List.length_drop,C0]at z;obtain⟨E,u⟩: ∃E,p+n=E:=⟨_,rfl⟩;have t:=D_ (fun (W:World) (g:Nat) (h:Ks W g [1,2,3])=>by
  have:=R4 s p [1,2,3] g W B (by omega) h (by decide) (by decide);rw [amongW,l,u]at this;exact this)
 have F:(p:Int)<(E:Int):=by omega
 have G:(E:Int)<=(s.size:Int):=by omega
 have k:G0 (s.data.toList.drop p)=if V2 4 n=true then lx0 else⟨4,(s.data.toList.drop p).take n,0,n⟩:=by
  have h:G0 (s.data.toList.drop p)=Bq 4 (s.data.toList.drop p):=by
   rw [j];unfold G0;dsimp only;rw [hc,I_ (by decide),I_ (by decide),J_ rfl]
  rw [h,long_no 4 n (by decide) (by decide),I_ (by decide)];unfold Bq;rw [l]
 have C:=D_ (fun o:Obj=>(F_ w.heap.size w).alloc (R_ _) o);have r:=D_ (fun W=>l6 s p 4 E W B (by omega) (by omega));have b:=i6 (s:=s) (gl:=gl) u y (by decide) k (s5 gl (show(4:Int)≠6 by decide));generalize (!V2 4 (E-p))=ok at*;have q:=D_ b;clear b;clear j hc k l u;go_enter Tryz.func84,Tryz.ntmps84;go_wp2_with fail;refine(D.out _).mono ?_;rintro e w0 ⟨rfl,rfl⟩;go_wp2_with fail;generalize a:w.alloc (.cells #[.int .i64 0,.string ⟨#[]⟩,.int .i64 0,.int .i64 0] 96)=W0;have kz:W0.heap[w.heap.size]?=some (.cells #[.int .i64 0,.string ⟨#[]⟩,.int .i64 0,.int .i64 0] 96):=by rw [<-a];exact S0 w _
 have i:Below w.heap.size w W0:=by rw [<-a];exact C.out _
 have m:W0.heap.size=w.heap.size+1:=by rw [<-a];simp
 rw [<-m];refine(t.out _ _ (tJ W0 3 1 2 3)).mono ?_;rintro e w8 ⟨rfl,rfl⟩;have kz8:=j1 kz (.cells #[.int .i64 1,.int .i64 2,.int .i64 3] 3);have c:=i.alloc i.size (.cells #[.int .i64 1,.int .i64 2,.int .i64 3] 3);generalize W0.alloc (.cells #[.int .i64 1,.int .i64 2,.int .i64 3] 3)=w8 at*;clear a kz i m;go_wp2_with fail;refine(r.out _).mono ?_;rintro e w9 ⟨rfl,d⟩;have kz9:=K0 d kz8;have x:=c.trans (d.mono c.size);have H:w.heap.size<w9.heap.size:=(Array.getElem?_eq_some_iff.1 kz9).1;obtain⟨c0,c1,c2,c3,f0,f1,f2,f3⟩:=P0 kz9;clear kz8 kz9 c d;go_wp2_with fail;refine B_ (v:=.tuple #[.agg #[.int .i64 4,.string (s.extract p E),.int .i64 0,.int .i64 (p:Nat)],.int .i64 (E:Nat),.bool ok]) (by simp [results,Tryz.results84,go_sem,c0,c1,c2,c3]) rfl ⟨q.out,?_⟩;exact F0 x (R_ _) _ _ _ _
set_option maxRecDepth 100000 in
theorem tok_c6a (s:ByteArray) (p:Nat) (gl:Bool) (w:World) (y:s.size<=200000) (t:p<s.size) (hc:cls (s[p].toNat:Int)=6) (q:s[p]=33):
 Calls Tryz.prog 84 #[.string s,.int .i64 (p:Nat),.bool gl] w fun e w'=>Q3 (s.data.toList.drop p) p gl e/\Below w.heap.size w w':=by
 have d:=Q0 s p t;have A:(0:Int)<=(p:Int):=by omega
 have B:(p:Int)<(s.size:Int):=by omega
 have x:=D_ (fun W=>by
  have:=K1 s p W (by omega);rw [U3 s p t,hc]at this;exact this)
 have f33:((s[p].toNat:Int)==33)=true:=(E1 s[p] 33).trans (decide_eq_true q);have h:(s.data.toList.drop p).take 1= [s[p]]:=by rw [d];rfl
 have g:G0 (s.data.toList.drop p)=if V2 1 1=true then lx0 else⟨1,(s.data.toList.drop p).take 1,0,1⟩:=by
  rw [show V2 1 1=false from by decide,I_ (by decide),h,d];unfold G0;dsimp only;rw [hc,I_ (by decide),I_ (by decide),I_ (by decide),I_ (by decide),I_ (by decide),I_ (by decide),J_ (by decide)];unfold G4;rw [J_ (.inl q)]
 obtain⟨E,m⟩: ∃E,p+1=E:=⟨_,rfl⟩;have l:=D_ (show((p:Int)+1)=(E:Int) by omega);have u:=D_ (fun o:Obj=>(F_ w.heap.size w).alloc (R_ _) o);have j:=D_ (fun W=>by
  have:=l6 s p 1 E W y (by omega) (by omega);rw [<-l.out]at this;exact this)
 have a:=i6 (s:=s) (gl:=gl) (n:=1) (k:=1) m (by decide) (by decide) g (by rw [h];exact s5 gl (show(1:Int)≠6 by decide));rw [<-l.out]at a;generalize (!V2 1 (E-p))=ok at*;have i:=D_ a;have C:(p:Int)+1<=(s.size:Int):=by omega
 clear a d hc h g m;go_enter Tryz.func84,Tryz.ntmps84;go_wp2_with fail;refine(x.out _).mono ?_;rintro e w0 ⟨rfl,rfl⟩;go_wp2_with fail;have kz8:=S0 w (.cells #[.int .i64 0,.string ⟨#[]⟩,.int .i64 0,.int .i64 0] 96);have b:=u.out (.cells #[.int .i64 0,.string ⟨#[]⟩,.int .i64 0,.int .i64 0] 96);generalize w.alloc (.cells #[.int .i64 0,.string ⟨#[]⟩,.int .i64 0,.int .i64 0] 96)=w8 at*;refine(j.out _).mono ?_;rintro e w9 ⟨rfl,c⟩;have kz9:=K0 c kz8;have r:=b.trans (c.mono b.size);have z:w.heap.size<w9.heap.size:=(Array.getElem?_eq_some_iff.1 kz9).1;obtain⟨c0,c1,c2,c3,f0,f1,f2,f3⟩:=P0 kz9;clear kz8 kz9 b c;go_wp2_with fail;refine B_ (v:=.tuple #[.agg #[.int .i64 1,.string (s.extract p E),.int .i64 0,.int .i64 (p:Nat)],.int .i64 ((p:Int)+1),.bool ok]) (by simp [results,Tryz.results84,go_sem,c0,c1,c2,c3]) rfl ⟨i.out,?_⟩;exact F0 r (R_ _) _ _ _ _
set_option maxRecDepth 100000 in
theorem tok_c6b (s:ByteArray) (p:Nat) (gl:Bool) (w:World) (z:s.size<=200000) (t:p<s.size) (hc:cls (s[p].toNat:Int)=6) (y:s[p]≠33) (i:s[p]=59):
 Calls Tryz.prog 84 #[.string s,.int .i64 (p:Nat),.bool gl] w fun e w'=>Q3 (s.data.toList.drop p) p gl e/\Below w.heap.size w w':=by
 have d:=Q0 s p t;have B:(0:Int)<=(p:Int):=by omega
 have C:(p:Int)<(s.size:Int):=by omega
 have x:=D_ (fun W=>by
  have:=K1 s p W (by omega);rw [U3 s p t,hc]at this;exact this)
 have f33:((s[p].toNat:Int)==33)=false:=(E1 s[p] 33).trans (decide_eq_false y);have f59:((s[p].toNat:Int)==59)=true:=(E1 s[p] 59).trans (decide_eq_true i);have h:(s.data.toList.drop p).take 1= [s[p]]:=by rw [d];rfl
 have g:G0 (s.data.toList.drop p)=if V2 1 1=true then lx0 else⟨1,(s.data.toList.drop p).take 1,0,1⟩:=by
  rw [show V2 1 1=false from by decide,I_ (by decide),h,d];unfold G0;dsimp only;rw [hc,I_ (by decide),I_ (by decide),I_ (by decide),I_ (by decide),I_ (by decide),I_ (by decide),J_ (by decide)];unfold G4;rw [J_ (.inr i)]
 obtain⟨E,q⟩: ∃E,p+1=E:=⟨_,rfl⟩;have m:=D_ (show((p:Int)+1)=(E:Int) by omega);have u:=D_ (fun o:Obj=>(F_ w.heap.size w).alloc (R_ _) o);have l:=D_ (fun W=>by
  have:=l6 s p 1 E W z (by omega) (by omega);rw [<-m.out]at this;exact this)
 have a:=i6 (s:=s) (gl:=gl) (n:=1) (k:=1) q (by decide) (by decide) g (by rw [h];exact s5 gl (show(1:Int)≠6 by decide));rw [<-m.out]at a;generalize (!V2 1 (E-p))=ok at*;have j:=D_ a;have D:(p:Int)+1<=(s.size:Int):=by omega
 clear a d hc h g q;go_enter Tryz.func84,Tryz.ntmps84;go_wp2_with fail;refine(x.out _).mono ?_;rintro e w0 ⟨rfl,rfl⟩;go_wp2_with fail;have kz8:=S0 w (.cells #[.int .i64 0,.string ⟨#[]⟩,.int .i64 0,.int .i64 0] 96);have b:=u.out (.cells #[.int .i64 0,.string ⟨#[]⟩,.int .i64 0,.int .i64 0] 96);generalize w.alloc (.cells #[.int .i64 0,.string ⟨#[]⟩,.int .i64 0,.int .i64 0] 96)=w8 at*;refine(l.out _).mono ?_;rintro e w9 ⟨rfl,c⟩;have kz9:=K0 c kz8;have r:=b.trans (c.mono b.size);have A:w.heap.size<w9.heap.size:=(Array.getElem?_eq_some_iff.1 kz9).1;obtain⟨c0,c1,c2,c3,f0,f1,f2,f3⟩:=P0 kz9;clear kz8 kz9 b c;go_wp2_with fail;refine B_ (v:=.tuple #[.agg #[.int .i64 1,.string (s.extract p E),.int .i64 0,.int .i64 (p:Nat)],.int .i64 ((p:Int)+1),.bool ok]) (by simp [results,Tryz.results84,go_sem,c0,c1,c2,c3]) rfl ⟨j.out,?_⟩;exact F0 r (R_ _) _ _ _ _
set_option maxRecDepth 100000 in
theorem tok_c6c (s:ByteArray) (p:Nat) (gl:Bool) (w:World) (B:s.size<=200000) (y:p<s.size) (hc:cls (s[p].toNat:Int)=6) (t:s[p]≠33) (j:s[p]≠59) (u:s[p]≠40):
 Calls Tryz.prog 84 #[.string s,.int .i64 (p:Nat),.bool gl] w fun e w'=>Q3 (s.data.toList.drop p) p gl e/\Below w.heap.size w w':=by
 have d:=Q0 s p y;have D:(0:Int)<=(p:Int):=by omega
 have F:(p:Int)<(s.size:Int):=by omega
 have A:=D_ (fun W=>by
  have:=K1 s p W (by omega);rw [U3 s p y,hc]at this;exact this)
 have f33:((s[p].toNat:Int)==33)=false:=(E1 s[p] 33).trans (decide_eq_false t);have f59:((s[p].toNat:Int)==59)=false:=(E1 s[p] 59).trans (decide_eq_false j);have i:(s.data.toList.drop p).take 1= [s[p]]:=by rw [d];rfl
 have g:G0 (s.data.toList.drop p)=if V2 6 1=true then lx0 else⟨6,(s.data.toList.drop p).take 1,0,1⟩:=by
  rw [show V2 6 1=false from by decide,I_ (by decide),i,d];unfold G0;dsimp only;rw [hc,I_ (by decide),I_ (by decide),I_ (by decide),I_ (by decide),I_ (by decide),I_ (by decide),J_ (by decide)];unfold G4;rw [I_ (by rintro(h|h);exact t h;exact j h)]
 obtain⟨E,r⟩: ∃E,p+1=E:=⟨_,rfl⟩;have q:=D_ (show((p:Int)+1)=(E:Int) by omega);have z:=D_ (fun o:Obj=>(F_ w.heap.size w).alloc (R_ _) o);have m:=D_ (fun W=>by
  have:=l6 s p 6 E W B (by omega) (by omega);rw [<-q.out]at this;exact this)
 have a:=i6 (s:=s) (gl:=gl) (n:=1) (k:=6) r (by decide) (by decide) g (by rw [i];unfold A3;rw [I_];rintro⟨_,h,_⟩;injection h with h _;exact u h);rw [<-q.out]at a;generalize (!V2 6 (E-p))=ok at*;have l:=D_ a;have G:(p:Int)+1<=(s.size:Int):=by omega
 clear a d hc i g r;go_enter Tryz.func84,Tryz.ntmps84;go_wp2_with fail;refine(A.out _).mono ?_;rintro e w0 ⟨rfl,rfl⟩;go_wp2_with fail;have kz8:=S0 w (.cells #[.int .i64 0,.string ⟨#[]⟩,.int .i64 0,.int .i64 0] 96);have b:=z.out (.cells #[.int .i64 0,.string ⟨#[]⟩,.int .i64 0,.int .i64 0] 96);generalize w.alloc (.cells #[.int .i64 0,.string ⟨#[]⟩,.int .i64 0,.int .i64 0] 96)=w8 at*;refine(m.out _).mono ?_;rintro e w9 ⟨rfl,c⟩;have kz9:=K0 c kz8;have x:=b.trans (c.mono b.size);have C:w.heap.size<w9.heap.size:=(Array.getElem?_eq_some_iff.1 kz9).1;obtain⟨c0,c1,c2,c3,f0,f1,f2,f3⟩:=P0 kz9;clear kz8 kz9 b c;go_wp2_with fail;refine B_ (v:=.tuple #[.agg #[.int .i64 6,.string (s.extract p E),.int .i64 0,.int .i64 (p:Nat)],.int .i64 ((p:Int)+1),.bool ok]) (by simp [results,Tryz.results84,go_sem,c0,c1,c2,c3]) rfl ⟨l.out,?_⟩;exact F0 x (R_ _) _ _ _ _
set_option maxRecDepth 100000 in
theorem tok_c7a (s:ByteArray) (p:Nat) (gl:Bool) (w:World) (B:s.size<=200000) (x:p<s.size) (hc:cls (s[p].toNat:Int)=7) (A:s[p]≠33) (t:s[p]≠59) (j:s[p]≠40):
 Calls Tryz.prog 84 #[.string s,.int .i64 (p:Nat),.bool gl] w fun e w'=>Q3 (s.data.toList.drop p) p gl e/\Below w.heap.size w w':=by
 have d:=Q0 s p x;have D:(0:Int)<=(p:Int):=by omega
 have F:(p:Int)<(s.size:Int):=by omega
 have z:=D_ (fun W=>by
  have:=K1 s p W (by omega);rw [U3 s p x,hc]at this;exact this)
 have f40:((s[p].toNat:Int)==40)=false:=(E1 s[p] 40).trans (decide_eq_false j);have i:(s.data.toList.drop p).take 1= [s[p]]:=by rw [d];rfl
 have g:G0 (s.data.toList.drop p)=if V2 6 1=true then lx0 else⟨6,(s.data.toList.drop p).take 1,0,1⟩:=by
  rw [show V2 6 1=false from by decide,I_ (by decide),i,d];unfold G0;dsimp only;rw [hc,I_ (by decide),I_ (by decide),I_ (by decide),I_ (by decide),I_ (by decide),I_ (by decide),J_ (by decide)];unfold G4;rw [I_ (by rintro(h|h);exact A h;exact t h)]
 obtain⟨E,r⟩: ∃E,p+1=E:=⟨_,rfl⟩;have q:=D_ (show((p:Int)+1)=(E:Int) by omega);have y:=D_ (fun o:Obj=>(F_ w.heap.size w).alloc (R_ _) o);have m:=D_ (fun W=>by
  have:=l6 s p 6 E W B (by omega) (by omega);rw [<-q.out]at this;exact this)
 have a:=i6 (s:=s) (gl:=gl) (n:=1) (k:=6) r (by decide) (by decide) g (by rw [i];unfold A3;rw [I_];rintro⟨_,h,_⟩;injection h with h _;exact j h);rw [<-q.out]at a;generalize (!V2 6 (E-p))=ok at*;have l:=D_ a;have G:(p:Int)+1<=(s.size:Int):=by omega
 clear a d hc i g r;go_enter Tryz.func84,Tryz.ntmps84;go_wp2_with fail;refine(z.out _).mono ?_;rintro e w0 ⟨rfl,rfl⟩;go_wp2_with fail;have kz8:=S0 w (.cells #[.int .i64 0,.string ⟨#[]⟩,.int .i64 0,.int .i64 0] 96);have b:=y.out (.cells #[.int .i64 0,.string ⟨#[]⟩,.int .i64 0,.int .i64 0] 96);generalize w.alloc (.cells #[.int .i64 0,.string ⟨#[]⟩,.int .i64 0,.int .i64 0] 96)=w8 at*;refine(m.out _).mono ?_;rintro e w9 ⟨rfl,c⟩;have kz9:=K0 c kz8;have u:=b.trans (c.mono b.size);have C:w.heap.size<w9.heap.size:=(Array.getElem?_eq_some_iff.1 kz9).1;obtain⟨c0,c1,c2,c3,f0,f1,f2,f3⟩:=P0 kz9;clear kz8 kz9 b c;go_wp2_with fail;refine B_ (v:=.tuple #[.agg #[.int .i64 6,.string (s.extract p E),.int .i64 0,.int .i64 (p:Nat)],.int .i64 ((p:Int)+1),.bool ok]) (by simp [results,Tryz.results84,go_sem,c0,c1,c2,c3]) rfl ⟨l.out,?_⟩;exact F0 u (R_ _) _ _ _ _
set_option maxRecDepth 100000 in
theorem tok_c7b (s:ByteArray) (p:Nat) (gl:Bool) (w:World) (C:s.size<=200000) (y:p<s.size) (hc:cls (s[p].toNat:Int)=7) (B:s[p]≠33) (r:s[p]≠59) (t:s[p]=40) (x:gl=false):
 Calls Tryz.prog 84 #[.string s,.int .i64 (p:Nat),.bool gl] w fun e w'=>Q3 (s.data.toList.drop p) p gl e/\Below w.heap.size w w':=by
 have d:=Q0 s p y;have F:(0:Int)<=(p:Int):=by omega
 have G:(p:Int)<(s.size:Int):=by omega
 have A:=D_ (fun W=>by
  have:=K1 s p W (by omega);rw [U3 s p y,hc]at this;exact this)
 have f40:((s[p].toNat:Int)==40)=true:=(E1 s[p] 40).trans (decide_eq_true t);have i:(s.data.toList.drop p).take 1= [s[p]]:=by rw [d];rfl
 have g:G0 (s.data.toList.drop p)=if V2 6 1=true then lx0 else⟨6,(s.data.toList.drop p).take 1,0,1⟩:=by
  rw [show V2 6 1=false from by decide,I_ (by decide),i,d];unfold G0;dsimp only;rw [hc,I_ (by decide),I_ (by decide),I_ (by decide),I_ (by decide),I_ (by decide),I_ (by decide),J_ (by decide)];unfold G4;rw [I_ (by rintro(h|h);exact B h;exact r h)]
 obtain⟨E,q⟩: ∃E,p+1=E:=⟨_,rfl⟩;have m:=D_ (show((p:Int)+1)=(E:Int) by omega);have z:=D_ (fun o:Obj=>(F_ w.heap.size w).alloc (R_ _) o);have l:=D_ (fun W=>by
  have:=l6 s p 6 E W C (by omega) (by omega);rw [<-m.out]at this;exact this)
 have a:=i6 (s:=s) (gl:=gl) (n:=1) (k:=6) q (by decide) (by decide) g (by rw [i];unfold A3;rw [I_];rintro⟨h,_⟩;rw [x]at h;cases h);rw [<-m.out]at a;generalize (!V2 6 (E-p))=ok at*;have j:=D_ a;have H:(p:Int)+1<=(s.size:Int):=by omega
 subst x;clear a d hc i g q;go_enter Tryz.func84,Tryz.ntmps84;go_wp2_with fail;refine(A.out _).mono ?_;rintro e w0 ⟨rfl,rfl⟩;go_wp2_with fail;have kz8:=S0 w (.cells #[.int .i64 0,.string ⟨#[]⟩,.int .i64 0,.int .i64 0] 96);have b:=z.out (.cells #[.int .i64 0,.string ⟨#[]⟩,.int .i64 0,.int .i64 0] 96);generalize w.alloc (.cells #[.int .i64 0,.string ⟨#[]⟩,.int .i64 0,.int .i64 0] 96)=w8 at*;refine(l.out _).mono ?_;rintro e w9 ⟨rfl,c⟩;have kz9:=K0 c kz8;have u:=b.trans (c.mono b.size);have D:w.heap.size<w9.heap.size:=(Array.getElem?_eq_some_iff.1 kz9).1;obtain⟨c0,c1,c2,c3,f0,f1,f2,f3⟩:=P0 kz9;clear kz8 kz9 b c;go_wp2_with fail;refine B_ (v:=.tuple #[.agg #[.int .i64 6,.string (s.extract p E),.int .i64 0,.int .i64 (p:Nat)],.int .i64 ((p:Int)+1),.bool ok]) (by simp [results,Tryz.results84,go_sem,c0,c1,c2,c3]) rfl ⟨j.out,?_⟩;exact F0 u (R_ _) _ _ _ _
set_option maxRecDepth 100000 in
theorem tok_c7c (s:ByteArray) (p:Nat) (gl:Bool) (w:World) (C:s.size<=200000) (y:p<s.size) (hc:cls (s[p].toNat:Int)=7) (B:s[p]≠33) (t:s[p]≠59) (j:s[p]=40) (x:gl=true):
 Calls Tryz.prog 84 #[.string s,.int .i64 (p:Nat),.bool gl] w fun e w'=>Q3 (s.data.toList.drop p) p gl e/\Below w.heap.size w w':=by
 have d:=Q0 s p y;have F:(0:Int)<=(p:Int):=by omega
 have G:(p:Int)<(s.size:Int):=by omega
 have A:=D_ (fun W=>by
  have:=K1 s p W (by omega);rw [U3 s p y,hc]at this;exact this)
 have f40:((s[p].toNat:Int)==40)=true:=(E1 s[p] 40).trans (decide_eq_true j);have i:(s.data.toList.drop p).take 1= [s[p]]:=by rw [d];rfl
 have g:G0 (s.data.toList.drop p)=if V2 7 1=true then lx0 else⟨6,(s.data.toList.drop p).take 1,0,1⟩:=by
  rw [show V2 7 1=false from by decide,I_ (by decide),i,d];unfold G0;dsimp only;rw [hc,I_ (by decide),I_ (by decide),I_ (by decide),I_ (by decide),I_ (by decide),I_ (by decide),J_ (by decide)];unfold G4;rw [I_ (by rintro(h|h);exact B h;exact t h)]
 obtain⟨E,r⟩: ∃E,p+1=E:=⟨_,rfl⟩;have q:=D_ (show((p:Int)+1)=(E:Int) by omega);have z:=D_ (fun o:Obj=>(F_ w.heap.size w).alloc (R_ _) o);have m:=D_ (fun W=>by
  have:=l6 s p 7 E W C (by omega) (by omega);rw [<-q.out]at this;exact this)
 have a:=i6 (s:=s) (gl:=gl) (n:=1) (k:=7) r (by decide) (by decide) g (by rw [i];unfold A3;rw [J_ ⟨x,by rw [j],rfl⟩]);rw [<-q.out]at a;generalize (!V2 7 (E-p))=ok at*;have l:=D_ a;have H:(p:Int)+1<=(s.size:Int):=by omega
 subst x;clear a d hc i g r;go_enter Tryz.func84,Tryz.ntmps84;go_wp2_with fail;refine(A.out _).mono ?_;rintro e w0 ⟨rfl,rfl⟩;go_wp2_with fail;have kz8:=S0 w (.cells #[.int .i64 0,.string ⟨#[]⟩,.int .i64 0,.int .i64 0] 96);have b:=z.out (.cells #[.int .i64 0,.string ⟨#[]⟩,.int .i64 0,.int .i64 0] 96);generalize w.alloc (.cells #[.int .i64 0,.string ⟨#[]⟩,.int .i64 0,.int .i64 0] 96)=w8 at*;refine(m.out _).mono ?_;rintro e w9 ⟨rfl,c⟩;have kz9:=K0 c kz8;have u:=b.trans (c.mono b.size);have D:w.heap.size<w9.heap.size:=(Array.getElem?_eq_some_iff.1 kz9).1;obtain⟨c0,c1,c2,c3,f0,f1,f2,f3⟩:=P0 kz9;clear kz8 kz9 b c;go_wp2_with fail;refine B_ (v:=.tuple #[.agg #[.int .i64 7,.string (s.extract p E),.int .i64 0,.int .i64 (p:Nat)],.int .i64 ((p:Int)+1),.bool ok]) (by simp [results,Tryz.results84,go_sem,c0,c1,c2,c3]) rfl ⟨l.out,?_⟩;exact F0 u (R_ _) _ _ _ _
set_option maxRecDepth 100000 in
theorem tok_c8a (s:ByteArray) (p:Nat) (gl:Bool) (w:World) (A:s.size<=200000) (q:p<s.size) (hc:cls (s[p].toNat:Int)=8) (m:TabsT w) (l:N3 (s.data.toList.drop p)=none):
 Calls Tryz.prog 84 #[.string s,.int .i64 (p:Nat),.bool gl] w fun e w'=>Q3 (s.data.toList.drop p) p gl e/\Below w.heap.size w w':=by
 have i:=Q0 s p q;have y:(0:Int)<=(p:Int):=by omega
 have z:(p:Int)<(s.size:Int):=by omega
 have t:=D_ (fun W=>by
  have:=K1 s p W (by omega);rw [U3 s p q,hc]at this;exact this)
 have d:G0 (s.data.toList.drop p)=V1 (Q4 (s.data.toList.drop p)):=by
  rw [i];unfold G0;dsimp only;rw [hc,I_ (by decide),I_ (by decide),I_ (by decide),I_ (by decide),I_ (by decide),J_ rfl]
 have j:(s.extract p s.size).data.toList=s.data.toList.drop p:=by rw [S6]
 have u:=D_ m;have a:=fun W (h:TabsT W)=>mQ (s.extract p s.size) W (by rw [ByteArray.size_extract];omega) h.1;rw [j]at a;have r:=D_ (fun o:Obj=>(F_ w.heap.size w).alloc (R_ _) o);obtain⟨r1,r2,r3⟩:=P5 l;rw [r1,r2,r3]at a;have k:Hid (Q3 (s.data.toList.drop p) p gl (.returned (.tuple #[.agg #[.int .i64 0,.string ⟨#[]⟩,.int .i64 0,.int .i64 0],.int .i64 0,.bool false]))):=D_ (by
  refine⟨0,0,0,⟨#[]⟩,0,false,rfl,?_,fun h=>by cases h⟩;rw [d];unfold Q4;rw [l];rfl)
 clear l r1 r2 r3;have g:=D_ a;clear i hc d j a m;go_enter Tryz.func84,Tryz.ntmps84;go_wp2_with fail;refine(t.out _).mono ?_;rintro e w0 ⟨rfl,rfl⟩;go_wp2_with fail;have kz8:=S0 w (.cells #[.int .i64 0,.string ⟨#[]⟩,.int .i64 0,.int .i64 0] 96);have b:=r.out (.cells #[.int .i64 0,.string ⟨#[]⟩,.int .i64 0,.int .i64 0] 96);generalize w.alloc (.cells #[.int .i64 0,.string ⟨#[]⟩,.int .i64 0,.int .i64 0] 96)=w8 at*;refine(g.out _ (u.out.on b)).mono ?_;rintro e w9 ⟨rfl,c⟩;have kz9:=K0 c kz8;have n:=b.trans (c.mono b.size);have x:w.heap.size<w9.heap.size:=(Array.getElem?_eq_some_iff.1 kz9).1;obtain⟨c0,c1,c2,c3,f0,f1,f2,f3⟩:=P0 kz9;clear kz8 kz9 b c;go_wp2_with fail;refine B_ (v:=.tuple #[.agg #[.int .i64 0,.string ⟨#[]⟩,.int .i64 0,.int .i64 0],.int .i64 0,.bool false]) (by simp [results,Tryz.results84,go_sem,c0,c1,c2,c3]) rfl ⟨k.out,?_⟩;exact F0 n (R_ _) _ _ _ _
set_option maxRecDepth 100000 in
theorem tok_c8b (s:ByteArray) (p:Nat) (gl:Bool) (w:World) (F:s.size<=200000) (x:p<s.size) (hc:cls (s[p].toNat:Int)=8) (q:TabsT w) (t:List UInt8) (k:Nat) (n:N3 (s.data.toList.drop p)=some (t,k)) (i:255<t.length):
 Calls Tryz.prog 84 #[.string s,.int .i64 (p:Nat),.bool gl] w fun e w'=>Q3 (s.data.toList.drop p) p gl e/\Below w.heap.size w w':=by
 have j:=Q0 s p x;have D:(0:Int)<=(p:Int):=by omega
 have E:(p:Int)<(s.size:Int):=by omega
 have z:=D_ (fun W=>by
  have:=K1 s p W (by omega);rw [U3 s p x,hc]at this;exact this)
 have d:G0 (s.data.toList.drop p)=V1 (Q4 (s.data.toList.drop p)):=by
  rw [j];unfold G0;dsimp only;rw [hc,I_ (by decide),I_ (by decide),I_ (by decide),I_ (by decide),I_ (by decide),J_ rfl]
 have l:(s.extract p s.size).data.toList=s.data.toList.drop p:=by rw [S6]
 have A:=D_ q;have a:=fun W (h:TabsT W)=>mQ (s.extract p s.size) W (by rw [ByteArray.size_extract];omega) h.1;rw [l]at a;have y:=D_ (fun o:Obj=>(F_ w.heap.size w).alloc (R_ _) o);obtain⟨r1,r2,r3⟩:=D7 n;rw [r1,r2,r3]at a;have m:Hid (Q3 (s.data.toList.drop p) p gl (.returned (.tuple #[.agg #[.int .i64 0,.string ⟨#[]⟩,.int .i64 0,.int .i64 0],.int .i64 0,.bool false]))):=D_ (by
  have B:G0 (s.data.toList.drop p)=lx0:=by
   rw [d];unfold Q4;rw [n];unfold V1 K2;dsimp only;rw [decide_eq_false (show¬t.length<=255 by omega),Bool.false_and,I_ (by decide)]
  refine⟨0,0,0,⟨#[]⟩,0,false,rfl,?_,fun h=>by cases h⟩;rw [B];rfl)
 have G:(255:Int)<((⟨t.toArray⟩:ByteArray).size:Int):=by rw [Lq];omega
 generalize (⟨t.toArray⟩:ByteArray)=u at*;clear n r1 r2 r3 i;have g:=D_ a;clear j hc d l a q;go_enter Tryz.func84,Tryz.ntmps84;go_wp2_with fail;refine(z.out _).mono ?_;rintro e w0 ⟨rfl,rfl⟩;go_wp2_with fail;have kz8:=S0 w (.cells #[.int .i64 0,.string ⟨#[]⟩,.int .i64 0,.int .i64 0] 96);have b:=y.out (.cells #[.int .i64 0,.string ⟨#[]⟩,.int .i64 0,.int .i64 0] 96);generalize w.alloc (.cells #[.int .i64 0,.string ⟨#[]⟩,.int .i64 0,.int .i64 0] 96)=w8 at*;refine(g.out _ (A.out.on b)).mono ?_;rintro e w9 ⟨rfl,c⟩;have kz9:=K0 c kz8;have r:=b.trans (c.mono b.size);have C:w.heap.size<w9.heap.size:=(Array.getElem?_eq_some_iff.1 kz9).1;obtain⟨c0,c1,c2,c3,f0,f1,f2,f3⟩:=P0 kz9;clear kz8 kz9 b c;go_wp2_with fail;refine B_ (v:=.tuple #[.agg #[.int .i64 0,.string ⟨#[]⟩,.int .i64 0,.int .i64 0],.int .i64 0,.bool false]) (by simp [results,Tryz.results84,go_sem,c0,c1,c2,c3]) rfl ⟨m.out,?_⟩;exact F0 r (R_ _) _ _ _ _
set_option maxRecDepth 100000 in
theorem tok_c8c (s:ByteArray) (p:Nat) (gl:Bool) (w:World) (N:s.size<=200000) (B:p<s.size) (hc:cls (s[p].toNat:Int)=8) (y:TabsT w) (t:List UInt8) (k:Nat) (j:N3 (s.data.toList.drop p)=some (t,k)) (a:t.length<=255):
 Calls Tryz.prog 84 #[.string s,.int .i64 (p:Nat),.bool gl] w fun e w'=>Q3 (s.data.toList.drop p) p gl e/\Below w.heap.size w w':=by
 have l:=Q0 s p B;have J:(0:Int)<=(p:Int):=by omega
 have M:(p:Int)<(s.size:Int):=by omega
 have E:=D_ (fun W=>by
  have:=K1 s p W (by omega);rw [U3 s p B,hc]at this;exact this)
 have g:G0 (s.data.toList.drop p)=V1 (Q4 (s.data.toList.drop p)):=by
  rw [l];unfold G0;dsimp only;rw [hc,I_ (by decide),I_ (by decide),I_ (by decide),I_ (by decide),I_ (by decide),J_ rfl]
 have m:(s.extract p s.size).data.toList=s.data.toList.drop p:=by rw [S6]
 have F:=D_ y;have b:=fun W (h:TabsT W)=>mQ (s.extract p s.size) W (by rw [ByteArray.size_extract];omega) h.1;rw [m]at b;have D:=D_ (fun o:Obj=>(F_ w.heap.size w).alloc (R_ _) o);obtain⟨r1,r2,r3⟩:=D7 j;rw [r1,r2,r3]at b;obtain⟨C,A,n⟩:=wZ _ _ _ j;rw [List.length_drop,C0]at n;have r:G0 (s.data.toList.drop p)=⟨2,t,0,k⟩:=by
  rw [g];unfold Q4;rw [j];unfold V1 K2;dsimp only;rw [decide_eq_true a,C];rfl
 have q:Hid (Q3 (s.data.toList.drop p) p gl (.returned (.tuple #[.agg #[.int .i64 2,.string ⟨t.toArray⟩,.int .i64 0,.int .i64 (p:Nat)],.int .i64 ((p:Int)+(k:Int)),.bool true]))):=D_ (by
  refine⟨2,0,(p:Nat),⟨t.toArray⟩,p+k,true,rfl,?_,fun _=>?_⟩
  · rw [r];symm
    exact decide_eq_true (show k≠0 by omega)
  · rw [r];exact⟨show(2:Int)≠0 by decide,(s5 (x:=⟨2,t,0,k⟩) gl (show(2:Int)≠6 by decide)).symm,rfl,rfl,rfl,rfl⟩)
 have O:((⟨t.toArray⟩:ByteArray).size:Int)<=255:=by rw [Lq];omega
 have G:(p:Int)+(k:Int)<=(s.size:Int):=by omega
 have H:(0:Int)<=(k:Int):=by omega
 generalize (⟨t.toArray⟩:ByteArray)=u at*;clear j r1 r2 r3 a C r A n;have i:=D_ b;clear l hc g m b y;go_enter Tryz.func84,Tryz.ntmps84;go_wp2_with fail;refine(E.out _).mono ?_;rintro e w0 ⟨rfl,rfl⟩;go_wp2_with fail;have kz8:=S0 w (.cells #[.int .i64 0,.string ⟨#[]⟩,.int .i64 0,.int .i64 0] 96);have c:=D.out (.cells #[.int .i64 0,.string ⟨#[]⟩,.int .i64 0,.int .i64 0] 96);generalize w.alloc (.cells #[.int .i64 0,.string ⟨#[]⟩,.int .i64 0,.int .i64 0] 96)=w8 at*;refine(i.out _ (F.out.on c)).mono ?_;rintro e w9 ⟨rfl,d⟩;have kz9:=K0 d kz8;have z:=c.trans (d.mono c.size);have I:w.heap.size<w9.heap.size:=(Array.getElem?_eq_some_iff.1 kz9).1;obtain⟨c0,c1,c2,c3,f0,f1,f2,f3⟩:=P0 kz9;clear kz8 kz9 c d;go_wp2_with fail;refine B_ (v:=.tuple #[.agg #[.int .i64 2,.string u,.int .i64 0,.int .i64 (p:Nat)],.int .i64 ((p:Int)+(k:Int)),.bool true]) (by simp [results,Tryz.results84,go_sem,c0,c1,c2,c3]) rfl ⟨q.out,?_⟩;exact F0 z (R_ _) _ _ _ _
set_option maxRecDepth 100000 in
theorem tok_c0 (s:ByteArray) (p:Nat) (gl:Bool) (w:World) (A:s.size<=200000) (t:p<s.size) (h:cls (s[p].toNat:Int)≠1/\cls (s[p].toNat:Int)≠2/\cls (s[p].toNat:Int)≠3/\cls (s[p].toNat:Int)≠4/\cls (s[p].toNat:Int)≠5/\cls (s[p].toNat:Int)≠6/\cls (s[p].toNat:Int)≠7/\cls (s[p].toNat:Int)≠8) (k:s[p]≠37):
 Calls Tryz.prog 84 #[.string s,.int .i64 (p:Nat),.bool gl] w fun e w'=>Q3 (s.data.toList.drop p) p gl e/\Below w.heap.size w w':=by
 have b:=Q0 s p t;have y:(0:Int)<=(p:Int):=by omega
 have z:(p:Int)<(s.size:Int):=by omega
 have a:=fun W=>K1 s p W (by omega);rw [U3 s p t]at a;have c:Hid (Q3 (s.data.toList.drop p) p gl (.returned (.tuple #[.agg #[.int .i64 0,.string ⟨#[]⟩,.int .i64 0,.int .i64 0],.int .i64 0,.bool false]))):=D_ (by
  have x:G0 (s.data.toList.drop p)=lx0:=by
   rw [b];unfold G0;dsimp only;rw [I_ h.2.2.2.2.1,I_ h.1,I_ h.2.1,I_ h.2.2.1,I_ h.2.2.2.1,I_ h.2.2.2.2.2.2.2,I_ (by rintro(e|e);exact h.2.2.2.2.2.1 e;exact h.2.2.2.2.2.2.1 e),I_ k]
  refine⟨0,0,0,⟨#[]⟩,0,false,rfl,?_,fun h=>by cases h⟩;rw [x];rfl)
 obtain⟨g,i,j,l,_,m,n,r⟩:=h;have e1:=beq_eq_false_iff_ne.2 g;have e2:=beq_eq_false_iff_ne.2 i;have e3:=beq_eq_false_iff_ne.2 j;have e4:=beq_eq_false_iff_ne.2 l;have e6:=beq_eq_false_iff_ne.2 m;have e7:=beq_eq_false_iff_ne.2 n;have e8:=beq_eq_false_iff_ne.2 r;generalize cls (s[p].toNat:Int)=q at*;have u:=D_ a;clear b a g i j l m n r;have d:=D_ (fun o:Obj=>(F_ w.heap.size w).alloc (R_ _) o);go_enter Tryz.func84,Tryz.ntmps84;go_wp2_with fail;refine(u.out _).mono ?_;rintro e w0 ⟨rfl,rfl⟩;go_wp2_with fail;refine B_ (v:=.tuple #[.agg #[.int .i64 0,.string ⟨#[]⟩,.int .i64 0,.int .i64 0],.int .i64 0,.bool false]) (by simp [results,Tryz.results84,go_sem]) rfl ⟨c.out,?_⟩;first|exact d.out _|exact F0 (d.out _) (R_ _) _ _ _ _
theorem m9 {l:List UInt8} {b:UInt8} {t:List UInt8} (m:l=b::t) (hc:cls (b.toNat:Int)=4) (j:l.take 2≠ [47,42]) {n:Nat} (d:O0 U1 l=n) {k:Int}
 (a:k=if l.take n= [46]/\z7 (l.drop n)=true then 8 else 3):G0 l=if V2 k n=true then lx0 else⟨k,l.take n,0,n⟩:=by
 have h:G0 l=V1 (U9 l):=by
  subst m;unfold G0;dsimp only;rw [hc,I_ (by decide),I_ (by decide),I_ (by decide),I_ (by decide),J_ rfl,I_ j]
 rw [h];unfold U9;rw [d,<-a];have i:=Zj k U1 nx l;rw [d]at i;rw [i];by_cases c:l.take n= [46]/\z7 (l.drop n)=true
 · rw [J_ c]at a;have o:n=1:=by
    have:=congrArg List.length c.1;have g:=F1 U1 l;rw [d]at g;rw [List.length_take]at this;simp at this;omega
   rw [a,J_ (show n<=255 by omega),long_no 8 n (by decide) (by decide),I_ (by decide)]
 · rw [I_ c]at a;exact long_if (.inr a) _
theorem Gj (s:ByteArray) (p E:Nat) (n:Nat) (a:p+n=E):((s.extract p E).toList== [46])=decide ((s.data.toList.drop p).take n= [46]):=by
 rw [ByteArray.toList_eq,Lib.extract_eq,show E-p=n from by omega,Bool.eq_iff_iff];simp
set_option maxRecDepth 100000 in
theorem tok_c4a (s:ByteArray) (p:Nat) (gl:Bool) (w:World) (H:s.size<=200000) (G:p<s.size) (hc:cls (s[p].toNat:Int)=4) (C:(s.data.toList.drop p).take 2≠ [47,42]) (n E:Nat) (q:O0 U1 (s.data.toList.drop p)=n) (b:p+n=E) (B:(s.data.toList.drop p).take n≠ [46]):
 Calls Tryz.prog 84 #[.string s,.int .i64 (p:Nat),.bool gl] w fun e w'=>Q3 (s.data.toList.drop p) p gl e/\Below w.heap.size w w':=by
 have l:=Q0 s p G;have T:(0:Int)<=(p:Int):=by omega
 have U:(p:Int)<(s.size:Int):=by omega
 have J:=D_ (fun W=>by
  have:=K1 s p W (by omega);rw [U3 s p G,hc]at this;exact this)
 have F:n≠0:=by rw [<-q,l];exact Nat.pos_iff_ne_zero.1 (Y2 _ _ _ (by unfold U1;rw [hc];decide))
 have u:=F1 U1 (s.data.toList.drop p);rw [q,List.length_drop,C0]at u;have A:=D_ (fun (W:World) (g:Nat) (h:Ks W g [4])=>by
  have:=R4 s p [4] g W H (by omega) h (by decide) (by decide);rw [sj,q,b]at this;exact this)
 have M:(p:Int)<(E:Int):=by omega
 have N:(E:Int)<=(s.size:Int):=by omega
 have O:(p:Int)<=(E:Int):=by omega
 have t:=Gj s p E n b;have r:(s.data.toList.drop p).drop n=s.data.toList.drop E:=by rw [List.drop_drop,b]
 have m:=m9 l hc C q (k:=3) (by rw [r];rw [I_ (fun h=>B h.1)]);have I:=D_ (fun o:Obj=>(F_ w.heap.size w).alloc (R_ _) o);have z:=D_ (fun W=>l6 s p 3 E W H (by omega) (by omega));have c:=i6 (s:=s) (gl:=gl) b F (by decide) m (s5 gl (show(3:Int)≠6 by decide));generalize (!V2 3 (E-p))=ok at*;have y:=D_ c;clear c;have f46:((s.extract p E).toList== [46])=false:=t.trans (decide_eq_false B);clear t B;clear l hc C q b m r u;go_enter Tryz.func84,Tryz.ntmps84;go_wp2_with fail;refine(J.out _).mono ?_;rintro e w0 ⟨rfl,rfl⟩;go_wp2_with fail;generalize a:w.alloc (.cells #[.int .i64 0,.string ⟨#[]⟩,.int .i64 0,.int .i64 0] 96)=W0;have kz:W0.heap[w.heap.size]?=some (.cells #[.int .i64 0,.string ⟨#[]⟩,.int .i64 0,.int .i64 0] 96):=by rw [<-a];exact S0 w _
 have j:Below w.heap.size w W0:=by rw [<-a];exact I.out _
 have x:W0.heap.size=w.heap.size+1:=by rw [<-a];simp
 rw [<-x];refine(A.out _ _ (Pj W0 3 4)).mono ?_;rintro e w8 ⟨rfl,rfl⟩;have kz8:=j1 kz (.cells #[.int .i64 4] 3);have d:=j.alloc j.size (.cells #[.int .i64 4] 3);generalize W0.alloc (.cells #[.int .i64 4] 3)=w8 at*;clear a kz j x;go_wp2_with fail;refine(z.out _).mono ?_;rintro e w9 ⟨rfl,i⟩;have kz9:=K0 i kz8;have D:=d.trans (i.mono d.size);have R:w.heap.size<w9.heap.size:=(Array.getElem?_eq_some_iff.1 kz9).1;obtain⟨c0,c1,c2,c3,f0,f1,f2,f3⟩:=P0 kz9;clear kz8 kz9 d i;go_wp2_with fail;refine B_ (v:=.tuple #[.agg #[.int .i64 3,.string (s.extract p E),.int .i64 0,.int .i64 (p:Nat)],.int .i64 (E:Nat),.bool ok]) (by simp [results,Tryz.results84,go_sem,c0,c1,c2,c3]) rfl ⟨y.out,?_⟩;exact F0 D (R_ _) _ _ _ _
set_option maxRecDepth 100000 in
theorem tok_c4b (s:ByteArray) (p:Nat) (gl:Bool) (w:World) (I:s.size<=200000) (H:p<s.size) (hc:cls (s[p].toNat:Int)=4) (D:(s.data.toList.drop p).take 2≠ [47,42]) (n E:Nat) (r:O0 U1 (s.data.toList.drop p)=n) (b:p+n=E) (C:(s.data.toList.drop p).take n= [46]) (m:E=s.size):
 Calls Tryz.prog 84 #[.string s,.int .i64 (p:Nat),.bool gl] w fun e w'=>Q3 (s.data.toList.drop p) p gl e/\Below w.heap.size w w':=by
 have l:=Q0 s p H;have U:(0:Int)<=(p:Int):=by omega
 have V:(p:Int)<(s.size:Int):=by omega
 have M:=D_ (fun W=>by
  have:=K1 s p W (by omega);rw [U3 s p H,hc]at this;exact this)
 have G:n≠0:=by rw [<-r,l];exact Nat.pos_iff_ne_zero.1 (Y2 _ _ _ (by unfold U1;rw [hc];decide))
 have x:=F1 U1 (s.data.toList.drop p);rw [r,List.length_drop,C0]at x;have B:=D_ (fun (W:World) (g:Nat) (h:Ks W g [4])=>by
  have:=R4 s p [4] g W I (by omega) h (by decide) (by decide);rw [sj,r,b]at this;exact this)
 have N:(p:Int)<(E:Int):=by omega
 have O:(E:Int)<=(s.size:Int):=by omega
 have R:(p:Int)<=(E:Int):=by omega
 have u:=Gj s p E n b;have t:(s.data.toList.drop p).drop n=s.data.toList.drop E:=by rw [List.drop_drop,b]
 have q:=m9 l hc D r (k:=8) (by rw [t];rw [J_ ⟨C,by rw [List.drop_eq_nil_of_le (by rw [C0];omega)];rfl⟩]);have J:=D_ (fun o:Obj=>(F_ w.heap.size w).alloc (R_ _) o);have A:=D_ (fun W=>l6 s p 8 E W I (by omega) (by omega));have c:=i6 (s:=s) (gl:=gl) b G (by decide) q (s5 gl (show(8:Int)≠6 by decide));generalize (!V2 8 (E-p))=ok at*;have z:=D_ c;clear c;have f46:((s.extract p E).toList== [46])=true:=u.trans (decide_eq_true C);clear u C;have X:((E:Int)==(s.size:Int))=true:=by rw [m];exact beq_self_eq_true _
 clear m;clear l hc D r b q t x;go_enter Tryz.func84,Tryz.ntmps84;go_wp2_with fail;refine(M.out _).mono ?_;rintro e w0 ⟨rfl,rfl⟩;go_wp2_with fail;generalize a:w.alloc (.cells #[.int .i64 0,.string ⟨#[]⟩,.int .i64 0,.int .i64 0] 96)=W0;have kz:W0.heap[w.heap.size]?=some (.cells #[.int .i64 0,.string ⟨#[]⟩,.int .i64 0,.int .i64 0] 96):=by rw [<-a];exact S0 w _
 have j:Below w.heap.size w W0:=by rw [<-a];exact J.out _
 have y:W0.heap.size=w.heap.size+1:=by rw [<-a];simp
 rw [<-y];refine(B.out _ _ (Pj W0 3 4)).mono ?_;rintro e w8 ⟨rfl,rfl⟩;have kz8:=j1 kz (.cells #[.int .i64 4] 3);have d:=j.alloc j.size (.cells #[.int .i64 4] 3);generalize W0.alloc (.cells #[.int .i64 4] 3)=w8 at*;clear a kz j y;go_wp2_with fail;refine(A.out _).mono ?_;rintro e w9 ⟨rfl,i⟩;have kz9:=K0 i kz8;have F:=d.trans (i.mono d.size);have T:w.heap.size<w9.heap.size:=(Array.getElem?_eq_some_iff.1 kz9).1;obtain⟨c0,c1,c2,c3,f0,f1,f2,f3⟩:=P0 kz9;clear kz8 kz9 d i;go_wp2_with fail;refine B_ (v:=.tuple #[.agg #[.int .i64 8,.string (s.extract p E),.int .i64 0,.int .i64 (p:Nat)],.int .i64 (E:Nat),.bool ok]) (by simp [results,Tryz.results84,go_sem,c0,c1,c2,c3]) rfl ⟨z.out,?_⟩;exact F0 F (R_ _) _ _ _ _
set_option maxRecDepth 100000 in
theorem tok_c4c (s:ByteArray) (p:Nat) (gl:Bool) (w:World) (N:s.size<=200000) (M:p<s.size) (hc:cls (s[p].toNat:Int)=4) (H:(s.data.toList.drop p).take 2≠ [47,42]) (n E:Nat) (t:O0 U1 (s.data.toList.drop p)=n) (c:p+n=E) (F:(s.data.toList.drop p).take n= [46]) (r:E<s.size) (D:cls (s[E].toNat:Int)=5):
 Calls Tryz.prog 84 #[.string s,.int .i64 (p:Nat),.bool gl] w fun e w'=>Q3 (s.data.toList.drop p) p gl e/\Below w.heap.size w w':=by
 have m:=Q0 s p M;have a_:(0:Int)<=(p:Int):=by omega
 have b_:(p:Int)<(s.size:Int):=by omega
 have R:=D_ (fun W=>by
  have:=K1 s p W (by omega);rw [U3 s p M,hc]at this;exact this)
 have J:n≠0:=by rw [<-t,m];exact Nat.pos_iff_ne_zero.1 (Y2 _ _ _ (by unfold U1;rw [hc];decide))
 have y:=F1 U1 (s.data.toList.drop p);rw [t,List.length_drop,C0]at y;have C:=D_ (fun (W:World) (g:Nat) (h:Ks W g [4])=>by
  have:=R4 s p [4] g W N (by omega) h (by decide) (by decide);rw [sj,t,c]at this;exact this)
 have T:(p:Int)<(E:Int):=by omega
 have U:(E:Int)<=(s.size:Int):=by omega
 have V:(p:Int)<=(E:Int):=by omega
 have x:=Gj s p E n c;have u:(s.data.toList.drop p).drop n=s.data.toList.drop E:=by rw [List.drop_drop,c]
 have q:=m9 m hc H t (k:=8) (by rw [u];rw [J_ ⟨F,by rw [Q0 s E r];unfold z7;dsimp only;rw [Bool.or_eq_true];exact .inr (decide_eq_true D)⟩]);have O:=D_ (fun o:Obj=>(F_ w.heap.size w).alloc (R_ _) o);have B:=D_ (fun W=>l6 s p 8 E W N (by omega) (by omega));have d:=i6 (s:=s) (gl:=gl) c J (by decide) q (s5 gl (show(8:Int)≠6 by decide));generalize (!V2 8 (E-p))=ok at*;have A:=D_ d;clear d;have f46:((s.extract p E).toList== [46])=true:=x.trans (decide_eq_true F);clear x F;have a:=fun W=>K1 s E W (by omega);rw [U3 s E r]at a;have hq:((E:Int)==(s.size:Int))=false:=by rw [beq_eq_false_iff_ne];omega
 have X:(E:Int)<(s.size:Int):=by omega
 have Y:(0:Int)<=(E:Int):=by omega
 rw [D]at a;clear D;have G:=D_ a;clear a r;clear m hc H t c q u y;go_enter Tryz.func84,Tryz.ntmps84;go_wp2_with fail;refine(R.out _).mono ?_;rintro e w0 ⟨rfl,rfl⟩;go_wp2_with fail;generalize b:w.alloc (.cells #[.int .i64 0,.string ⟨#[]⟩,.int .i64 0,.int .i64 0] 96)=W0;have kz:W0.heap[w.heap.size]?=some (.cells #[.int .i64 0,.string ⟨#[]⟩,.int .i64 0,.int .i64 0] 96):=by rw [<-b];exact S0 w _
 have l:Below w.heap.size w W0:=by rw [<-b];exact O.out _
 have z:W0.heap.size=w.heap.size+1:=by rw [<-b];simp
 rw [<-z];refine(C.out _ _ (Pj W0 3 4)).mono ?_;rintro e w8 ⟨rfl,rfl⟩;have kz8:=j1 kz (.cells #[.int .i64 4] 3);have i:=l.alloc l.size (.cells #[.int .i64 4] 3);generalize W0.alloc (.cells #[.int .i64 4] 3)=w8 at*;clear b kz l z;go_wp2_with fail;refine(G.out _).mono ?_;rintro e w3 ⟨rfl,rfl⟩;go_wp2_with fail;refine(B.out _).mono ?_;rintro e w9 ⟨rfl,j⟩;have kz9:=K0 j kz8;have I:=i.trans (j.mono i.size);have Z:w.heap.size<w9.heap.size:=(Array.getElem?_eq_some_iff.1 kz9).1;obtain⟨c0,c1,c2,c3,f0,f1,f2,f3⟩:=P0 kz9;clear kz8 kz9 i j;go_wp2_with fail;refine B_ (v:=.tuple #[.agg #[.int .i64 8,.string (s.extract p E),.int .i64 0,.int .i64 (p:Nat)],.int .i64 (E:Nat),.bool ok]) (by simp [results,Tryz.results84,go_sem,c0,c1,c2,c3]) rfl ⟨A.out,?_⟩;exact F0 I (R_ _) _ _ _ _
set_option maxRecDepth 100000 in
theorem tok_c4d (s:ByteArray) (p:Nat) (gl:Bool) (w:World) (R:s.size<=200000) (O:p<s.size) (hc:cls (s[p].toNat:Int)=4) (I:(s.data.toList.drop p).take 2≠ [47,42]) (n E:Nat) (u:O0 U1 (s.data.toList.drop p)=n) (d:p+n=E) (G:(s.data.toList.drop p).take n= [46]) (z:E<s.size) (J:cls (s[E].toNat:Int)≠5) (b:s[E]=37):
 Calls Tryz.prog 84 #[.string s,.int .i64 (p:Nat),.bool gl] w fun e w'=>Q3 (s.data.toList.drop p) p gl e/\Below w.heap.size w w':=by
 have r:=Q0 s p O;have c_:(0:Int)<=(p:Int):=by omega
 have d_:(p:Int)<(s.size:Int):=by omega
 have U:=D_ (fun W=>by
  have:=K1 s p W (by omega);rw [U3 s p O,hc]at this;exact this)
 have N:n≠0:=by rw [<-u,r];exact Nat.pos_iff_ne_zero.1 (Y2 _ _ _ (by unfold U1;rw [hc];decide))
 have A:=F1 U1 (s.data.toList.drop p);rw [u,List.length_drop,C0]at A;have F:=D_ (fun (W:World) (g:Nat) (h:Ks W g [4])=>by
  have:=R4 s p [4] g W R (by omega) h (by decide) (by decide);rw [sj,u,d]at this;exact this)
 have V:(p:Int)<(E:Int):=by omega
 have X:(E:Int)<=(s.size:Int):=by omega
 have Y:(p:Int)<=(E:Int):=by omega
 have y:=Gj s p E n d;have x:(s.data.toList.drop p).drop n=s.data.toList.drop E:=by rw [List.drop_drop,d]
 have t:=m9 r hc I u (k:=8) (by rw [x];rw [J_ ⟨G,by rw [Q0 s E z];unfold z7;dsimp only;rw [Bool.or_eq_true];exact .inl (decide_eq_true b)⟩]);have T:=D_ (fun o:Obj=>(F_ w.heap.size w).alloc (R_ _) o);have D:=D_ (fun W=>l6 s p 8 E W R (by omega) (by omega));have i:=i6 (s:=s) (gl:=gl) d N (by decide) t (s5 gl (show(8:Int)≠6 by decide));generalize (!V2 8 (E-p))=ok at*;have C:=D_ i;clear i;have f46:((s.extract p E).toList== [46])=true:=y.trans (decide_eq_true G);clear y G;have c:=fun W=>K1 s E W (by omega);rw [U3 s E z]at c;have hq:((E:Int)==(s.size:Int))=false:=by rw [beq_eq_false_iff_ne];omega
 have Z:(E:Int)<(s.size:Int):=by omega
 have a_:(0:Int)<=(E:Int):=by omega
 have f37:((s[E].toNat:Int)==37)=true:=(E1 s[E] 37).trans (decide_eq_true b);have e5:=beq_eq_false_iff_ne.2 J;clear b J;generalize cls (s[E].toNat:Int)=q at*;have H:=D_ c;clear c;clear r hc I u d t x A;go_enter Tryz.func84,Tryz.ntmps84;go_wp2_with fail;refine(U.out _).mono ?_;rintro e w0 ⟨rfl,rfl⟩;go_wp2_with fail;generalize a:w.alloc (.cells #[.int .i64 0,.string ⟨#[]⟩,.int .i64 0,.int .i64 0] 96)=W0;have kz:W0.heap[w.heap.size]?=some (.cells #[.int .i64 0,.string ⟨#[]⟩,.int .i64 0,.int .i64 0] 96):=by rw [<-a];exact S0 w _
 have m:Below w.heap.size w W0:=by rw [<-a];exact T.out _
 have B:W0.heap.size=w.heap.size+1:=by rw [<-a];simp
 rw [<-B];refine(F.out _ _ (Pj W0 3 4)).mono ?_;rintro e w8 ⟨rfl,rfl⟩;have kz8:=j1 kz (.cells #[.int .i64 4] 3);have j:=m.alloc m.size (.cells #[.int .i64 4] 3);generalize W0.alloc (.cells #[.int .i64 4] 3)=w8 at*;clear a kz m B;go_wp2_with fail;refine(H.out _).mono ?_;rintro e w3 ⟨rfl,rfl⟩;go_wp2_with fail;refine(D.out _).mono ?_;rintro e w9 ⟨rfl,l⟩;have kz9:=K0 l kz8;have M:=j.trans (l.mono j.size);have b_:w.heap.size<w9.heap.size:=(Array.getElem?_eq_some_iff.1 kz9).1;obtain⟨c0,c1,c2,c3,f0,f1,f2,f3⟩:=P0 kz9;clear kz8 kz9 j l;go_wp2_with fail;refine B_ (v:=.tuple #[.agg #[.int .i64 8,.string (s.extract p E),.int .i64 0,.int .i64 (p:Nat)],.int .i64 (E:Nat),.bool ok]) (by simp [results,Tryz.results84,go_sem,c0,c1,c2,c3]) rfl ⟨C.out,?_⟩;exact F0 M (R_ _) _ _ _ _
set_option maxRecDepth 100000 in
theorem tok_c4e (s:ByteArray) (p:Nat) (gl:Bool) (w:World) (R:s.size<=200000) (O:p<s.size) (hc:cls (s[p].toNat:Int)=4) (I:(s.data.toList.drop p).take 2≠ [47,42]) (n E:Nat) (u:O0 U1 (s.data.toList.drop p)=n) (d:p+n=E) (M:(s.data.toList.drop p).take n= [46]) (z:E<s.size) (G:cls (s[E].toNat:Int)≠5) (b:s[E]≠37):
 Calls Tryz.prog 84 #[.string s,.int .i64 (p:Nat),.bool gl] w fun e w'=>Q3 (s.data.toList.drop p) p gl e/\Below w.heap.size w w':=by
 have r:=Q0 s p O;have c_:(0:Int)<=(p:Int):=by omega
 have d_:(p:Int)<(s.size:Int):=by omega
 have U:=D_ (fun W=>by
  have:=K1 s p W (by omega);rw [U3 s p O,hc]at this;exact this)
 have N:n≠0:=by rw [<-u,r];exact Nat.pos_iff_ne_zero.1 (Y2 _ _ _ (by unfold U1;rw [hc];decide))
 have A:=F1 U1 (s.data.toList.drop p);rw [u,List.length_drop,C0]at A;have F:=D_ (fun (W:World) (g:Nat) (h:Ks W g [4])=>by
  have:=R4 s p [4] g W R (by omega) h (by decide) (by decide);rw [sj,u,d]at this;exact this)
 have V:(p:Int)<(E:Int):=by omega
 have X:(E:Int)<=(s.size:Int):=by omega
 have Y:(p:Int)<=(E:Int):=by omega
 have y:=Gj s p E n d;have x:(s.data.toList.drop p).drop n=s.data.toList.drop E:=by rw [List.drop_drop,d]
 have t:=m9 r hc I u (k:=3) (by rw [x];rw [I_];rintro⟨_,h⟩;rw [Q0 s E z]at h;unfold z7 at h;dsimp only at h;rw [decide_eq_false b,decide_eq_false G]at h;cases h);have T:=D_ (fun o:Obj=>(F_ w.heap.size w).alloc (R_ _) o);have D:=D_ (fun W=>l6 s p 3 E W R (by omega) (by omega));have i:=i6 (s:=s) (gl:=gl) d N (by decide) t (s5 gl (show(3:Int)≠6 by decide));generalize (!V2 3 (E-p))=ok at*;have C:=D_ i;clear i;have f46:((s.extract p E).toList== [46])=true:=y.trans (decide_eq_true M);clear y M;have c:=fun W=>K1 s E W (by omega);rw [U3 s E z]at c;have hq:((E:Int)==(s.size:Int))=false:=by rw [beq_eq_false_iff_ne];omega
 have Z:(E:Int)<(s.size:Int):=by omega
 have a_:(0:Int)<=(E:Int):=by omega
 have f37:((s[E].toNat:Int)==37)=false:=(E1 s[E] 37).trans (decide_eq_false b);have e5:=beq_eq_false_iff_ne.2 G;clear b G;generalize cls (s[E].toNat:Int)=q at*;have H:=D_ c;clear c;clear r hc I u d t x A;go_enter Tryz.func84,Tryz.ntmps84;go_wp2_with fail;refine(U.out _).mono ?_;rintro e w0 ⟨rfl,rfl⟩;go_wp2_with fail;generalize a:w.alloc (.cells #[.int .i64 0,.string ⟨#[]⟩,.int .i64 0,.int .i64 0] 96)=W0;have kz:W0.heap[w.heap.size]?=some (.cells #[.int .i64 0,.string ⟨#[]⟩,.int .i64 0,.int .i64 0] 96):=by rw [<-a];exact S0 w _
 have m:Below w.heap.size w W0:=by rw [<-a];exact T.out _
 have B:W0.heap.size=w.heap.size+1:=by rw [<-a];simp
 rw [<-B];refine(F.out _ _ (Pj W0 3 4)).mono ?_;rintro e w8 ⟨rfl,rfl⟩;have kz8:=j1 kz (.cells #[.int .i64 4] 3);have j:=m.alloc m.size (.cells #[.int .i64 4] 3);generalize W0.alloc (.cells #[.int .i64 4] 3)=w8 at*;clear a kz m B;go_wp2_with fail;refine(H.out _).mono ?_;rintro e w3 ⟨rfl,rfl⟩;go_wp2_with fail;refine(D.out _).mono ?_;rintro e w9 ⟨rfl,l⟩;have kz9:=K0 l kz8;have J:=j.trans (l.mono j.size);have b_:w.heap.size<w9.heap.size:=(Array.getElem?_eq_some_iff.1 kz9).1;obtain⟨c0,c1,c2,c3,f0,f1,f2,f3⟩:=P0 kz9;clear kz8 kz9 j l;go_wp2_with fail;refine B_ (v:=.tuple #[.agg #[.int .i64 3,.string (s.extract p E),.int .i64 0,.int .i64 (p:Nat)],.int .i64 (E:Nat),.bool ok]) (by simp [results,Tryz.results84,go_sem,c0,c1,c2,c3]) rfl ⟨C.out,?_⟩;exact F0 J (R_ _) _ _ _ _
def RZ (w:World) (v:Value) (l:List Tok):Prop:= ∃ad cap,v=.slice ad l.length cap/\l.length<=cap/\cap<=maxLen/\ ∀j (hj:j<l.length),∃g,ad=some ⟨g,0,none⟩/\XQ w g j l[j]
theorem RZ.none (w:World):RZ w (.slice none 0 0) []:=⟨_,_,rfl,R_ _,Nat.zero_le _,fun _ a=>absurd a (Nat.not_lt_zero _)⟩
theorem ref_number (s:ByteArray) (p:Nat) (w:World) (k:s.size<=200000) (j:p<s.size) (i:J3 (s[p].toNat:Int)=true) (x:TabsT w):
 Calls Tryz.prog 98 #[.string s,.int .i64 (p:Nat)] w fun e w'=>p6 (s.data.toList.drop p) p e/\Below w.heap.size w w':=by
 by_cases a:s[p]=48
 case neg=>exact num_not48 s p w k j i a
 by_cases o:p+1<s.size
 case neg=>exact num_short s p w k j i a (by omega)
 by_cases d:s[p+1]=39
 case neg=>exact num_not39 s p w k j i a o d
 have A:(s.extract (p+2) s.size).data.toList=s.data.toList.drop (p+2):=by rw [S6]
 have u:=rest_ways (s.extract (p+2) s.size);rw [A]at u;rcases Rz (s.data.toList.drop (p+2))with⟨v,z⟩|⟨t,c,n,F,D,y,z⟩
 · rcases u with⟨_,g,e0,e1⟩|⟨t,_⟩
   · exact num_quote s p w k j i a o d v g e0 e1
   · exact absurd v t
 · have m:n<=200000:=by rw [List.length_drop,C0]at D;omega
   have b:Hid (∀W,TabsT W->Calls Tryz.prog 123 #[.string (s.extract (p+2) s.size)] W fun e w'=>e=.returned (.tuple #[.int .i32 (c:Nat),.int .i64 (n:Nat)])/\Below W.heap.size W w'):=D_ (fun W B=>by
    have:=Tryz.utf8_DecodeRuneInString (s.extract (p+2) s.size) W B.1.1;rw [S6,y]at this;rw [S6];exact this)
   have l:(0:Int)<=(c:Int)/\(c:Int)<=1114111:=by omega
   have E:=KQ y;rcases z with⟨C,q⟩|⟨G,q⟩
   · have r:((n:Int)<=0)\/((0:Int)<(n:Int)/\((c:Int)==65533)=true/\((n:Int)==1)=true)\/((0:Int)<(n:Int)/\((c:Int)==65533)=false/\(c:Int)<32)\/((0:Int)<(n:Int)/\((c:Int)==65533)=false/\(32:Int)<=(c:Int)/\((c:Int) !=39)=false)\/((0:Int)<(n:Int)/\((c:Int)==65533)=false/\(32:Int)<=(c:Int)/\((c:Int) !=39)=true/\((c:Int) !=92)=false):=by
      simp only [bne_iff_ne,bne_eq_false_iff_eq,beq_iff_eq,beq_eq_false_iff_ne]
      by_cases a0:n=0
      · left;omega
      by_cases a1:c=65533
      · right;left;omega
      by_cases a2:c<32
      · right;right;left;omega
      by_cases a3:c=39
      · right;right;right;left;omega
      · right;right;right;right;omega
     rcases u with⟨v,_⟩|⟨_,g|⟨g,e0|⟨e0,e1⟩⟩⟩
     · exact absurd v t
     · exact NQ s p w k j i a o d g c n m l b x q r
     · exact OQ s p w k j i a o d g e0 c n m l b x q r
     · exact PQ s p w k j i a o d g e0 e1 c n m l b x q r
   · have r:((0:Int)<(n:Int)/\(32:Int)<=(c:Int)/\((c:Int) !=39)=true/\((c:Int) !=92)=true/\((c:Int)==65533)=false)\/((0:Int)<(n:Int)/\(32:Int)<=(c:Int)/\((c:Int) !=39)=true/\((c:Int) !=92)=true/\((c:Int)==65533)=true/\((n:Int)==1)=false):=by
      simp only [bne_iff_ne,beq_iff_eq,beq_eq_false_iff_ne]
      by_cases a1:c=65533
      · right;omega
      · left
        have:n≠0:=fun h=>a1 (E h);omega
     rcases u with⟨v,_⟩|⟨_,g|⟨g,e0|⟨e0,e1⟩⟩⟩
     · exact absurd v t
     · exact iZ s p w k j i a o d g c n m l b x q r
     · exact jZ s p w k j i a o d g e0 c n m l b x q r
     · exact kZ s p w k j i a o d g e0 e1 c n m l b x q r
set_option maxRecDepth 100000 in
theorem tok_c3 (s:ByteArray) (p:Nat) (gl:Bool) (w:World) (A:s.size<=200000) (i:p<s.size) (hc:cls (s[p].toNat:Int)=3) (m:TabsT w):
 Calls Tryz.prog 84 #[.string s,.int .i64 (p:Nat),.bool gl] w fun e w'=>Q3 (s.data.toList.drop p) p gl e/\Below w.heap.size w w':=by
 have d:=Q0 s p i;have C:(0:Int)<=(p:Int):=by omega
 have D:(p:Int)<(s.size:Int):=by omega
 have t:=D_ (fun W=>by
  have:=K1 s p W (by omega);rw [U3 s p i,hc]at this;exact this)
 have c:G0 (s.data.toList.drop p)=C2 (s.data.toList.drop p):=by
  rw [d];unfold G0;dsimp only;rw [hc,I_ (by decide),I_ (by decide),I_ (by decide),J_ rfl]
 have y:=D_ m;have u:=D_ (fun W (h:TabsT W)=>ref_number s p W A i (by unfold J3;rw [hc];decide) h);have j:=D_ c;have r:=D_ (fun o:Obj=>(F_ w.heap.size w).alloc (R_ _) o);clear d hc c m;go_enter Tryz.func84,Tryz.ntmps84;go_wp2_with fail;refine(t.out _).mono ?_;rintro e w0 ⟨rfl,rfl⟩;go_wp2_with fail;have kz8:=S0 w (.cells #[.int .i64 0,.string ⟨#[]⟩,.int .i64 0,.int .i64 0] 96);have a:=r.out (.cells #[.int .i64 0,.string ⟨#[]⟩,.int .i64 0,.int .i64 0] 96);generalize w.alloc (.cells #[.int .i64 0,.string ⟨#[]⟩,.int .i64 0,.int .i64 0] 96)=w8 at*;refine(u.out _ (y.out.on a)).mono ?_;rintro e w9 ⟨⟨n,en,ok,rfl,k,l⟩,b⟩;have g:Hid (Q3 (s.data.toList.drop p) p gl (.returned (.tuple #[.agg #[.int .i64 5,.string ⟨#[]⟩,.int .i64 n,.int .i64 (p:Nat)],.int .i64 (en:Nat),.bool ok]))):=D_ (by
  refine⟨5,n,(p:Nat),⟨#[]⟩,en,ok,rfl,by rw [j.out];exact k,fun h=>?_⟩;obtain⟨z,E⟩:=l h;rw [j.out,z];exact⟨show(5:Int)≠0 by decide,(s5 (x:=⟨5,[],n,en-p⟩) gl (show(5:Int)≠6 by decide)).symm,rfl,rfl,rfl,show en=p+(en-p) by omega⟩)
 have kz9:=K0 b kz8;have q:=a.trans (b.mono a.size);have B:w.heap.size<w9.heap.size:=(Array.getElem?_eq_some_iff.1 kz9).1;obtain⟨c0,c1,c2,c3,f0,f1,f2,f3⟩:=P0 kz9;clear kz8 kz9 a b k l;go_wp2_with fail;refine B_ (v:=.tuple #[.agg #[.int .i64 5,.string ⟨#[]⟩,.int .i64 n,.int .i64 (p:Nat)],.int .i64 (en:Nat),.bool ok]) (by simp [results,Tryz.results84,go_sem,c0,c1,c2,c3]) rfl ⟨g.out,?_⟩;exact F0 q (R_ _) _ _ _ _
theorem cls_33 (b:UInt8) (h:b=33):cls (b.toNat:Int)=6:=by subst h;decide
theorem cls_59 (b:UInt8) (h:b=59):cls (b.toNat:Int)=6:=by subst h;decide
theorem cls_40 (b:UInt8) (h:b=40):cls (b.toNat:Int)=7:=by subst h;decide
theorem wz (s:ByteArray) (p:Nat) (gl:Bool) (w:World) (c:s.size<=200000) (a:p<s.size) (o:TabsT w) (C:bj (s.data.toList.drop p)):
 Calls Tryz.prog 84 #[.string s,.int .i64 (p:Nat),.bool gl] w fun e w'=>Q3 (s.data.toList.drop p) p gl e/\Below w.heap.size w w':=by
 obtain⟨b,t,F,n5,n37,n2⟩:=C;have D:b=s[p]:=by
  have:=Q0 s p a;rw [F]at this;injection this
 subst D;by_cases y:cls (s[p].toNat:Int)=1
 · exact tok_c1 s p gl w c a y
 by_cases z:cls (s[p].toNat:Int)=2
 · exact tok_c2 s p gl w c a z
 by_cases A:cls (s[p].toNat:Int)=3
 · exact tok_c3 s p gl w c a A o
 by_cases d:cls (s[p].toNat:Int)=4
 · obtain⟨E,i⟩: ∃E,p+O0 U1 (s.data.toList.drop p)=E:=⟨_,rfl⟩;by_cases j:(s.data.toList.drop p).take (O0 U1 (s.data.toList.drop p))= [46]
   case neg=>exact tok_c4a s p gl w c a d n2 _ E rfl i j
   by_cases l:E<s.size
   case neg=>
    have B:=F1 U1 (s.data.toList.drop p);rw [List.length_drop,C0]at B;exact tok_c4b s p gl w c a d n2 _ E rfl i j (by omega)
   by_cases v:cls (s[E].toNat:Int)=5
   · exact tok_c4c s p gl w c a d n2 _ E rfl i j l v
   by_cases u:s[E]=37
   · exact tok_c4d s p gl w c a d n2 _ E rfl i j l v u
   · exact tok_c4e s p gl w c a d n2 _ E rfl i j l v u
 by_cases g:cls (s[p].toNat:Int)=6
 · by_cases b33:s[p]=33
   · exact tok_c6a s p gl w c a g b33
   by_cases b59:s[p]=59
   · exact tok_c6b s p gl w c a g b33 b59
   · exact tok_c6c s p gl w c a g b33 b59 (fun h=>by have:=cls_40 _ h;omega)
 by_cases m:cls (s[p].toNat:Int)=7
 · have b33:s[p]≠33:=fun h=>g (cls_33 _ h);have b59:s[p]≠59:=fun h=>g (cls_59 _ h);by_cases b40:s[p]=40
   · cases gl with
     |false=>exact tok_c7b s p false w c a m b33 b59 b40 rfl
     |true=>exact tok_c7c s p true w c a m b33 b59 b40 rfl
   · exact tok_c7a s p gl w c a m b33 b59 b40
 by_cases n:cls (s[p].toNat:Int)=8
 · cases x:N3 (s.data.toList.drop p)with
   |none=>exact tok_c8a s p gl w c a n o x
   |some q=>
    obtain⟨t,k⟩:=q;by_cases r:255<t.length
    · exact tok_c8b s p gl w c a n o t k x r
    · exact tok_c8c s p gl w c a n o t k x (by omega)
 · exact tok_c0 s p gl w c a ⟨y,z,A,d,n5,g,m,n⟩ n37
def Iz (l:List Tok):Bool:=match l.getLast? with|some t=>V3 t.kind t.text|none=>false
theorem lastB_snoc (l:List Tok) (x:Tok):Iz (l++ [x])=V3 x.kind x.text:=by
 unfold Iz;rw [List.getLast?_append];rfl
theorem lastB_at (l:List Tok) (m:Nat) (h:l.length=m+1):Iz l=V3 (l[m]).kind (l[m]).text:=by
 unfold Iz;rw [List.getLast?_eq_getElem?,show l.length-1=m from by omega,List.getElem?_eq_getElem (by omega)]
theorem gJ (s:ByteArray) (f:Nat) (h:f<s.size):s.data.toList.drop f≠ []:=fun e=>by
 rw [Q0 s f h]at e;cases e
theorem jj {s:ByteArray} {f:Nat} {gl:Bool} {l:List Tok} (h:C5 s.data.toList 0 false=(C5 (s.data.toList.drop f) f gl).pre l) (b:f<s.size) (a:s.size<=4096) (c:(G0 (s.data.toList.drop f)).w=0) (B:Nat) (W:World):
 mj B s.data.toList (.returned (.tuple #[.slice none 0 0,.int .i64 (f:Nat),.int .i64 50])) W:=by
 refine .inr ⟨by rw [C0];exact a,.inl ⟨f,?_,rfl⟩⟩;rw [h,Z8 _ _ _ (gJ s f b),J_ c];rfl
theorem ref_end {s:ByteArray} {f:Nat} {gl:Bool} {l:List Tok} (h:C5 s.data.toList 0 false=(C5 (s.data.toList.drop f) f gl).pre l) (a:s.size<=f):C5 s.data.toList 0 false=.good (l++ [⟨9,[],0,f⟩]):=by
 rw [h,List.drop_eq_nil_of_le (by rw [C0];exact a),Aj];rfl
theorem nQ {s:ByteArray} {f:Nat} {gl:Bool} {l:List Tok} (h:C5 s.data.toList 0 false=(C5 (s.data.toList.drop f) f gl).pre l) (a:f<s.size) (c:(G0 (s.data.toList.drop f)).w≠0) (b:(G0 (s.data.toList.drop f)).kind≠0):
 C5 s.data.toList 0 false=(C5 (s.data.toList.drop (f+(G0 (s.data.toList.drop f)).w)) (f+(G0 (s.data.toList.drop f)).w) (Iz (l++ [⟨A3 gl (G0 (s.data.toList.drop f)),(G0 (s.data.toList.drop f)).text,(G0 (s.data.toList.drop f)).n,f⟩]))).pre (l++ [⟨A3 gl (G0 (s.data.toList.drop f)),(G0 (s.data.toList.drop f)).text,(G0 (s.data.toList.drop f)).n,f⟩]):=by
 rw [h,Z8 _ _ _ (gJ s f a),I_ c,I_ b,pre_pre,lastB_snoc,List.drop_drop]
set_option maxRecDepth 100000 in
theorem ref_Cut (s:ByteArray) (w:World) (hT:TabsT w):
 Calls Tryz.prog 68 #[.string s] w fun e w'=>mj w.heap.size s.data.toList e w'/\Below w.heap.size w w':=by
 by_cases k_:4096<s.size
 · have h0:(4096:Int)<(s.size:Int):=by omega
   have r:=D_ (fun W=>show mj w.heap.size s.data.toList (.returned (.tuple #[.slice none 0 0,.int .i64 0,.int .i64 2])) W from .inl ⟨by rw [C0];omega,rfl⟩);clear k_ hT;go_enter Tryz.func68,Tryz.ntmps68;go_wp2_with fail;go_ret3;exact⟨r.out _,F_ _ _⟩
 have I:s.size<=4096:=by omega
 have h0:(s.size:Int)<=4096:=by omega
 have HT:=D_ hT;obtain⟨i0,O,m_,n_,o_⟩:=info_parts infoTok;clear k_ hT;go_enter Tryz.func68,Tryz.ntmps68;go_wp2_with fail;go_loopw [5,6] (fun vv av wr=> ∃(a:Nat) (l:List Tok),a<=s.size/\l.length<=a/\av=.int .i64 (a:Nat)/\Below w.heap.size w wr/\j2 w.heap.size wr vv l/\Hid (C5 s.data.toList 0 false=(C5 (s.data.toList.drop a) a (Iz l)).pre l)) (fun _ av _=>s.size-(intOf av).toNat)
 case atStart=>exact⟨0,[],Nat.zero_le _,R_ _,rfl,F_ _ _,O_ _ _ _ _,D_ (by rw [List.drop_zero,pre_nil];rfl)⟩
 case round=>
  obtain⟨a,l,ha,hla,rfl,a_,hw,p_⟩:=hrel;have hws:=a_.size;have HSK:=D_ (ref_skip s a wr (by omega) ha);obtain⟨ad,cap,rfl,y_,hcm,j_⟩:=hw.view;have i_:=D_ j_;have Z:=D_ hw;unfold maxLen at hcm;clear j_ hw;go_wp2_with fail;refine HSK.out.mono ?_;rintro e w1 ⟨⟨f,ok,rfl,hres⟩,rfl⟩;obtain⟨haf,hfs,z_,d_,l_⟩:=hres;rw [C0]at hfs d_ l_;have c_:=p_.out;rw [z_ (Iz l)]at c_;have R:=D_ c_;clear z_ c_ p_;cases ok with
  |false=>
   obtain⟨X,E⟩:=l_ rfl;have r:=D_ (fun W=>jj R.out X I E w.heap.size W);clear d_ l_ E;go_wp2_with fail;go_ret3;exact⟨r.out _,a_⟩
  | true =>
   have u_:=d_ rfl;clear d_ l_;by_cases X:f<s.size
   case neg=>
    have s_:f=s.size:=by omega
    have HEND:=D_ (ref_end R.out (by omega));have HX:Hid (P7 ⟨9,[],0,f⟩= [.int .i64 9,.string ⟨#[]⟩,.int .i64 0,.int .i64 (s.size:Nat)]):=D_ (by rw [s_];rfl);have hq1:(s.size:Int)<=(f:Int):=by omega
    have hf9:f<=4096:=by omega
    have HFE:=D_ s_;clear u_ s_;go_wp2_with (first
     |(at_builtin;refine wpList_append_lies _ rfl _ _ 89 rfl w.heap.size 96 i0 (.agg #[.int .i64 0,.string ⟨#[]⟩,.int .i64 0,.int .i64 0]) 4 40 Tryz.underlying89 O m_ n_ o_ rfl (by decide) _ _ _ rfl (World.ownsRow.alloc Z.out _) ⟨wr.heap.size,0,none⟩ 1 1 [.int .i64 9,.string ⟨#[]⟩,.int .i64 0,.int .i64 (s.size:Nat)] rfl rfl ?c1 ?c2 (by decide) ?c3 ?c4 ?c5 _ rfl ?_))
    case c1=>
     intro j y b;match j,b with
     |0,b=>simp at b;subst b;simp [Addr.add]
     |1,b=>simp at b;subst b;simp [Addr.add]
     |2,b=>simp at b;subst b;simp [Addr.add]
     |3,b=>simp at b;subst b;simp [Addr.add]
    case c2=>intro y Y;simp at Y;rcases Y with rfl|rfl|rfl|rfl<;>rfl
    case c3=>unfold maxLen;omega
    case c4=>omega
    case c5=>simp;omega
    intro g3 cap3 w5 o d _ _;have B:j2 w.heap.size w5 (.slice (some ⟨g3,0,none⟩) (l.length+1) cap3) (l++ [⟨9,[],0,f⟩]):=by
     unfold j2;rw [P_,O5];have e:N5 [(⟨9,[],0,f⟩:Tok)]=P7 ⟨9,[],0,f⟩:=by show P7 ⟨9,[],0,f⟩++ []=_;rw [List.append_nil]
     rw [e,HX.out];exact o
    have U:Below w.heap.size w w5:=(a_.alloc hws _).grown d (by simp;omega) (fun i O=>(World.ownsRow.lt Z.out i O).1);clear o d;go_wp2_with fail;go_ret3;exact⟨.inr ⟨by rw [C0];exact I,.inr ⟨_,_,HEND.out,rfl,B⟩⟩,U⟩
   case pos=>
    have J:bj (s.data.toList.drop f):=by
     rcases u_ with h|h
     · omega
     · exact h
    have hf1:(f:Int)<(s.size:Int):=by omega
    clear u_;by_cases b_:f=a
    · have hq:((f:Int)==(a:Int))=true:=by rw [b_];exact beq_self_eq_true _
      have c:=R.out;rw [J_ b_]at c;by_cases t_:l.length=0
      · rw [show Iz l=false from by rw [List.eq_nil_of_length_eq_zero t_];rfl]at c;have A:=a_;have M:=Z.out;rw [t_]at y_ M⊢;subst b_;have f_:=D_ (fun W h=>wz s f false W (by omega) X h J);have e_:=D_ (HT.out.on A);have v:=D_ c;clear c J;go_wp2_with fail;refine(f_.out _ e_.out).mono ?_;rintro e w3 ⟨⟨k,n,q,t,en,ok2,rfl,C,T⟩,D⟩;have z:Below w.heap.size w w3:=A.trans (D.mono A.size);have G:=z.size;have F:=M.below D;clear D A M;cases ok2 with
        | false=>
         have r:=D_ (fun W=>jj v.out X I (by
          apply Classical.byContradiction
          intro h;rw [decide_eq_true h]at C;cases C) w.heap.size W)
         clear C T F;go_wp2_with fail;go_ret3;first
          |exact⟨r.out _,z⟩
          |exact⟨r.out _,z.alloc G _⟩
        | true=>
         obtain⟨x0,x1,x2,x3,x4,x5⟩:=T rfl;have E:(G0 (s.data.toList.drop f)).w≠0:=of_decide_eq_true C.symm;have N:=Gq (s.data.toList.drop f);rw [List.length_drop,C0]at N;have p:=nQ v.out X E x0;have HX:Hid (P7 ⟨A3 false (G0 (s.data.toList.drop f)),(G0 (s.data.toList.drop f)).text,(G0 (s.data.toList.drop f)).n,f⟩= [.int .i64 k,.string t,.int .i64 n,.int .i64 q]):=D_ (by rw [x1,x2,x3,x4];rfl);generalize (⟨A3 false (G0 (s.data.toList.drop f)),(G0 (s.data.toList.drop f)).text,(G0 (s.data.toList.drop f)).n,f⟩:Tok)=x at*;rw [<-x5]at p;have H:=D_ p;have V:en<=s.size:=by omega
         have r_:f<en:=by omega
         have HW:=D_ F;clear x0 x1 x2 x3 x4 x5 E N p C T F;go_wp2_with (first
          |(at_builtin;refine wpList_append_lies _ rfl _ _ 89 rfl w.heap.size 96 i0 (.agg #[.int .i64 0,.string ⟨#[]⟩,.int .i64 0,.int .i64 0]) 4 40 Tryz.underlying89 O m_ n_ o_ rfl (by decide) _ _ _ rfl (World.ownsRow.alloc (World.ownsRow.alloc HW.out _) _) ⟨w3.heap.size+1,0,none⟩ 1 1 [.int .i64 k,.string t,.int .i64 n,.int .i64 q] rfl rfl ?c1 ?c2 (by decide) ?c3 ?c4 ?c5 _ rfl ?_))
         case c1=>
          intro j y b;match j,b with
          |0,b=>simp at b;subst b;simp [Addr.add]
          |1,b=>simp at b;subst b;simp [Addr.add]
          |2,b=>simp at b;subst b;simp [Addr.add]
          |3,b=>simp at b;subst b;simp [Addr.add]
         case c2=>intro y Y;simp at Y;rcases Y with rfl|rfl|rfl|rfl<;>rfl
         case c3=>unfold maxLen;omega
         case c4=>omega
         case c5=>simp;omega
         intro g3 cap3 w5 o d _ _;have B:j2 w.heap.size w5 (.slice (some ⟨g3,0,none⟩) (1) cap3) (l++ [x]):=by
          unfold j2;rw [P_,O5,t_];have e:N5 [x]=P7 x:=by show P7 x++ []=_;rw [List.append_nil]
          rw [e,HX.out];exact o
         have U:Below w.heap.size w w5:=((z.alloc G _).alloc (by simp;omega) _).grown d (by simp;omega) (fun i O=>(World.ownsRow.lt HW.out i O).1);clear o d;go_wp2_with fail;go_roundw
         case rel=>exact⟨en,l++ [x],V,by rw [P_,List.length_singleton];omega,rfl,U,B,H⟩
         case measure=>simp [intOf];omega
      · obtain⟨m,hm⟩: ∃m,l.length=m+1:=⟨l.length-1,by omega⟩;have g_:=a_;have h_:=Z.out;obtain⟨g,rfl,_,hat⟩:=i_.out m (by omega);obtain⟨c0,c1,c2,c3⟩:=hat;have HG:=D_ (fun W=>ref_glues (l[m]).kind (l[m]).n (l[m]).pos (l[m]).text W);rw [lastB_at l m hm]at c;generalize V3 (l[m]).kind (l[m]).text=gl at*;generalize (⟨(l[m]).text.toArray⟩:ByteArray)=u at*;generalize (l[m]).pos=lp at*;generalize (l[m]).kind=kd at*;generalize (l[m]).n=xn at*;have hm0:(0:Int)<(m:Int)+1:=by omega
        have v_:=D_ c;have w_:=D_ J;rw [hm]at y_⊢;rw [hm]at h_;have x_:=D_ h_;clear c J h_ Z i_;subst b_;go_wp2_with fail;refine(HG.out _).mono ?_;rintro e wG ⟨rfl,q_⟩;have A:Below w.heap.size w wG:=g_.trans (q_.mono g_.size);have M:=x_.out.below q_;have c:=v_.out;have J:=w_.out;clear q_ x_ v_ w_ HG c0 c1 c2 c3 g_;have f_:=D_ (fun W h=>wz s f gl W (by omega) X h J);have e_:=D_ (HT.out.on A);have v:=D_ c;clear c J;go_wp2_with fail;refine(f_.out _ e_.out).mono ?_;rintro e w3 ⟨⟨k,n,q,t,en,ok2,rfl,C,T⟩,D⟩;have z:Below w.heap.size w w3:=A.trans (D.mono A.size);have G:=z.size;have F:=M.below D;clear D A M;cases ok2 with
        | false=>
         have r:=D_ (fun W=>jj v.out X I (by
          apply Classical.byContradiction
          intro h;rw [decide_eq_true h]at C;cases C) w.heap.size W)
         clear C T F;go_wp2_with fail;go_ret3;first
          |exact⟨r.out _,z⟩
          |exact⟨r.out _,z.alloc G _⟩
        | true=>
         obtain⟨x0,x1,x2,x3,x4,x5⟩:=T rfl;have E:(G0 (s.data.toList.drop f)).w≠0:=of_decide_eq_true C.symm;have N:=Gq (s.data.toList.drop f);rw [List.length_drop,C0]at N;have p:=nQ v.out X E x0;have HX:Hid (P7 ⟨A3 gl (G0 (s.data.toList.drop f)),(G0 (s.data.toList.drop f)).text,(G0 (s.data.toList.drop f)).n,f⟩= [.int .i64 k,.string t,.int .i64 n,.int .i64 q]):=D_ (by rw [x1,x2,x3,x4];rfl);generalize (⟨A3 gl (G0 (s.data.toList.drop f)),(G0 (s.data.toList.drop f)).text,(G0 (s.data.toList.drop f)).n,f⟩:Tok)=x at*;rw [<-x5]at p;have H:=D_ p;have V:en<=s.size:=by omega
         have r_:f<en:=by omega
         have HW:=D_ F;clear x0 x1 x2 x3 x4 x5 E N p C T F;go_wp2_with (first
          |(at_builtin;refine wpList_append_lies _ rfl _ _ 89 rfl w.heap.size 96 i0 (.agg #[.int .i64 0,.string ⟨#[]⟩,.int .i64 0,.int .i64 0]) 4 40 Tryz.underlying89 O m_ n_ o_ rfl (by decide) _ _ _ rfl (World.ownsRow.alloc (World.ownsRow.alloc HW.out _) _) ⟨w3.heap.size+1,0,none⟩ 1 1 [.int .i64 k,.string t,.int .i64 n,.int .i64 q] rfl rfl ?c1 ?c2 (by decide) ?c3 ?c4 ?c5 _ rfl ?_))
         case c1=>
          intro j y b;match j,b with
          |0,b=>simp at b;subst b;simp [Addr.add]
          |1,b=>simp at b;subst b;simp [Addr.add]
          |2,b=>simp at b;subst b;simp [Addr.add]
          |3,b=>simp at b;subst b;simp [Addr.add]
         case c2=>intro y Y;simp at Y;rcases Y with rfl|rfl|rfl|rfl<;>rfl
         case c3=>unfold maxLen;omega
         case c4=>omega
         case c5=>simp;omega
         intro g3 cap3 w5 o d _ _;have B:j2 w.heap.size w5 (.slice (some ⟨g3,0,none⟩) (m+1+1) cap3) (l++ [x]):=by
          unfold j2;rw [P_,O5,hm];have e:N5 [x]=P7 x:=by show P7 x++ []=_;rw [List.append_nil]
          rw [e,HX.out];exact o
         have U:Below w.heap.size w w5:=((z.alloc G _).alloc (by simp;omega) _).grown d (by simp;omega) (fun i O=>(World.ownsRow.lt HW.out i O).1);clear o d;go_wp2_with fail;go_roundw
         case rel=>exact⟨en,l++ [x],V,by rw [P_,List.length_singleton];omega,rfl,U,B,H⟩
         case measure=>simp [intOf];omega
    · have hq:((f:Int)==(a:Int))=false:=by rw [beq_eq_false_iff_ne];omega
      have c:=R.out;rw [I_ b_]at c;have A:=a_;have M:=Z.out;clear b_;have f_:=D_ (fun W h=>wz s f false W (by omega) X h J);have e_:=D_ (HT.out.on A);have v:=D_ c;clear c J;go_wp2_with fail;refine(f_.out _ e_.out).mono ?_;rintro e w3 ⟨⟨k,n,q,t,en,ok2,rfl,C,T⟩,D⟩;have z:Below w.heap.size w w3:=A.trans (D.mono A.size);have G:=z.size;have F:=M.below D;clear D A M;cases ok2 with
      | false=>
       have r:=D_ (fun W=>jj v.out X I (by
        apply Classical.byContradiction
        intro h;rw [decide_eq_true h]at C;cases C) w.heap.size W)
       clear C T F;go_wp2_with fail;go_ret3;first
        |exact⟨r.out _,z⟩
        |exact⟨r.out _,z.alloc G _⟩
      | true=>
       obtain⟨x0,x1,x2,x3,x4,x5⟩:=T rfl;have E:(G0 (s.data.toList.drop f)).w≠0:=of_decide_eq_true C.symm;have N:=Gq (s.data.toList.drop f);rw [List.length_drop,C0]at N;have p:=nQ v.out X E x0;have HX:Hid (P7 ⟨A3 false (G0 (s.data.toList.drop f)),(G0 (s.data.toList.drop f)).text,(G0 (s.data.toList.drop f)).n,f⟩= [.int .i64 k,.string t,.int .i64 n,.int .i64 q]):=D_ (by rw [x1,x2,x3,x4];rfl);generalize (⟨A3 false (G0 (s.data.toList.drop f)),(G0 (s.data.toList.drop f)).text,(G0 (s.data.toList.drop f)).n,f⟩:Tok)=x at*;rw [<-x5]at p;have H:=D_ p;have V:en<=s.size:=by omega
       have r_:f<en:=by omega
       have HW:=D_ F;clear x0 x1 x2 x3 x4 x5 E N p C T F;go_wp2_with (first
        |(at_builtin;refine wpList_append_lies _ rfl _ _ 89 rfl w.heap.size 96 i0 (.agg #[.int .i64 0,.string ⟨#[]⟩,.int .i64 0,.int .i64 0]) 4 40 Tryz.underlying89 O m_ n_ o_ rfl (by decide) _ _ _ rfl (World.ownsRow.alloc (World.ownsRow.alloc HW.out _) _) ⟨w3.heap.size+1,0,none⟩ 1 1 [.int .i64 k,.string t,.int .i64 n,.int .i64 q] rfl rfl ?c1 ?c2 (by decide) ?c3 ?c4 ?c5 _ rfl ?_))
       case c1=>
        intro j y b;match j,b with
        |0,b=>simp at b;subst b;simp [Addr.add]
        |1,b=>simp at b;subst b;simp [Addr.add]
        |2,b=>simp at b;subst b;simp [Addr.add]
        |3,b=>simp at b;subst b;simp [Addr.add]
       case c2=>intro y Y;simp at Y;rcases Y with rfl|rfl|rfl|rfl<;>rfl
       case c3=>unfold maxLen;omega
       case c4=>omega
       case c5=>simp;omega
       intro g3 cap3 w5 o d _ _;have B:j2 w.heap.size w5 (.slice (some ⟨g3,0,none⟩) (l.length+1) cap3) (l++ [x]):=by
        unfold j2;rw [P_,O5];have e:N5 [x]=P7 x:=by show P7 x++ []=_;rw [List.append_nil]
        rw [e,HX.out];exact o
       have U:Below w.heap.size w w5:=((z.alloc G _).alloc (by simp;omega) _).grown d (by simp;omega) (fun i O=>(World.ownsRow.lt HW.out i O).1);clear o d;go_wp2_with fail;go_roundw
       case rel=>exact⟨en,l++ [x],V,by rw [P_,List.length_singleton];omega,rfl,U,B,H⟩
       case measure=>simp [intOf];omega
end Go.Proofs.YtinefdlkajnomaaGreatDoor
