import Derived.Test.YtinefdlkajnomaaGreatDoorMReadFB
import Derived.Test.YtinefdlkajnomaaGreatDoorMReadD
import Derived.Test.YtinefdlkajnomaaGreatDoorMTermMk
namespace Go.Proofs.YtinefdlkajnomaaGreatDoor
open Go.RowKit
set_option maxHeartbeats 20000000
attribute [-go_sem] sliced
def FIs {α:Type} (a0:Int) (x:Rd α) (t:α) (ts:List Tok) (ns:Nms) (er at_:Int):Prop:=
 match x with
 | .bad o=>er=60/\at_=(o:Nat)
 | .ok t0 ts0 ns0=>t=t0/\ts=ts0/\ns=ns0/\er=0/\at_=a0
def I7 (r:Nat) (v:Value) (w:World) (a0:Int) (x:Rd Tm) (e:Ending) (w':World):Prop:=
 ∃t ts ns er at_ v' ad cap,e=.returned (tmv t ad cap)/\Z0 w' r v' ts ns er at_/\RGo r v w v' w'/\TmB w.heap.size w' v' t ad cap/\FIs a0 x t ts ns er at_
def D5 (r:Nat) (v:Value) (w:World) (a0:Int) (x:Rd (Tm×Int)) (e:Ending) (w':World):Prop:=
 ∃t p ts ns er at_ v' ad cap,e=.returned (.tuple #[tmv t ad cap,.int .i64 p])/\Z0 w' r v' ts ns er at_/\RGo r v w v' w'/\TmB w.heap.size w' v' t ad cap/\FIs a0 x (t,p) ts ns er at_
theorem Z0.set4 {r q:Nat} {v':Value} {w3:World} {ts:List Tok} {ns:Nms} {er at_:Int} (c:Z0 w3 r v' ts ns er at_) (a:r<q) (b:some q≠v'.ownBlock) (u0 u1 u2 u3:Value):
 Z0 ((((w3.setCell ⟨q,0,none⟩ u0).setCell ⟨q,1,none⟩ u1).setCell ⟨q,2,none⟩ u2).setCell ⟨q,3,none⟩ u3) r v' ts ns er at_:=
 (((c.setOther a b u0).setOther a b u1).setOther a b u2).setOther a b u3
theorem I7.fin {r q B:Nat} {v v':Value} {w w3:World} {a0:Int} {x:Rd Tm} {t:Tm} {ts:List Tok} {ns:Nms} {er at_:Int} {ad:Option Addr} {cap:Nat} {e:Ending} (c:e=.returned (tmv t ad cap)) (h:Z0 w3 r v' ts ns er at_) (d:RGo r v w v' w3) (i:TmB B w3 v' t ad cap) (g:FIs a0 x t ts ns er at_) (k:r<w.heap.size) (b:w.heap.size<=q) (a:q<B) (j:some q≠v'.ownBlock) (u0 u1 u2 u3:Value):
 I7 r v w a0 x e ((((w3.setCell ⟨q,0,none⟩ u0).setCell ⟨q,1,none⟩ u1).setCell ⟨q,2,none⟩ u2).setCell ⟨q,3,none⟩ u3):=
 ⟨t,ts,ns,er,at_,v',ad,cap,c,h.set4 (by omega) j _ _ _ _,(((d.set b (by omega) u0).set b (by omega) u1).set b (by omega) u2).set b (by omega) u3,((((i.set a u0).set a u1).set a u2).set a u3).mono (by omega),g⟩
theorem D5.fin {r q B:Nat} {v v':Value} {w w3:World} {a0:Int} {x:Rd (Tm×Int)} {t:Tm} {p:Int} {ts:List Tok} {ns:Nms} {er at_:Int} {ad:Option Addr} {cap:Nat} {e:Ending} (c:e=.returned (.tuple #[tmv t ad cap,.int .i64 p])) (h:Z0 w3 r v' ts ns er at_) (d:RGo r v w v' w3) (i:TmB B w3 v' t ad cap) (g:FIs a0 x (t,p) ts ns er at_) (k:r<w.heap.size) (b:w.heap.size<=q) (a:q<B) (j:some q≠v'.ownBlock) (u0 u1 u2 u3:Value):
 D5 r v w a0 x e ((((w3.setCell ⟨q,0,none⟩ u0).setCell ⟨q,1,none⟩ u1).setCell ⟨q,2,none⟩ u2).setCell ⟨q,3,none⟩ u3):=
 ⟨t,p,ts,ns,er,at_,v',ad,cap,c,h.set4 (by omega) j _ _ _ _,(((d.set b (by omega) u0).set b (by omega) u1).set b (by omega) u2).set b (by omega) u3,((((i.set a u0).set a u1).set a u2).set a u3).mono (by omega),g⟩
theorem Z0.grow {w w3:World} {r:Nat} {v v3:Value} {ts:List Tok} {ns:Nms} {er at_:Int} (h:Z0 w r v ts ns er at_) (s:List UInt8) (o:Obj)
 (m:w3.ownsRow (r+1) 9 1 v3 (ns.length+1) (Xx (nmB ns)++ [.string ⟨s.toArray⟩])) (n:(w.alloc o).grownBy w3 v.ownBlock) (l:v3.ownBlock=v.ownBlock\/ ∃g,v3.ownBlock=some g/\w.heap.size<=g):
 Z0 (w3.setCell ⟨r,1,none⟩ v3) r v3 ts (ns++ [s]) er at_/\RGo r v w v3 (w3.setCell ⟨r,1,none⟩ v3)/\w3.cell? ⟨r,1,none⟩=some v/\w3.frozen? ⟨r,1,none⟩=false:=by
 have t:=h.lt;have u:some r≠v.ownBlock:=fun e=>by have:=(h.names.lt r e.symm).1;omega
 obtain⟨g,k,cap,q,C,B,hc,E⟩:=h.ex;have j:some g≠v.ownBlock:=fun e=>by have:=(h.names.lt g e.symm).1;omega
 have keep: ∀b,b<w.heap.size->some b≠v.ownBlock->w3.heap[b]?=w.heap[b]?:=fun b a F=>by
  rw [n.block b (by rw [Z_];omega) F,A_ w o b a]
 have d:=(keep r t u).trans C;have x:=H_ (i:=1) d v3;have c:Z1 (r+1) w3 v3 (nmB (ns++ [s])):=by
  rw [DJ];exact Z1.snoc m (by rw [P_,m5];rfl) rfl
 have a:Below r w w3:=((F_ r w).alloc (by omega) o).grown n (by rw [Z_];omega) (fun i A=>by have:=(h.names.lt i A).1;omega);refine⟨⟨⟨g,k,cap,q,by simpa using x,B,hc,E.kept (fun D=>?_)⟩,c.kept (fun b a _=>S_ _ _ _ _ (show b≠r by have:=(c.lt b a).1;omega))⟩,⟨a.setCell (p:=⟨r,1,none⟩) (R_ _) v3,fun b a y z=>?_,l⟩,(l5 d).2.1,(l5 d).2.2.2.2.2.1⟩
 · rw [S_ _ _ _ _ (show g≠r by omega),keep g D j]
 · rw [S_ _ _ _ _ y,keep b a z]
theorem text_is2 (l:List UInt8) (m:List UInt8):(l==(⟨m.toArray⟩:ByteArray).toList)=(l==m):=by rw [ByteArray.toList_eq]
def MZ (ts:List Tok) (ns:Nms):Rd Tm:=
 if(j0 ts).text∈ns/\(j0 ts).text≠ [95]then .ok (A8 (ns.idxOf (j0 ts).text)) ts ns
 else if ns.length=200 then .bad (j0 ts).pos
 else .ok (A8 ns.length) ts (ns++ [(j0 ts).text])
theorem varS_step (ts:List Tok) (ns:Nms):LZ ts ns=(MZ ts ns).bind fun t ts' ns'=>.ok t ts'.tail ns':=by
 unfold LZ MZ;split
 · rfl
 split<;>rfl
set_option maxRecDepth 100000 in
theorem rf_variable (w:World) (r:Nat) (v:Value) (ts:List Tok) (ns:Nms) (at_:Int) (h:Z0 w r v ts ns 0 at_) (hf:T0 ts) (hn:ns.length<=200):
 Calls Tryz.prog 127 #[.pointer (some ⟨r,0,none⟩),.string ⟨(j0 ts).text.toArray⟩] w fun e w'=>I7 r v w at_ (MZ ts ns) e w':=by
 obtain⟨X,O⟩: ∃X,MZ ts ns=X:=⟨_,rfl⟩;rw [O];have r_:=hf.pos;have i:=h.lt;have G:=D_ (fun o:Obj=>(F_ w.heap.size w).alloc (R_ _) o);have HQ:=D_ (U0 w (.cells #[.int .i64 0,.string ⟨#[]⟩,.int .i64 0,.slice none 0 0] 26));have C:=h.below (G.out (.cells #[.int .i64 0,.string ⟨#[]⟩,.int .i64 0,.slice none 0 0] 26));have c:=h.new_ne (R_ _);obtain⟨adv,capv,i_,s_,hvc,s⟩:=C.names.view;rw [m5]at i_ s_;subst i_;obtain⟨g0,k0,cap0,_,e_,_⟩:=C.ex;obtain⟨_,r1,_,_,_,z1,_⟩:=l5 e_;have HC:Hid (∀j (hj:j<ns.length),∃g,adv=some ⟨g,0,none⟩/\_=some (Value.string ((nmB ns)[j]'(by rw [m5];exact hj)))):=D_ (fun j hj=>s j (by rw [m5];exact hj));have q:=D_ C;have U:=O1 (j0 ts).text [95];have A:=lq (j0 ts).text ns 0;have W: ∀k (n:k<ns.length),((nmB ns)[k]'(by rw [m5];exact n)).toList=ns[k]:=fun k n=>by
  unfold nmB;rw [List.getElem_map,ByteArray.toList_eq]
 have p:=D_ W;clear h C e_ s W;by_cases m:(j0 ts).text∈ns/\(j0 ts).text≠ [95]
 · have J:Hid (X=.ok (A8 (ns.idxOf (j0 ts).text)) ts ns):=D_ (by rw [<-O];unfold MZ;rw [J_ m]);have d:((j0 ts).text== [95])=false:=by simpa using m.2
   rw [d]at U;rw [J_ m.1]at A;have x_:ns.idxOf (j0 ts).text<ns.length:=List.idxOf_lt_length_of_mem m.1;clear m d O p;generalize ns.idxOf (j0 ts).text=N at*;generalize (⟨(j0 ts).text.toArray⟩:ByteArray)=u at*;have HE:Hid (H8 u (nmB ns) 0=(N:Int)):=D_ (by rw [A];omega);clear A;go_enter Tryz.func127,Tryz.ntmps127;go_wp2_with fail;go_loop [12] (fun iv=> ∃k:Nat,k<=ns.length/\iv=.int .i64 k/\Hid (H8 u ((nmB ns).drop k) k=(N:Int))) (fun iv=>ns.length-(intOf iv).toNat)
   case atStart=>exact⟨0,Nat.zero_le _,rfl,HE⟩
   case round=>
    obtain⟨k,n,rfl,H⟩:=hrel;by_cases a:k<ns.length
    · obtain⟨g,rfl,c0⟩:=HC.out k a;have F:=D_ (Oj u (nmB ns) k (by rw [m5];exact a));generalize (nmB ns)[k]'(by rw [m5];exact a)=x at*;cases hx:(x.toList==u.toList)with
      |true=>
       have HR:Hid ((N:Int)=k):=D_ (H.out.symm.trans (by rw [F.out,show(u.toList==x.toList)=true by rw [<-hx,Bool.beq_comm]];rfl));have q_:N=k:=by have:=HR.out;omega
       subst q_;clear F H HR;go_wp2_with fail;refine(A9 N _).mono ?_;rintro e w1 ⟨rfl,R⟩;obtain⟨d0,d1,d2,d3,e0,e1,e2,e3⟩:=A0 (B0 R HQ.out);have Y:=D_ R;clear R r1 z1;go_wp2_with fail;refine B_ (v:=.agg #[.int .i64 1,.string ⟨#[]⟩,.int .i64 N,.slice none 0 0]) (by simp [results,Tryz.results127,go_sem,d0,d1,d2,d3]) rfl ?_;exact I7.fin (x:=X) (a0:=at_) (t:=A8 N) (B:=w.heap.size+1) rfl (q.out.below Y.out) (RGo.of_below ((G.out _).trans (Y.out.mono (by simp))) (N_ i)) (u6q _ _ _ (D1 (by decide) (by decide)) (D1 (by omega) (by omega)) (Nat.zero_le _)) (by rw [J.out];exact⟨rfl,rfl,rfl,rfl,rfl⟩) i (R_ _) (by omega) c.2 _ _ _ _
      |false=>
       have HN:Hid (H8 u ((nmB ns).drop (k+1)) ((k+1:Nat):Int)=(N:Int)):=D_ (by rw [<-H.out,F.out,show(u.toList==x.toList)=false by rw [<-hx,Bool.beq_comm]];rfl);clear F H;go_wp2_with fail;go_round
       case rel=>exact⟨k+1,by omega,by go_num,HN⟩
       case measure=>simp [intOf];omega
    · have hR:=H.out;rw [List.drop_eq_nil_of_le (by rw [m5];omega)]at hR;exact absurd (show(-1:Int)=(N:Int)from hR) (by omega)
 · obtain⟨b95,d⟩: ∃b,((j0 ts).text== [95])=b:=⟨_,rfl⟩;have HX:Hid (∀k (n:k<ns.length),(((nmB ns)[k]'(by rw [m5];exact n)).toList==(⟨(j0 ts).text.toArray⟩:ByteArray).toList)=true->b95=true):=D_ (fun k n he=>by
    rw [p.out k n,text_is2,beq_iff_eq]at he;rw [<-d];apply Classical.byContradiction
    intro hc;exact m ⟨by rw [<-he];exact List.getElem_mem _,fun e=>hc (by rw [e];rfl)⟩)
   rw [d]at U;have J:Hid (X=if ns.length=200 then .bad (j0 ts).pos else .ok (A8 ns.length) ts (ns++ [(j0 ts).text])):=D_ (by rw [<-O];unfold MZ;rw [I_ m]);clear O m A d p;obtain⟨i0,hi,u_,v_,w_⟩:=J6 infoStr;generalize g_:(j0 ts).text=sx at*;have z_:=D_ g_;clear g_;generalize h_:(⟨sx.toArray⟩:ByteArray)=u at*;have p_:=D_ h_;clear h_;go_enter Tryz.func127,Tryz.ntmps127;go_wp2_with fail;go_loop [12] (fun iv=> ∃k:Nat,k<=ns.length/\iv=.int .i64 k) (fun iv=>ns.length-(intOf iv).toNat)
   case atStart=>exact⟨0,Nat.zero_le _,rfl⟩
   case round=>
    obtain⟨k,n,rfl⟩:=hrel;by_cases a:k<ns.length
    · obtain⟨g,rfl,c0⟩:=HC.out k a;have t_:=D_ (HX.out k a);generalize (nmB ns)[k]'(by rw [m5];exact a)=x at*;cases hx:(x.toList==u.toList)with
      |true=>
       obtain rfl:=t_.out hx;go_wp2_with fail;go_round
       case rel=>exact⟨k+1,by omega,by go_num⟩
       case measure=>simp [intOf];omega
      |false=>
       go_wp2_with fail;go_round
       case rel=>exact⟨k+1,by omega,by go_num⟩
       case measure=>simp [intOf];omega
    · clear U;by_cases l:ns.length=200
      · have M:Hid (X=.bad (j0 ts).pos):=D_ (by rw [J.out,J_ l]);have e200: ¬((ns.length:Nat):Int)<200:=by omega
        clear l;go_wp2_with fail;refine(M8 _ r _ ts ns at_ q.out r_).mono ?_;rintro e w1 ⟨rfl,c_,V⟩;obtain⟨d0,d1,d2,d3,e0,e1,e2,e3⟩:=A0 (V.at HQ.out (by have:=c.1;omega) c.2);have m_:=D_ c_;have k_:=D_ V;clear c_ V r1 z1;go_wp2_with fail;refine B_ (v:=.agg #[.int .i64 0,.string ⟨#[]⟩,.int .i64 0,.slice none 0 0]) (by simp [results,Tryz.results127,go_sem,d0,d1,d2,d3]) rfl ?_;exact I7.fin (x:=X) (a0:=at_) (t:=.mk 0 ⟨#[]⟩ 0 []) (B:=w.heap.size+1) rfl m_.out ((RGo.of_below (G.out _) (N_ i)).trans k_.out) (u6q _ _ _ (D1 (by decide) (by decide)) (D1 (by decide) (by decide)) (Nat.zero_le _)) (by rw [M.out];exact⟨rfl,rfl⟩) i (R_ _) (by omega) c.2 _ _ _ _
      · have M:Hid (X=.ok (A8 ns.length) ts (ns++ [sx])):=D_ (by rw [J.out,I_ l]);have e200:((ns.length:Nat):Int)<200:=by omega
        have D:(w.alloc (.cells #[.int .i64 0,.string ⟨#[]⟩,.int .i64 0,.slice none 0 0] 26)).ownsRow (r+1) 9 1 (.slice adv ns.length capv) ns.length (Xx (nmB ns)):=by
         have:=q.out.names;unfold Z1 at this;rwa [m5]at this
        clear l J;have j_:=D_ (G.out (.cells #[.int .i64 0,.string ⟨#[]⟩,.int .i64 0,.slice none 0 0] 26));have a_:Hid ((w.alloc (.cells #[.int .i64 0,.string ⟨#[]⟩,.int .i64 0,.slice none 0 0] 26)).heap.size=w.heap.size+1):=D_ (Z_ _ _);clear HC G;generalize w.alloc (.cells #[.int .i64 0,.string ⟨#[]⟩,.int .i64 0,.slice none 0 0] 26)=w0 at*;go_wp2_with (first
         |(at_builtin;refine wpList_append_lies _ rfl _ _ 56 rfl (r+1) 9 i0 (.string ⟨#[]⟩) 1 16 Tryz.underlying56 hi u_ v_ w_ rfl (by decide) _ _ _ rfl (World.ownsRow.alloc D _) ⟨w0.heap.size,0,none⟩ 1 1 [.string u] rfl rfl ?c1 ?c2 (by decide) ?c3 ?c4 ?c5 _ rfl ?_))
        case c2=>rfl
        case c3=>unfold maxLen;omega
        case c4=>omega
        case c5=>have:=a_.out;omega
        intro g3 cap3 w3 E z b_ y_;obtain⟨d_,y,s1,s2⟩:=q.out.grow (v3:=.slice (some ⟨g3,0,none⟩) (ns.length+1) cap3) sx (.cells #[.string u] 9) (by rw [p_.out];exact E) z (b_.elim (fun e=>.inl e.symm) (fun e=>.inr ⟨g3,rfl,by omega⟩));have I:=D_ d_;have o_:=D_ (y.at HQ.out (by have:=c.1;omega) c.2);have l_:=D_ ((RGo.of_below j_.out (N_ i)).trans y);have hlr:r<w3.heap.size:=L_ w3 ⟨r,1,none⟩ s1;have n_:=D_ (y.ne (b:=w.heap.size) (by rw [a_.out];omega) c.2);clear d_ y E z b_ D r1 z1;go_wp2_with fail;obtain⟨g5,k5,cap5,_,f_,_⟩:=I.out.ex;obtain⟨_,r5,_⟩:=l5 f_;clear f_;refine(A9 ns.length _).mono ?_;rintro e w5 ⟨rfl,T⟩;obtain⟨d0,d1,d2,d3,e0,e1,e2,e3⟩:=A0 (B0 T o_.out);have Z:=D_ T;clear T s1 s2;go_wp2_with fail;refine B_ (v:=.agg #[.int .i64 1,.string ⟨#[]⟩,.int .i64 ns.length,.slice none 0 0]) (by simp [results,Tryz.results127,go_sem,d0,d1,d2,d3]) rfl ?_;exact I7.fin (x:=X) (a0:=at_) (t:=A8 ns.length) (v':=.slice (some ⟨g3,0,none⟩) (ns.length+1) cap3) (B:=w.heap.size+1) rfl (I.out.below Z.out) (l_.out.trans (RGo.of_below Z.out (by have:=I.out.lt;omega))) (u6q _ _ _ (D1 (by decide) (by decide)) (D1 (by omega) (by omega)) (Nat.zero_le _)) (by rw [M.out];exact⟨rfl,rfl,rfl,rfl,rfl⟩) i (R_ _) (by omega) n_.out _ _ _ _
end Go.Proofs.YtinefdlkajnomaaGreatDoor
