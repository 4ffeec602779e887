import Derived.Test.YtinefdlkajnomaaGreatDoorMReadB
namespace Go.Proofs.YtinefdlkajnomaaGreatDoor
open Go.RowKit
set_option maxHeartbeats 20000000
attribute [-go_sem] sliced
theorem lq (s:List UInt8): ∀(ns:Nms) (i:Int),H8 ⟨s.toArray⟩ (nmB ns) i=if s∈ns then i+(ns.idxOf s:Nat)else-1
 | [],i=>rfl
 |x::ns,i=>by
  show(if(⟨s.toArray⟩:ByteArray).toList==(⟨x.toArray⟩:ByteArray).toList then i else H8 ⟨s.toArray⟩ (nmB ns) (i+1))=_
  rw [ByteArray.toList_eq,ByteArray.toList_eq];show(if s==x then i else H8 ⟨s.toArray⟩ (nmB ns) (i+1))=_
  by_cases hx:s=x
  · subst hx;rw [J_ (by simp),J_ (by simp),List.idxOf_cons_self];simp
  · have b:(s==x)=false:=by simpa using hx
    rw [b,I_ (by decide),lq s ns (i+1)];by_cases a:s∈ns
    · rw [J_ a,J_ (List.mem_cons_of_mem _ a),List.idxOf_cons,beq_eq_false_iff_ne.2 (fun e=>hx e.symm)];show i+1+_=i+((ns.idxOf s+1:Nat):Int)
      omega
    · rw [I_ a,I_ (by simp [a,hx])]
theorem m5 (ns:Nms):(nmB ns).length=ns.length:=List.length_map _
theorem DJ (ns:Nms) (s:List UInt8):nmB (ns++ [s])=nmB ns++ [⟨s.toArray⟩]:=by unfold nmB;rw [List.map_append];rfl
theorem u6q (w:World) (B:Nat) (v:Value) {k n:Int} {s:ByteArray} (a:In64 k) (b:In64 n) (c:s.size<=maxLen):TmB B w v (.mk k s n []) none 0:=⟨a,b,c,R_ _,Nat.zero_le _,.nil _⟩
theorem J6 {t:TypeId} {z:Value} {s b:Nat} (h:(Tryz.prog.info? t).map (fun i=>(i.zero,i.size,i.bytes))=some (some z,s,b)): ∃i,Tryz.prog.info? t=some i/\i.zero=some z/\i.size=s/\i.bytes=b:=by
 cases a:Tryz.prog.info? t with
 |none=>rw [a]at h;cases h
 |some i=>
  rw [a]at h;simp only [Option.map_some,Option.some.injEq,Prod.mk.injEq]at h
  exact⟨i,rfl,h.1,h.2.1,h.2.2⟩
theorem D1 {x:Int} (a: -1000<=x) (b:x<=1000):In64 x:=⟨by omega,by omega⟩
theorem A1.grow {w w3:World} {r:Nat} {v v3:Value} {ts:List Tok} {ns:Nms} (h:A1 w r v ts ns) (s:List UInt8) (o:Obj)
 (m:w3.ownsRow (r+1) 9 1 v3 (ns.length+1) (Xx (nmB ns)++ [.string ⟨s.toArray⟩])) (n:(w.alloc o).grownBy w3 v.ownBlock) (l:v3.ownBlock=v.ownBlock\/ ∃g,v3.ownBlock=some g/\w.heap.size<=g):
 A1 (w3.setCell ⟨r,1,none⟩ v3) r v3 ts (ns++ [s])/\RGo r v w v3 (w3.setCell ⟨r,1,none⟩ v3)/\w3.cell? ⟨r,1,none⟩=some v/\w3.frozen? ⟨r,1,none⟩=false/\w3.cell? ⟨r,0,none⟩=w.cell? ⟨r,0,none⟩:=by
 have t:=h.lt;have u:some r≠v.ownBlock:=fun e=>by have:=(h.names.lt r e.symm).1;omega
 obtain⟨g,k,cap,q,x,C,hc,E⟩:=h.ex;have j:some g≠v.ownBlock:=fun e=>by have:=(h.names.lt g e.symm).1;omega
 have keep: ∀b,b<w.heap.size->some b≠v.ownBlock->w3.heap[b]?=w.heap[b]?:=fun b a F=>by
  rw [n.block b (by rw [Z_];omega) F,A_ w o b a]
 have d:=(keep r t u).trans x;have y:=H_ (i:=1) d v3;have c:Z1 (r+1) w3 v3 (nmB (ns++ [s])):=by
  rw [DJ];exact Z1.snoc m (by rw [P_,m5];rfl) rfl
 have a:Below r w w3:=((F_ r w).alloc (by omega) o).grown n (by rw [Z_];omega) (fun i B=>by have:=(h.names.lt i B).1;omega);refine⟨⟨⟨g,k,cap,q,by simpa using y,C,hc,E.kept (fun D=>?_)⟩,c.kept (fun b a _=>S_ _ _ _ _ (show b≠r by have:=(c.lt b a).1;omega))⟩,⟨a.setCell (p:=⟨r,1,none⟩) (R_ _) v3,fun b a z A=>?_,l⟩,(E0 d).2.1,(E0 d).2.2.2,by rw [(E0 d).1,(E0 x).1]⟩
 · rw [S_ _ _ _ _ (show g≠r by omega),keep g D j]
 · rw [S_ _ _ _ _ z,keep b a A]
set_option maxRecDepth 100000 in
theorem SJ (w:World) (r:Nat) (v:Value) (ts:List Tok) (ns:Nms) (h:A1 w r v ts ns) (hf:T0 ts) (hk:(j0 ts).kind≠9) (hn:ns.length<=200):
 Calls Tryz.prog 145 #[.pointer (some ⟨r,0,none⟩)] w fun e w'=>Rq r v w (LZ ts ns) e w':=by
 have h2:=hf.two hk;have z:=D_ h;have q:=h.lt;have V:=D_ (fun W (I:Below w.heap.size w W)=>E4 W r v ts ns (h.below I) hf.pos);have H:=D_ (fun W (I:Below w.heap.size w W)=>IZ (nmB ns) ⟨(j0 ts).text.toArray⟩ v (r+1) W (h.names.below I) (by rw [m5];omega));have G:=D_ (fun o:Obj=>(F_ w.heap.size w).alloc (R_ _) o);have g_:=U0 w (.cells #[.int .i64 0,.string ⟨#[]⟩,.int .i64 0,.slice none 0 0] 26);have HQ:=D_ g_;have Y:=lq (j0 ts).text ns 0;have O:=O1 (j0 ts).text [95];have f1:=vQ;rw [Y]at H;unfold LZ;clear h hf hk g_ Y;unfold Y1 at V;have l:=z.out.new_ne (R_ _);by_cases p:(j0 ts).text∈ns/\(j0 ts).text≠ [95]
 · rw [J_ p.1]at H;rw [J_ p];have M:((j0 ts).text== [95])=false:=by simpa using p.2
   have hlt0:ns.idxOf (j0 ts).text<ns.length:=List.idxOf_lt_length_of_mem p.1;rw [M]at O;clear p M;generalize ns.idxOf (j0 ts).text=N at*;generalize (⟨(j0 ts).text.toArray⟩:ByteArray)=u at*;generalize j0 ts=t at*;have n: ¬(0+(N:Int))<0:=by omega
   go_enter Tryz.func145,Tryz.ntmps145;go_wp2_with fail;refine(V.out _ (G.out _)).mono ?_;rintro e w1 ⟨rfl,i⟩;have s:=B0 i HQ.out;have a:=(G.out (.cells #[.int .i64 0,.string ⟨#[]⟩,.int .i64 0,.slice none 0 0] 26)).trans (i.mono (by simp));have c:=z.out.below a;have A:=D_ s;have d:=D_ a;have J:=D_ c;obtain⟨g,k,cap,c_,y,_⟩:=c.ex;obtain⟨_,r1,_,z1⟩:=E0 y;clear i s a c y;go_wp2_with fail;refine(H.out _ d.out).mono ?_;rintro e w2 ⟨rfl,rfl⟩;go_wp2_with fail;refine(R5 _ r v ts ns J.out h2).mono ?_;rintro e w3 ⟨rfl,d_,R⟩;have h_:=R.at A.out (by have:=l.1;omega) l.2;obtain⟨d0,d1,d2,d3,e0,e1,e2,e3⟩:=A0 h_;have r_:=D_ d_;have o_:=D_ ((RGo.of_below d.out (N_ q)).trans R);clear d_ R h_ r1 z1;go_wp2_with fail;refine B_ (v:=.agg #[.int .i64 1,.string ⟨#[]⟩,.int .i64 N,.slice none 0 0]) (by simp [results,Tryz.results145,go_sem,d0,d1,d2,d3]) rfl ⟨v,none,0,rfl,?_⟩;exact ROk.fin (B:=w.heap.size+1) r_.out o_.out (u6q _ _ _ (D1 (by decide) (by decide)) (D1 (by omega) (by omega)) (Nat.zero_le _)) q (R_ _) (by omega) l.2 _ _ _ _
 · have X: ∃N b95,Hid (H8 ⟨(j0 ts).text.toArray⟩ (nmB ns) 0=N)/\((⟨(j0 ts).text.toArray⟩:ByteArray).toList== [95])=b95/\((N<0/\b95=false)\/(N<0/\b95=true)\/(¬N<0/\b95=true)):=by
    refine⟨_,_,D_ (lq (j0 ts).text ns 0),O,?_⟩;by_cases hm:(j0 ts).text∈ns
    · rw [J_ hm];refine .inr (.inr ⟨by omega,?_⟩);apply Classical.byContradiction
      intro hc;exact p ⟨hm,fun e=>hc (by rw [e];rfl)⟩
    · rw [I_ hm];cases I:((j0 ts).text== [95])
      · exact .inl ⟨by decide,rfl⟩
      · exact .inr (.inl ⟨by decide,rfl⟩)
   rw [I_ p];obtain⟨N,b95,hN,M,b_⟩:=X;rw [<-lq,hN.out]at H;have HR:=D_ (fun W (I:Below w.heap.size w W)=>C7 W r v ts ns (z.out.below I) (by omega));clear O hN;obtain⟨i0,Y,y_,z_,hz2⟩:=J6 infoStr;obtain⟨adv,capv,m_,x_,hvc,_⟩:=z.out.names.view;rw [m5]at m_ x_;subst m_;generalize k_:(j0 ts).text=sx at*;have HSX:=D_ k_;clear k_ p;generalize l_:(⟨sx.toArray⟩:ByteArray)=u at*;have v_:=D_ l_;clear l_;by_cases m:ns.length=200
   · rw [J_ m];have e200:(((ns.length:Nat):Int)==200)=true:=by rw [m];rfl
     clear m;generalize j0 ts=t at*;rcases b_ with⟨n,rfl⟩|⟨n,rfl⟩|⟨n,rfl⟩
     all_goals
      go_enter Tryz.func145,Tryz.ntmps145;go_wp2_with fail;refine(V.out _ (G.out _)).mono ?_;rintro e w1 ⟨rfl,i⟩;have a:=(G.out (.cells #[.int .i64 0,.string ⟨#[]⟩,.int .i64 0,.slice none 0 0] 26)).trans (i.mono (by simp));have c:=z.out.below a;have d:=D_ a;obtain⟨g,k,cap,c_,y,_⟩:=c.ex;obtain⟨_,r1,_,z1⟩:=E0 y;clear i a c y;go_wp2_with fail;refine(H.out _ d.out).mono ?_;rintro e w2 ⟨rfl,rfl⟩;go_wp2_with fail;refine(HR.out _ d.out).mono ?_;rintro e w3 ⟨rfl,w_⟩;exact⟨rfl,rfl,(d.out.trans (w_.mono d.out.size)).mono (N_ q)⟩
   · rw [I_ m];have e200:(((ns.length:Nat):Int)==200)=false:=by simp;omega
     have hnl:ns.length<200:=by omega
     clear m HR;generalize j0 ts=t at*;have HNM:Hid (w.ownsRow (r+1) 9 1 (.slice adv ns.length capv) ns.length (Xx (nmB ns))):=D_ (by have:=z.out.names;unfold Z1 at this;rwa [m5]at this);rcases b_ with⟨n,rfl⟩|⟨n,rfl⟩|⟨n,rfl⟩
     all_goals
      go_enter Tryz.func145,Tryz.ntmps145;go_wp2_with fail;refine(V.out _ (G.out _)).mono ?_;rintro e w1 ⟨rfl,i⟩;have s:=B0 i HQ.out;have a:=(G.out (.cells #[.int .i64 0,.string ⟨#[]⟩,.int .i64 0,.slice none 0 0] 26)).trans (i.mono (by simp));have c:=z.out.below a;have A:=D_ s;have d:=D_ a;have J:=D_ c;obtain⟨g,k,cap,c_,y,_⟩:=c.ex;obtain⟨_,r1,_,z1⟩:=E0 y;have E:w1.ownsRow (r+1) 9 1 (.slice adv ns.length capv) ns.length (Xx (nmB ns)):=by
       have:=c.names;unfold Z1 at this;rwa [m5]at this
      have hlt1:=c.lt;clear i s a c y;go_wp2_with fail;refine(H.out _ d.out).mono ?_;rintro e w2 ⟨rfl,rfl⟩;go_wp2_with (first
       |(at_builtin;refine wpList_append_lies _ rfl _ _ 56 rfl (r+1) 9 i0 (.string ⟨#[]⟩) 1 16 Tryz.underlying56 Y y_ z_ hz2 rfl (by decide) _ _ _ rfl (World.ownsRow.alloc E _) ⟨w1.heap.size,0,none⟩ 1 1 [.string u] rfl rfl ?c1 ?c2 (by decide) ?c3 ?c4 ?c5 _ rfl ?_))
      case c1=>
       intro j x Z;match j,Z with
       |0,Z=>simp at Z;subst Z;simp [Addr.add]
      case c2=>intro x hx;simp at hx;subst hx;rfl
      case c3=>unfold maxLen;omega
      case c4=>omega
      case c5=>simp;omega
      intro g3 cap3 w3 F D a_ hlt3;have n_:=J.out.grow (v3:=.slice (some ⟨g3,0,none⟩) (ns.length+1) cap3) sx (.cells #[.string u] 9) (by rw [v_.out];exact F) D (a_.elim (fun e=>.inl e.symm) (fun e=>.inr ⟨g3,rfl,by omega⟩));obtain⟨e_,C,s1,s2,s0⟩:=n_;have i_:=C.at A.out (by have:=l.1;omega) l.2;have s_:=D_ e_;have p_:=D_ ((RGo.of_below d.out (N_ q)).trans C);have u_:=D_ i_;have hlr:r<w3.heap.size:=L_ w3 ⟨r,1,none⟩ s1;have U:=C.ne (b:=w.heap.size) (by have:=(Array.getElem?_eq_some_iff.1 A.out).1;omega) l.2;clear e_ C i_ F D a_ E r1 z1 s0;go_wp2_with fail;refine(R5 _ r _ ts _ s_.out h2).mono ?_;rintro e w5 ⟨rfl,f_,T⟩;have j_:=T.at u_.out (by have:=l.1;omega) U;obtain⟨d0,d1,d2,d3,e0,e1,e2,e3⟩:=A0 j_;have t_:=D_ f_;have q_:=D_ (p_.out.trans T);clear f_ T j_ s1 s2;go_wp2_with fail;refine B_ (v:=.agg #[.int .i64 1,.string ⟨#[]⟩,.int .i64 ns.length,.slice none 0 0]) (by simp [results,Tryz.results145,go_sem,d0,d1,d2,d3]) rfl ⟨.slice (some ⟨g3,0,none⟩) (ns.length+1) cap3,none,0,rfl,?_⟩;exact ROk.fin (B:=w.heap.size+1) t_.out q_.out (u6q _ _ _ (D1 (by decide) (by decide)) (D1 (by omega) (by omega)) (Nat.zero_le _)) q (R_ _) (by omega) U _ _ _ _
end Go.Proofs.YtinefdlkajnomaaGreatDoor
