import Derived.Test.YtinefdlkajnomaaGreatDoorMTermMR
import Derived.Laws.AppendOwnNone
namespace Go.Proofs.YtinefdlkajnomaaGreatDoor
open Go.RowKit
set_option maxHeartbeats 20000000
mutual
def Tm.places:Tm->List Int
 | .mk k _ n l=>(if k=1 then [n]else [])++Tm.placess l
def Tm.placess:List Tm->List Int
 | []=> []
 |t::l=>t.places++Tm.placess l
end
theorem Tm.placess_flat (l:List Tm):Tm.placess l=l.flatMap Tm.places:=by
 induction l with
 |nil=>rfl
 |cons t l ih=>show t.places++Tm.placess l=_;rw [ih,List.flatMap_cons]
theorem Tm.places_eq (t:Tm):t.places=(if t.kind=1 then [t.n]else [])++t.args.flatMap Tm.places:=by
 cases t with
 |mk k s n l=>show _++Tm.placess l=_;rw [Tm.placess_flat];rfl
theorem Tm.places_size' (m:Nat): ∀l:List Tm,Tm.sizes l<=m->(l.flatMap Tm.places).length<=Tm.sizes l:=by
 induction m with
 |zero=>
  intro l h;cases l with
  |nil=>exact R_ 0
  |cons t l=>rw [Tm.sizes_cons]at h;have:=t.size_pos;omega
 | succ m ih=>
  intro l h;cases l with
  |nil=>exact R_ 0
  |cons t l=>
   rw [Tm.sizes_cons]at h⊢;have a:=t.size_eq;have b:=ih t.args (by omega);have c:=ih l (by have:=t.size_pos;omega);rw [List.flatMap_cons,P_,t.places_eq,P_];split<;>simp only [List.length_cons,List.length_nil]<;>omega
theorem Tm.places_size (t:Tm):t.places.length<=t.size:=by
 have:=Tm.places_size' _ t.args (R_ _);rw [t.places_eq,t.size_eq,P_];split<;>simp only [List.length_cons,List.length_nil]<;>omega
theorem Dq (f:Tm->List Int) (l:List Tm) (k:Nat) (h:k<l.length):(l.take (k+1)).flatMap f=(l.take k).flatMap f++f (l[k]'h):=by
 rw [U_ h,List.flatMap_append];simp
theorem gX (l:List Tm) (k:Nat):((l.take k).flatMap Tm.places).length<=Tm.sizes l:=
 Nat.le_trans (Tm.places_size' _ (l.take k) (R_ _)) (Tm.sizes_take l k)
def qq (l:List Int):List Value:=l.map (Value.int .i64)
theorem Mz (a b:List Int):qq (a++b)=qq a++qq b:=List.map_append
theorem GJ (l:List Int): ∀u∈qq l,u.oneCell'=true:=by
 intro u a;unfold qq at a;obtain⟨x,_,rfl⟩:=List.mem_map.1 a;rfl
def N1 (B:Nat) (w:World) (v:Value) (l:List Int):Prop:=w.ownsRow B 2 1 v l.length (qq l)
theorem infoNum:(Tryz.prog.info? 2).map (fun i=>(i.zero,i.size,i.bytes))=some (some (.int .i64 0),1,8):=by kernel_rfl
theorem N1.below {B:Nat} {w w':World} {v:Value} {l:List Int} (h:N1 B w v l) (i:Below w.heap.size w w'):N1 B w' v l:=by
 obtain⟨c,d|⟨g,cap,cur,j,a,b,r⟩⟩:=h
 · exact⟨c,.inl d⟩
 · exact⟨c,.inr ⟨g,cap,cur,j,a,(i.block g (Array.getElem?_eq_some_iff.1 b).1).trans b,r⟩⟩
theorem N1.mono {B B':Nat} {w:World} {v:Value} {l:List Int} (h:N1 B w v l) (d:B'<=B):N1 B' w v l:=by
 obtain⟨b,c|⟨g,cap,cur,i,a,r⟩⟩:=h
 · exact⟨b,.inl c⟩
 · exact⟨b,.inr ⟨g,cap,cur,i,Nat.le_trans d a,r⟩⟩
theorem N1.snoc {B:Nat} {w:World} {v:Value} {l l2:List Int} {n:Nat} {xs:List Value} (h:w.ownsRow B 2 1 v n xs) (a:n=(l++l2).length) (hx:xs=qq l++qq l2):N1 B w v (l++l2):=by
 unfold N1;rw [Mz,<-a,<-hx];exact h
theorem N1.src {B:Nat} {w:World} {v:Value} {l:List Int} (h:N1 B w v l):(v=.slice none 0 0/\l= [])\/ ∃g cap,v=.slice (some ⟨g,0,none⟩) l.length cap/\B<=g/\g<w.heap.size/\ ∀j u,(qq l)[j]?=some u->w.cell? ((⟨g,0,none⟩:Addr).add j)=some u:=by
 have d:=h;obtain⟨m,a|⟨g,cap,cur,c,b,i,r⟩⟩:=h
 · exact .inl ⟨a.1,List.eq_nil_of_length_eq_zero a.2⟩
 · refine .inr ⟨g,cap,c,b,(Array.getElem?_eq_some_iff.1 i).1,fun j u k=>?_⟩;exact World.ownsRow.cells d (g:=g) (by rw [c];rfl) j u k
set_option maxRecDepth 100000 in
theorem ref_places (m:Nat): ∀(T:Tm) (ad:Option Addr) (cap:Nat) (w:World),T.size<=m->T.size<=1000000->G6 w T ad cap->
 Calls Tryz.prog 52 #[tmv T ad cap] w fun e w'=> ∃v,e=.returned v/\N1 w.heap.size w' v T.places/\Below w.heap.size w w':=by
 induction m with
 |zero=>intro T ad cap w h;have:=T.size_pos;omega
 | succ m ih=>
  intro T ad cap w hm hM U;have IH:=D_ ih;clear ih;have HI:=D_ U;have k_:=Tm.length_le_sizes T.args;have j_:=T.size_eq;have hl:T.args.length<=1000000:=by omega
  have v_:=U.len;have h_:=U.cap;unfold maxLen at h_;have D:=D_ j_;have n_:=D_ T.places_eq;obtain⟨i0,y,e_,f_,g_⟩:=info_parts infoNum;clear j_ k_ U;have key: ∃(kd:Int) (l0:List Int),Hid (T.kind=kd)/\Hid (T.places=l0++T.args.flatMap Tm.places)/\l0.length<=1/\(((kd==1)=true/\Hid (l0= [T.n]))\/((kd==1)=false/\Hid (l0= []))):=by
   by_cases W:T.kind=1
   · exact⟨T.kind,[T.n],D_ rfl,D_ (by rw [T.places_eq,J_ W]),by simp,.inl ⟨by simpa using W,D_ rfl⟩⟩
   · exact⟨T.kind,[],D_ rfl,D_ (by rw [T.places_eq,I_ W]),by simp,.inr ⟨by simpa using W,D_ rfl⟩⟩
  obtain⟨kd,l0,HK,i_,w_,o_⟩:=key;clear n_;unfold tmv;rw [HK.out];rcases o_ with⟨r_,Y⟩|⟨r_,Y⟩
  · have G:=D_ (fun (o1 o2:Obj)=>(((F_ w.heap.size w).alloc (R_ _) o1).alloc (by simp) o2));go_enter Tryz.func52,Tryz.ntmps52;go_wp2_with (first
     |(at_builtin;refine wpList_append_own _ rfl _ _ 50 rfl (w.heap.size+1) 2 i0 (.int .i64 0) 1 8 Tryz.underlying50 y e_ f_ g_ rfl (by decide) _ _ _ rfl (O_ _ _ _ _) ⟨w.heap.size+1,0,none⟩ 1 1 [.int .i64 T.n] rfl rfl ?c1 ?c2 ?c3 ?c4 ?c5 ?_))
    case c1=>
     intro j u hj;match j,hj with
     |0,hj=>simp at hj;subst hj;simp [Addr.add]
    case c2=>intro u hu;simp at hu;subst hu;rfl
    case c3=>decide
    case c4=>decide
    case c5=>simp
    intro v0 w0 V a _;have E:N1 (w.heap.size+1) w0 v0 l0:=by rw [Y.out];exact V
    have O:Below w.heap.size w w0:=(G.out _ _).grown a (by rw [Z_,Z_];omega) (fun i y=>by cases y);have R:w.heap.size+1<=w0.heap.size:=by have:=a.size;simp at this;omega
    have d3:w0.cell? ⟨w.heap.size,3,none⟩=some (.slice ad T.args.length cap):=by
     rw [World.cell?_of_block (a.block w.heap.size (by rw [Z_,Z_];omega) (fun h=>by cases h)),World.cell?_alloc_past _ _ _ (by simp),World.cell?_alloc_at _ _ _ _ rfl];rfl
    clear V a G;go_wp2_with fail;clear d3;go_loopw [3,17] (fun ov iv wr=> ∃k:Nat,k<=T.args.length/\iv=.int .i64 k/\w.heap.size+1<=wr.heap.size/\Below w.heap.size w wr/\N1 (w.heap.size+1) wr ov (l0++(T.args.take k).flatMap Tm.places)) (fun _ iv _=>T.args.length-(intOf iv).toNat)
    case atStart=>exact⟨0,Nat.zero_le _,rfl,R,O,by rw [List.take_zero,List.flatMap_nil,List.append_nil];exact E⟩
    case round=>
     obtain⟨k,W,rfl,m_,t,c⟩:=hrel;by_cases A:k<T.args.length
     · obtain⟨b,o,rfl⟩:=HI.out.args.addr (by omega);obtain⟨ad1,cap1,c0,c1,c2,c3,z⟩:=(HI.out.args.on t).get k A;have N:=Tm.mem_size (List.getElem_mem A);have s:=D_ (Dq Tm.places T.args k A);have a_:=gX T.args k;generalize T.args[k]=x at*;have s_:=x.places_size;have d_:x.size<=m:=by have:=D.out;omega
       have c_:x.size<=1000000:=by have:=D.out;omega
       have l_:(l0++(T.args.take k).flatMap Tm.places).length<=1000001:=by rw [P_];have:=D.out;omega
       have X:=D_ (IH.out x ad1 cap1 (wr.alloc (.cells #[.int .i64 x.kind,.string x.name,.int .i64 x.n,.slice ad1 x.args.length cap1] 26)) d_ c_ (z.on ((F_ _ wr).alloc (R_ _) _)));have H:Hid (l0++(T.args.take (k+1)).flatMap Tm.places=(l0++(T.args.take k).flatMap Tm.places)++x.places):=D_ (by rw [s.out,List.append_assoc]);clear z N s a_;generalize l0++(T.args.take k).flatMap Tm.places=rs at*;generalize x.places=ys at*;have d:=D_ c;clear c;unfold tmv at X;go_wp2_with fail;refine X.out.mono ?_;rintro e w2 ⟨v2,rfl,g,I⟩;have q:Below wr.heap.size wr w2:=((F_ _ wr).alloc (R_ _) _).trans (I.mono (by simp));have l:=d.out.below q;have B:=World.ownsRow.lt d.out;have p:=t.trans (q.mono t.size);have t_:=q.size;have Z:=D_ B;clear I c0 c1 c2 c3 q B;rcases g.src with⟨rfl,rfl⟩|⟨g2,cap2,rfl,p_,q_,C⟩
       · clear g;go_wp2_with (first
          |(at_builtin;refine wpList_append_own_none rfl _ _ 50 rfl (w.heap.size+1) 2 i0 1 Tryz.underlying50 y _ _ _ rfl l rfl ?_))
         go_wp2;go_roundw
         case rel=>exact⟨k+1,by omega,by go_num,by omega,p,by rw [H.out,List.append_nil];exact l⟩
         case measure=>simp [intOf];omega
       · have J:=D_ C;clear g C;go_wp2_with (first
          |(at_builtin;refine wpList_append_own _ rfl _ _ 50 rfl (w.heap.size+1) 2 i0 (.int .i64 0) 1 8 Tryz.underlying50 y e_ f_ g_ rfl (by decide) _ _ _ rfl l ⟨g2,0,none⟩ ys.length cap2 (qq ys) rfl (by unfold qq;rw [List.length_map];omega) J.out (GJ ys) (by unfold maxLen;omega) (by omega) (by omega) ?_))
         intro v3 w3 r a _;have F:N1 (w.heap.size+1) w3 v3 (rs++ys):=N1.snoc r (by rw [P_]) rfl;have M:Below w.heap.size w w3:=p.grown a p.size (fun i y=>by have:=(Z.out i y).1;omega);have u_:=a.size;clear r a;go_wp2;go_roundw
         case rel=>exact⟨k+1,by omega,by go_num,by omega,M,by rw [H.out];exact F⟩
         case measure=>simp [intOf];omega
     · obtain rfl:k=T.args.length:=by omega
       rw [List.take_of_length_le (R_ _),<-i_.out]at c;have d:=D_ c;clear c;go_wp2_with fail;go_ret;exact⟨_,rfl,d.out.mono (Nat.le_succ _),t⟩
  · have G:=D_ (fun (o1:Obj)=>((F_ w.heap.size w).alloc (R_ _) o1));go_enter Tryz.func52,Tryz.ntmps52;go_wp2_with fail;generalize b_:w.alloc _=w0;have O:Below w.heap.size w w0:=by rw [<-b_];exact G.out _
    have R:w.heap.size+1<=w0.heap.size:=by rw [<-b_];simp
    have E:N1 (w.heap.size+1) w0 (.slice none 0 0) l0:=by rw [Y.out];exact O_ _ _ _ _
    clear b_ G;go_loopw [3,17] (fun ov iv wr=> ∃k:Nat,k<=T.args.length/\iv=.int .i64 k/\w.heap.size+1<=wr.heap.size/\Below w.heap.size w wr/\N1 (w.heap.size+1) wr ov (l0++(T.args.take k).flatMap Tm.places)) (fun _ iv _=>T.args.length-(intOf iv).toNat)
    case atStart=>exact⟨0,Nat.zero_le _,rfl,R,O,by rw [List.take_zero,List.flatMap_nil,List.append_nil];exact E⟩
    case round=>
     obtain⟨k,W,rfl,m_,t,c⟩:=hrel;by_cases A:k<T.args.length
     · obtain⟨b,o,rfl⟩:=HI.out.args.addr (by omega);obtain⟨ad1,cap1,c0,c1,c2,c3,z⟩:=(HI.out.args.on t).get k A;have N:=Tm.mem_size (List.getElem_mem A);have s:=D_ (Dq Tm.places T.args k A);have a_:=gX T.args k;generalize T.args[k]=x at*;have s_:=x.places_size;have d_:x.size<=m:=by have:=D.out;omega
       have c_:x.size<=1000000:=by have:=D.out;omega
       have l_:(l0++(T.args.take k).flatMap Tm.places).length<=1000001:=by rw [P_];have:=D.out;omega
       have X:=D_ (IH.out x ad1 cap1 (wr.alloc (.cells #[.int .i64 x.kind,.string x.name,.int .i64 x.n,.slice ad1 x.args.length cap1] 26)) d_ c_ (z.on ((F_ _ wr).alloc (R_ _) _)));have H:Hid (l0++(T.args.take (k+1)).flatMap Tm.places=(l0++(T.args.take k).flatMap Tm.places)++x.places):=D_ (by rw [s.out,List.append_assoc]);clear z N s a_;generalize l0++(T.args.take k).flatMap Tm.places=rs at*;generalize x.places=ys at*;have d:=D_ c;clear c;unfold tmv at X;go_wp2_with fail;refine X.out.mono ?_;rintro e w2 ⟨v2,rfl,g,I⟩;have q:Below wr.heap.size wr w2:=((F_ _ wr).alloc (R_ _) _).trans (I.mono (by simp));have l:=d.out.below q;have B:=World.ownsRow.lt d.out;have p:=t.trans (q.mono t.size);have t_:=q.size;have Z:=D_ B;clear I c0 c1 c2 c3 q B;rcases g.src with⟨rfl,rfl⟩|⟨g2,cap2,rfl,p_,q_,C⟩
       · clear g;go_wp2_with (first
          |(at_builtin;refine wpList_append_own_none rfl _ _ 50 rfl (w.heap.size+1) 2 i0 1 Tryz.underlying50 y _ _ _ rfl l rfl ?_))
         go_wp2;go_roundw
         case rel=>exact⟨k+1,by omega,by go_num,by omega,p,by rw [H.out,List.append_nil];exact l⟩
         case measure=>simp [intOf];omega
       · have J:=D_ C;clear g C;go_wp2_with (first
          |(at_builtin;refine wpList_append_own _ rfl _ _ 50 rfl (w.heap.size+1) 2 i0 (.int .i64 0) 1 8 Tryz.underlying50 y e_ f_ g_ rfl (by decide) _ _ _ rfl l ⟨g2,0,none⟩ ys.length cap2 (qq ys) rfl (by unfold qq;rw [List.length_map];omega) J.out (GJ ys) (by unfold maxLen;omega) (by omega) (by omega) ?_))
         intro v3 w3 r a _;have F:N1 (w.heap.size+1) w3 v3 (rs++ys):=N1.snoc r (by rw [P_]) rfl;have M:Below w.heap.size w w3:=p.grown a p.size (fun i y=>by have:=(Z.out i y).1;omega);have u_:=a.size;clear r a;go_wp2;go_roundw
         case rel=>exact⟨k+1,by omega,by go_num,by omega,M,by rw [H.out];exact F⟩
         case measure=>simp [intOf];omega
     · obtain rfl:k=T.args.length:=by omega
       rw [List.take_of_length_le (R_ _),<-i_.out]at c;have d:=D_ c;clear c;go_wp2_with fail;go_ret;exact⟨_,rfl,d.out.mono (Nat.le_succ _),t⟩
theorem N1.view {B:Nat} {w:World} {v:Value} {l:List Int} (h:N1 B w v l): ∃ad cap,v=.slice ad l.length cap/\l.length<=cap/\cap<=maxLen/\ ∀j (a:j<l.length),∃g,ad=some ⟨g,0,none⟩/\w.cell? ⟨g,j,none⟩=some (.int .i64 l[j]):=by
 have i:=h;obtain⟨n,⟨rfl,d⟩|⟨g,cap,cur,rfl,k,m,c,b,r⟩⟩:=h
 · refine⟨none,0,by rw [d],by omega,Nat.zero_le _,fun j a=>by omega⟩
 · refine⟨some ⟨g,0,none⟩,cap,rfl,c,b,fun j a=>⟨g,rfl,?_⟩⟩;rw [World.ownsRow.cellAt i j (by omega)];unfold qq;rw [List.getElem?_map,List.getElem?_eq_getElem a];rfl
def j9 (l:List Int) (n:Int):Bool:=l.any fun k=>k==n
theorem hasL_snoc (l:List Int) (n:Int) (k:Nat) (h:k<l.length):j9 (l.take (k+1)) n=(j9 (l.take k) n||(l[k]'h==n)):=by
 unfold j9;rw [U_ h,List.any_append];simp
theorem hasL_hit (l:List Int) (n:Int) (k:Nat) (h:k<l.length) (a:(l[k]'h==n)=true):j9 l n=true:=by
 unfold j9;rw [List.any_eq_true];exact⟨_,List.getElem_mem h,a⟩
theorem ref_Has (l:List Int) (n:Int) (v:Value) (B:Nat) (w:World) (h:N1 B w v l) (s:l.length<=1000000000):
 Calls Tryz.prog 53 #[v,.int .i64 n] w fun e w'=>e=.returned (.bool (j9 l n))/\w=w':=by
 obtain⟨ad,cap,rfl,t,_,a⟩:=h.view;obtain⟨E,i⟩: ∃E,j9 l n=E:=⟨_,rfl⟩;rw [i];have m:=D_ i;have q:=D_ a;clear h i a;go_enter Tryz.func53,Tryz.ntmps53;go_wp2_with fail;go_loop [9] (fun iv=> ∃k:Nat,k<=l.length/\iv=.int .i64 k/\Hid (j9 (l.take k) n=false)) (fun iv=>l.length-(intOf iv).toNat)
 case atStart=>exact⟨0,Nat.zero_le _,rfl,D_ rfl⟩
 case round=>
  obtain⟨k,u,rfl,c⟩:=hrel;by_cases b:k<l.length
  · obtain⟨g,rfl,c0⟩:=q.out k b;have p:=D_ (hasL_snoc l n k b);have o:=D_ (hasL_hit l n k b);generalize l[k]=x at*;cases hx:(x==n)with
    |true=>
     have d:Hid (E=true):=D_ (m.out.symm.trans (o.out hx));go_wp2_with fail;go_ret;exact⟨N7 d.out.symm,rfl⟩
    |false=>
     have r:Hid (j9 (l.take (k+1)) n=false):=D_ (by rw [p.out,c.out,hx];rfl);go_wp2_with fail;go_round
     case rel=>exact⟨k+1,by omega,by go_num,r⟩
     case measure=>simp [intOf];omega
  · have j:=c.out;rw [List.take_of_length_le (by omega)]at j;have d:Hid (E=false):=D_ (m.out.symm.trans j);clear j c;go_wp2_with fail;go_ret;exact⟨N7 d.out.symm,rfl⟩
def I0:List Int->List Int->List Int
 |out,[]=>out
 |out,n::l=>if j9 out n then I0 out l else I0 (out++ [n]) l
def once (l:List Int):List Int:=I0 [] l
theorem IJ (l:List Int) (k:Nat) (h:k<l.length) (out:List Int):I0 out (l.drop k)=if j9 out (l[k]'h)then I0 out (l.drop (k+1))else I0 (out++ [l[k]'h]) (l.drop (k+1)):=by
 rw [List.drop_eq_getElem_cons h];rfl
def Tm.vars (t:Tm):List Int:=once t.places
set_option maxRecDepth 100000 in
theorem ref_Vars (T:Tm) (ad:Option Addr) (cap:Nat) (w:World) (hM:T.size<=1000000) (y:G6 w T ad cap):
 Calls Tryz.prog 29 #[tmv T ad cap] w fun e w'=> ∃v,e=.returned v/\N1 w.heap.size w' v T.vars/\Below w.heap.size w w':=by
 have b: ∀o:Obj,Below w.heap.size w (w.alloc o):=fun o=>(F_ _ w).alloc (R_ _) o;have J:=fun o=>ref_places T.size T ad cap (w.alloc o) (R_ _) hM (y.on (b o));have d_:=T.places_size;obtain⟨E,D⟩: ∃E,T.vars=E:=⟨_,rfl⟩;rw [D];have Y:Hid (I0 [] T.places=E):=D_ D;have Z:=D_ J;have W:=D_ b;obtain⟨i0,I,R,U,V⟩:=info_parts infoNum;clear D J y b;generalize T.places=l at*;unfold tmv at*;go_enter Tryz.func29,Tryz.ntmps29;go_wp2_with fail;refine(Z.out _).mono ?_;rintro e w1 ⟨v1,rfl,d,b⟩;have G:=(W.out _).trans (b.mono (by simp));have M:=b.size;rw [Z_]at M;obtain⟨ad1,cap1,rfl,b_,_,m⟩:=d.view;have X:=D_ m;have a_:=D_ d;clear b m d;go_wp2_with fail;go_loopw [3,9] (fun ov iv wr=> ∃(k:Nat) (out:List Int),k<=l.length/\iv=.int .i64 k/\out.length<=k/\Below w1.heap.size w1 wr/\N1 w1.heap.size wr ov out/\Hid (I0 out (l.drop k)=E)) (fun _ iv _=>l.length-(intOf iv).toNat)
 case atStart=>exact⟨0,[],Nat.zero_le _,rfl,R_ _,F_ _ _,O_ _ _ _ _,Y⟩
 case round=>
  obtain⟨k,out,hk,rfl,c_,h,c,A⟩:=hrel;have O:=h.size;by_cases z:k<l.length
  · obtain⟨g,rfl,c0⟩:=X.out k z;have c1:=(h.cell (p:=⟨g,k,none⟩) (L_ w1 _ c0)).trans c0;have a:=IJ l k z out;rw [A.out]at a;generalize l[k]=x at*;have r:=ref_Has out x u3 w1.heap.size wr c (by omega);cases hx:j9 out x with
    |true=>
     rw [hx]at a r;rw [J_ rfl]at a;have B:=D_ r;have C:=D_ a.symm;clear r a hx c0;go_wp2_with fail;refine B.out.mono ?_;rintro e w' ⟨rfl,rfl⟩;go_wp2_with fail;go_roundw
     case rel=>exact⟨k+1,out,by omega,by go_num,by omega,h,c,C⟩
     case measure=>simp [intOf];omega
    | false=>
     rw [hx]at a r;rw [I_ (by decide)]at a;have B:=D_ r;have C:=D_ a.symm;clear r a hx c0;go_wp2_with fail;refine B.out.mono ?_;rintro e w' ⟨rfl,rfl⟩;go_wp2_with (first
      |(at_builtin;refine wpList_append_own _ rfl _ _ 50 rfl w1.heap.size 2 i0 (.int .i64 0) 1 8 Tryz.underlying50 I R U V rfl (by decide) _ _ _ rfl (World.ownsRow.alloc c _) ⟨wr.heap.size,0,none⟩ 1 1 [.int .i64 x] rfl rfl ?c1 ?c2 ?c3 ?c4 ?c5 ?_))
     case c1=>
      intro j u s;match j,s with
      |0,s=>simp at s;subst s;simp [Addr.add]
     case c2=>intro u N;simp at N;subst N;rfl
     case c3=>unfold maxLen;omega
     case c4=>omega
     case c5=>simp;omega
     intro v3 w3 q n _;have t:N1 w1.heap.size w3 v3 (out++ [x]):=N1.snoc q (by rw [P_];rfl) rfl;have H:Below w1.heap.size w1 w3:=(h.alloc O _).grown n (by rw [Z_];omega) (fun i I=>(World.ownsRow.lt c i I).1);clear q n;go_wp2;go_roundw
     case rel=>exact⟨k+1,out++ [x],by omega,by go_num,by rw [P_,List.length_singleton];omega,H,t,C⟩
     case measure=>simp [intOf];omega
  · have F:=A.out;rw [List.drop_eq_nil_of_le (by omega)]at F;have HR:Hid (out=E):=D_ F;clear F A;go_wp2_with fail;go_ret;exact⟨_,rfl,by rw [<-HR.out];exact N1.mono c (by omega),G.trans (h.mono (by omega))⟩
end Go.Proofs.YtinefdlkajnomaaGreatDoor
