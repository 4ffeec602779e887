import Derived.Test.YtinefdlkajnomaaGreatDoorMReadE
import Derived.Deep.RegionHeld3
import Derived.Test.YtinefdlkajnomaaGreatDoorMIterAll
import Derived.Test.YtinefdlkajnomaaGreatDoorMTermDevAB
import Derived.Deep.DeepCutAuto
namespace Go.Proofs.YtinefdlkajnomaaGreatDoor
open Go.RowKit
set_option maxHeartbeats 20000000
set_option linter.unusedSimpArgs false
attribute [-go_sem] sliced
set_option maxRecDepth 100000 in
theorem Kq (fid:Nat) (he: ∀args w,(callFunc fid args).run Tryz.prog w=.ok (.enter fid args) w) (capt:Array Value) (c:List UInt8) (cb:ByteArray) (M:cb=⟨c.toArray⟩) (x:Rd Tm) (ts:List Tok) (ns:Nms) (w:World) (r:Nat) (v:Value) (h2:2<=ts.length) (h:A1 w r v ts ns)
 (hx: ∀t ts' ns',x=.ok t ts' ns'->T0 ts')
 (s: ∀W,A1 W r v ts.tail ns->RGo r v w v W->w.heap.size<W.heap.size->Calls Tryz.prog fid capt W fun e w'=>Rq r v W x e w'):
 Calls Tryz.prog 169 #[.pointer (some ⟨r,0,none⟩),.string cb,.func (.func fid) #[] capt] w fun e w'=>Rq r v w (J1 c x) e w':=by
 have u:=h.lt;have a:=h.new_ne (R_ _);have G:=D_ (fun o:Obj=>(F_ w.heap.size w).alloc (R_ _) o);have HP:=D_ (fun W (B:Below w.heap.size w W)=>R5 W r v ts ns (h.below B) h2);have Z:=D_ s;have HX:=D_ hx;have hq:=U0 w (.cells #[.int .i64 0,.string ⟨#[]⟩,.int .i64 0,.slice none 0 0] 26);have HQ:=D_ hq;have a_:=D_ M;clear h s hx hq M;unfold J1;cases x with
 |bad o=>
  rw [Rd.bind_bad];go_enter Tryz.func169,Tryz.ntmps169;go_wp2_with fail;refine(HP.out _ (G.out _)).mono ?_;rintro e w1 ⟨rfl,m,d⟩;have k:=(RGo.of_below (r:=r) (v:=v) (G.out (.cells #[.int .i64 0,.string ⟨#[]⟩,.int .i64 0,.slice none 0 0] 26)) (N_ u)).trans d;have A:=D_ m;have i:=D_ k;have y:=d.below.size;rw [Z_]at y;clear m d k;go_wp2_with fail;refine(Z.out _ A.out i.out (by omega)).mono ?_;rintro e w2 ⟨rfl,B⟩;exact⟨rfl,rfl,i.out.below.trans B⟩
 | ok t ts1 ns1=>
  rw [Rd.bind_ok];have D:=HX.out t ts1 ns1 rfl;have b_:=D_ D;have j_:=D.pos;clear HX D;generalize J:(j0 ts1).isP c=b at*;have H:=D_ J;clear J;go_enter Tryz.func169,Tryz.ntmps169;go_wp2_with fail;refine(HP.out _ (G.out _)).mono ?_;rintro e w1 ⟨rfl,m,d⟩;have k:=(RGo.of_below (r:=r) (v:=v) (G.out (.cells #[.int .i64 0,.string ⟨#[]⟩,.int .i64 0,.slice none 0 0] 26)) (N_ u)).trans d;have O:=d.at HQ.out a.1 a.2;have A:=D_ m;have i:=D_ k;have c_:=D_ O;have y:=d.below.size;rw [Z_]at y;clear m d k O;go_wp2_with fail;refine(Z.out _ A.out i.out (by omega)).mono ?_;rintro e w2 ⟨v2,ad,cap,rfl,E,l,X⟩;have R:=l.at c_.out a.1 a.2;have Y:=l.ne (b:=w.heap.size) (by omega) a.2;have T:=U0 w2 (.cells #[.int .i64 t.kind,.string t.name,.int .i64 t.n,.slice ad t.args.length cap] 26);have C:Below w2.heap.size w2 (w2.alloc (.cells #[.int .i64 t.kind,.string t.name,.int .i64 t.n,.slice ad t.args.length cap] 26)):=(F_ _ w2).alloc (R_ _) _;have F:=E.below C;have j:=D_ (x9 _ r v2 ts1 ns1 c cb a_.out F b_.out);have k_:=D_ F;have I:=D_ ((i.out.trans l).alloc u (.cells #[.int .i64 t.kind,.string t.name,.int .i64 t.n,.slice ad t.args.length cap] 26));have d_:=D_ (N0 R (.cells #[.int .i64 t.kind,.string t.name,.int .i64 t.n,.slice ad t.args.length cap] 26));have e_:=D_ T;have N:=E.new_ne (R_ _);have g_:=D_ (X.below C);have f_:=D_ (fun W (B:A1 W r v2 ts1 ns1)=>C7 W r v2 ts1 ns1 B j_);have l_:=l.below.size;clear E l X R T C F;rw [H.out]at j;clear H;cases b with
  |true=>
   rw [J_ rfl]at j;unfold tmv;go_wp2_with fail;refine j.out.mono ?_;rintro e w4 ⟨rfl,p,g⟩;have U:=g.at d_.out a.1 Y;have V:=g.at e_.out N.1 N.2;obtain⟨d0,d1,d2,d3,e0,e1,e2,e3⟩:=A0 U;obtain⟨d4,d5,d6,d7,_⟩:=A0 V;have q:=D_ p;have z:=D_ (I.out.trans g);have h_:=D_ (g_.out.go (by omega) g);clear p g U V;go_wp2_with fail;refine B_ (v:=tmv t ad cap) (by simp [results,Tryz.results169,go_sem,d0,d1,d2,d3,tmv]) rfl ⟨v2,ad,cap,rfl,?_⟩;exact ROk.fin q.out z.out h_.out u (R_ _) y Y _ _ _ _
  |false=>
   rw [I_ (by decide)]at j;unfold tmv;go_wp2_with fail;refine j.out.mono ?_;rintro e w4 ⟨rfl,p,g⟩;have q:=D_ p;have z:=D_ (I.out.trans g);clear p g;go_wp2_with fail;refine(f_.out _ q.out).mono ?_;rintro e w5 ⟨rfl,i_⟩;exact⟨rfl,rfl,z.out.below.trans (i_.mono (by have:=q.out.lt;omega))⟩
end Go.Proofs.YtinefdlkajnomaaGreatDoor
namespace Go.Proofs.YtinefdlkajnomaaGreatDoor
open Go.RowKit
set_option maxHeartbeats 20000000
set_option linter.unusedSimpArgs false
theorem A1.ltv {w:World} {r:Nat} {v:Value} {ts:List Tok} {ns:Nms} (h:A1 w r v ts ns): ∀k,v.ownBlock=some k->k<w.heap.size:=fun k a=>(h.names.lt k a).2
theorem bX {B:Nat} {w:World} {v:Value} {s:List UInt8} {l:List Tm} {ad:Option Addr} {cap:Nat} (c:s.length<=10000) (a:l.length<=cap) (hc:cap<=maxLen) (h:M0 w (fun b=>B<=b/\some b≠v.ownBlock) ad l):TmB B w v (X0 s l) ad cap:=
 ⟨D1 (x:=4) (by decide) (by decide),D1 (x:=0) (by decide) (by decide),by show(⟨s.toArray⟩:ByteArray).size<=maxLen;rw [show(⟨s.toArray⟩:ByteArray).size=s.length from by show s.toArray.size=_;simp];unfold maxLen;omega,a,hc,h⟩
theorem args1 {B:Nat} {w:World} {v:Value} {t:Tm} {ad:Option Addr} {cap:Nat} (d:B<=w.heap.size) (a: ∀k,v.ownBlock=some k->k<w.heap.size) (g:TmB B w v t ad cap):
 M0 (w.alloc (.cells (D0 t ad cap).toArray 26)) (fun b=>B<=b/\some b≠v.ownBlock) (some ⟨w.heap.size,0,none⟩) [t]:=by
 obtain⟨ad',cap',e,_,_,c⟩:=(G2.one (R_ _) d a g).slice;injection e with e1 e2 e3;rw [e1];exact c
def BoxR (w:World) (R r:Nat):Prop:=w.heap[R]?=some (.cells #[.pointer (some ⟨r,0,none⟩)] 86 (0,0))
theorem Y0 {w:World} {q:Nat} {a:Value} {t:TypeId} (h:w.heap[q]?=some (.cells #[a] t (0,0))):w.cell? ⟨q,0,none⟩=some a/\w.frozen? ⟨q,0,none⟩=false:=by
 simp [World.cell?,World.frozen?,h]
set_option maxRecDepth 100000 in
theorem rd_round {m:Nat} {W:Rdr} (p:I5 m W) (ts:List Tok) (ns:Nms) (w:World) (r R:Nat) (v:Value) (B:ts.length<=m) (s:T0 ts) (C:ns.length<=200) (h:A1 w r v ts ns) (q:BoxR w R r):
 Calls Tryz.prog 176 #[.pointer (some ⟨R,0,none⟩)] w fun e w'=>Rq r v w (W 1200 ts ns) e w':=by
 have d:=h.lt;have a:=h.new_ne (R_ _);have g:=D_ (fun o:Obj=>(F_ w.heap.size w).alloc (R_ _) o);have i:=D_ (fun W' (n:Below w.heap.size w W')=>p 1200 ts ns W' r v B s C (h.below n));have z:=D_ (U0 w (.cells #[.int .i64 0,.string ⟨#[]⟩,.int .i64 0,.slice none 0 0] 26));obtain⟨r0,_⟩:=Y0 q;have D:R<w.heap.size:=L_ w ⟨R,0,none⟩ r0;clear h p q s;cases hx:W 1200 ts ns with
 |bad o=>
  rw [hx]at i;go_enter Tryz.func176,Tryz.ntmps176;go_wp2_with fail;refine(i.out _ (g.out _)).mono ?_;rintro e w1 ⟨rfl,n⟩;exact⟨rfl,rfl,((g.out _).mono (N_ d)).trans n⟩
 |ok t ts1 ns1=>
  rw [hx]at i;go_enter Tryz.func176,Tryz.ntmps176;go_wp2_with fail;refine(i.out _ (g.out _)).mono ?_;rintro e w1 ⟨v1,ad,cap,rfl,j,c,l⟩;have k:=c.at z.out a.1 a.2;have u:=c.ne (b:=w.heap.size) (by simp) a.2;obtain⟨d0,d1,d2,d3,e0,e1,e2,e3⟩:=A0 k;have y:=D_ j;have x:=D_ ((RGo.of_below (r:=r) (v:=v) (g.out (.cells #[.int .i64 0,.string ⟨#[]⟩,.int .i64 0,.slice none 0 0] 26)) (N_ d)).trans c);have A:=D_ l;clear j c l k;unfold tmv;go_wp2_with fail;refine B_ (v:=tmv t ad cap) (by simp [results,Tryz.results176,go_sem,d0,d1,d2,d3,tmv]) rfl ⟨v1,ad,cap,rfl,?_⟩;exact ROk.fin y.out x.out A.out d (R_ _) (by simp) u _ _ _ _
set_option maxRecDepth 100000 in
theorem rd_curly {m:Nat} {W:Rdr} (hC:I5 m W) (ts:List Tok) (ns:Nms) (w:World) (r R:Nat) (v:Value) (hm:ts.length<=m) (N:T0 ts) (hn:ns.length<=200) (h:A1 w r v ts ns) (M:BoxR w R r):
 Calls Tryz.prog 179 #[.pointer (some ⟨R,0,none⟩)] w fun e w'=>Rq r v w (T5 W ts ns) e w':=by
 have i:=h.lt;have j:=h.new_ne (R_ _);have u:=D_ (fun o:Obj=>(F_ w.heap.size w).alloc (R_ _) o);have I:=D_ (fun W' (s:Below w.heap.size w W')=>E4 W' r v ts ns (h.below s) N.pos);have J:=D_ (fun W'=>P9 (j0 ts) [125] W');have A:=D_ (fun W' (s:Below w.heap.size w W')=>hC 1200 ts ns W' r v hm N hn (h.below s));have HH:=D_ (fun W' (s:Below w.heap.size w W')=>h.below s);have Y:=D_ (U0 w (.cells #[.int .i64 0,.string ⟨#[]⟩,.int .i64 0,.slice none 0 0] 26));have E:=D_ M;obtain⟨r0,_⟩:=Y0 M;have c_:R<w.heap.size:=L_ w ⟨R,0,none⟩ r0;unfold T5;clear h hC M N;generalize j0 ts=t0 at*;generalize t0.isP [125]=b at*;generalize Y1 t0=tv at*;cases b with
 |true=>
  rw [J_ rfl];go_enter Tryz.func179,Tryz.ntmps179;go_wp2_with fail;refine(I.out _ (u.out _)).mono ?_;rintro e w1 ⟨rfl,a⟩;have g:=D_ ((u.out (.cells #[.int .i64 0,.string ⟨#[]⟩,.int .i64 0,.slice none 0 0] 26)).trans (a.mono (by simp)));have x:=D_ (B0 a Y.out);clear a;go_wp2_with fail;refine(J.out _).mono ?_;rintro e w2 ⟨rfl,c⟩;have d:=D_ (g.out.trans (c.mono g.out.size));have y:=D_ (B0 c x.out);clear c;go_wp2_with fail;refine(O9 _ _).mono ?_;rintro e w3 ⟨rfl,k⟩;have q:=B0 k y.out;obtain⟨d0,d1,d2,d3,e0,e1,e2,e3⟩:=A0 q;have C:=D_ (d.out.trans (k.mono d.out.size));clear k q;go_wp2_with fail;refine B_ (v:=tmv (R1 [123,125]) none 0) (by simp [results,Tryz.results179,go_sem,d0,d1,d2,d3,tmv,R1,Tm.kind,Tm.name,Tm.n,Tm.args]) rfl ⟨v,none,0,rfl,?_⟩;exact ROk.fin (B:=w.heap.size+1) (HH.out _ C.out) (RGo.of_below C.out (N_ i)) (u6q _ _ _ (D1 (by decide) (by decide)) (D1 (by omega) (by omega)) (by unfold maxLen;decide)) i (R_ _) (by omega) j.2 _ _ _ _
 | false=>
  rw [I_ (by decide)];cases hx:W 1200 ts ns with
  |bad o=>
   rw [hx]at A;rw [Rd.bind_bad];go_enter Tryz.func179,Tryz.ntmps179;go_wp2_with fail;refine(I.out _ (u.out _)).mono ?_;rintro e w1 ⟨rfl,a⟩;have g:=D_ ((u.out (.cells #[.int .i64 0,.string ⟨#[]⟩,.int .i64 0,.slice none 0 0] 26)).trans (a.mono (by simp)));clear a;go_wp2_with fail;refine(J.out _).mono ?_;rintro e w2 ⟨rfl,c⟩;have d:=D_ (g.out.trans (c.mono g.out.size));obtain⟨r1,_⟩:=Y0 (B0 d.out E.out);clear c;go_wp2_with fail;refine(A.out _ d.out).mono ?_;rintro e w3 ⟨rfl,k⟩;exact⟨rfl,rfl,(d.out.mono (N_ i)).trans k⟩
  |ok t ts1 ns1=>
   rw [hx]at A;rw [Rd.bind_ok];go_enter Tryz.func179,Tryz.ntmps179;go_wp2_with fail;refine(I.out _ (u.out _)).mono ?_;rintro e w1 ⟨rfl,a⟩;have g:=D_ ((u.out (.cells #[.int .i64 0,.string ⟨#[]⟩,.int .i64 0,.slice none 0 0] 26)).trans (a.mono (by simp)));have x:=D_ (B0 a Y.out);have a_:=a.size;clear a;go_wp2_with fail;refine(J.out _).mono ?_;rintro e w2 ⟨rfl,c⟩;have d:=D_ (g.out.trans (c.mono g.out.size));have y:=D_ (B0 c x.out);obtain⟨r1,_⟩:=Y0 (B0 d.out E.out);have d_:=c.size;rw [Z_]at a_;clear c;go_wp2_with fail;refine(A.out _ d.out).mono ?_;rintro e w3 ⟨v3,ad,cap,rfl,z,p,H⟩;have F:=args1 p.below.size z.ltv H;have q:=p.at y.out j.1 j.2;have b_:=p.ne (b:=w.heap.size) (by omega) j.2;have O:=D_ F;have Z:=D_ (N0 q (.cells (D0 t ad cap).toArray 26));have D:=D_ (z.below ((F_ _ w3).alloc (R_ _) (.cells (D0 t ad cap).toArray 26)));have U:=D_ (((RGo.of_below (r:=r) (v:=v) d.out (N_ i)).trans p).alloc i (.cells (D0 t ad cap).toArray 26));clear z p H F q;unfold tmv;go_wp2_with fail;refine(J8 _ _ _ _ _).mono ?_;rintro e w4 ⟨rfl,l⟩;have X:=D_ (D.out.below l);have V:=D_ (U.out.trans (RGo.of_below l (by have:=D.out.lt;omega)));have G:=B0 l Z.out;obtain⟨d0,d1,d2,d3,e0,e1,e2,e3⟩:=A0 G;have T:=D_ (O.out.kept (fun b _ s=>l.block b s) (fun _ hp _=>hp));clear l G;go_wp2_with fail;refine B_ (v:=tmv (X0 [123,125] [t]) (some ⟨w3.heap.size,0,none⟩) 1) (by simp [results,Tryz.results179,go_sem,d0,d1,d2,d3,tmv,X0,Tm.kind,Tm.name,Tm.n,Tm.args]) rfl ⟨v3,some ⟨w3.heap.size,0,none⟩,1,rfl,?_⟩;exact ROk.fin X.out V.out (bX (by decide) (R_ _) (by show 1<=maxLen;unfold maxLen;decide) T.out) i (R_ _) (by omega) b_ _ _ _ _
end Go.Proofs.YtinefdlkajnomaaGreatDoor
namespace Go.Proofs.YtinefdlkajnomaaGreatDoor
open Go.RowKit
set_option maxHeartbeats 20000000
set_option linter.unusedSimpArgs false
theorem RGo.cell {r:Nat} {v v':Value} {w w':World} (h:RGo r v w v' w') {b i:Nat} {u:Value} (hc:w.cell? ⟨b,i,none⟩=some u) (c:b≠r) (d:some b≠v.ownBlock):w'.cell? ⟨b,i,none⟩=some u:=
 (World.cell?_of_block (w:=w) (w':=w') (a:=⟨b,i,none⟩) (h.keep b (L_ w ⟨b,i,none⟩ hc) c d)).trans hc
theorem l7 {w w':World} (h:Below w.heap.size w w') {b i:Nat} {u:Value} (hc:w.cell? ⟨b,i,none⟩=some u):w'.cell? ⟨b,i,none⟩=some u:=
 (h.cell (p:=⟨b,i,none⟩) (L_ w ⟨b,i,none⟩ hc)).trans hc
theorem D3 {w:World} {q b i:Nat} (h:b≠q) (u0 u1 u2 u3:Value):((((w.setCell ⟨q,0,none⟩ u0).setCell ⟨q,1,none⟩ u1).setCell ⟨q,2,none⟩ u2).setCell ⟨q,3,none⟩ u3).cell? ⟨b,i,none⟩=w.cell? ⟨b,i,none⟩:=
 World.cell?_of_block (by rw [S_ _ _ _ _ (show b≠q from h),S_ _ _ _ _ (show b≠q from h),S_ _ _ _ _ (show b≠q from h),S_ _ _ _ _ (show b≠q from h)])
theorem M0.on {B:Nat} {v:Value} {w w':World} {ad:Option Addr} {l:List Tm} (h:M0 w (fun b=>B<=b/\some b≠v.ownBlock) ad l) (c:Below w.heap.size w w'):M0 w' (fun b=>B<=b/\some b≠v.ownBlock) ad l:=
 h.kept (fun b _ a=>c.block b a) (fun _ d _=>d)
set_option maxRecDepth 100000 in
theorem rd_args {m:Nat} {W:Rdr} (hW:R2 W m) (hC:I5 m W) (hM:m<=10000) (ts:List Tok) (ns:Nms) (w:World) (r R X:Nat) (v:Value) (s:List UInt8) (hs:s.length<=10000) (hm:ts.length<=m) (hf:T0 ts) (hn:ns.length<=200) (h:A1 w r v ts ns)
 (J:w.cell? ⟨R,0,none⟩=some (.pointer (some ⟨r,0,none⟩))) (d_:R≠r) (e_:some R≠v.ownBlock) (M:w.cell? ⟨X,1,none⟩=some (.string ⟨s.toArray⟩)) (g_:X≠r) (h_:some X≠v.ownBlock):
 Calls Tryz.prog 170 #[.pointer (some ⟨X,0,none⟩),.pointer (some ⟨R,0,none⟩)] w fun e w'=>Rq r v w ((Y3 W 16 ts ns).bind fun l ts' ns'=>.ok (X0 s l) ts' ns') e w':=by
 have y:=h.lt;have j:=h.new_ne (R_ _);have T:=D_ (fun o:Obj=>(F_ w.heap.size w).alloc (R_ _) o);have z:Hid (∀W',Below w.heap.size w W'->Calls Tryz.prog 171 #[.pointer (some ⟨r,0,none⟩),.int .i64 16] W' fun e w'=>PZ r v W' (Y3 W 16 ts ns) e w'):=D_ (fun W' (N:Below w.heap.size w W')=>Q9 hW hC hM 16 ts ns W' r v hm hf hn (h.below N));have HQ:=D_ (U0 w (.cells #[.int .i64 0,.string ⟨#[]⟩,.int .i64 0,.slice none 0 0] 26));have Y:=D_ J;have HX:=D_ M;have j_:R<w.heap.size:=L_ w ⟨R,0,none⟩ J;have k_:X<w.heap.size:=L_ w ⟨X,1,none⟩ M;have c_:R≠w.heap.size:=by omega
 have f_:X≠w.heap.size:=by omega
 have A:=D_ (fun (w1:World) (v1:Value) (l:List Tm) (ad:Option Addr) (cap:Nat) (h1:l.length<=cap) (h2:cap<=maxLen) (h3:M0 w1 (fun b=>w.heap.size+1<=b/\some b≠v1.ownBlock) ad l)=>bX (s:=s) hs h1 h2 h3);clear h hC hW hf J M;cases hx:Y3 W 16 ts ns with
 |bad o=>
  rw [hx]at z;rw [Rd.bind_bad];clear A;generalize (⟨s.toArray⟩:ByteArray)=u at*;have d:=D_ ((T.out (.cells #[.int .i64 0,.string ⟨#[]⟩,.int .i64 0,.slice none 0 0] 26)).drew);have n:=D_ (l7 d.out HX.out);have k:=D_ (l7 d.out Y.out);clear hx;go_enter Tryz.func170,Tryz.ntmps170;go_wp2_with fail;refine wp_region_held_drew (S:=(fun W=>W.cell? ⟨X,1,none⟩=some (.string u)/\W.cell? ⟨R,0,none⟩=some (.pointer (some ⟨r,0,none⟩)))) (by kernel_rfl) ⟨n.out,k.out⟩ (fun b_=>?_);refine tK 0 (v:=?v2) rfl (.inl ⟨by rfl,?y2⟩) ?r2
  case y2=>(intro w a;(try dsimp only at a);go_simp;try with_reducible rfl)
  (try simp only [Act.put,T_,C_,E_])
  refine tK 1 (v:=?v3) rfl (.inl ⟨by rfl,?y3⟩) ?r3
  case y3=>(intro w a;(try dsimp only at a);go_simp;try with_reducible rfl)
  (try simp only [Act.put,T_,C_,E_])
  refine tK 2 (v:=?v4) rfl (.inl ⟨by rfl,?y4⟩) ?r4
  case y4=>(intro w a;(try dsimp only at a);go_simp;try with_reducible rfl)
  (try simp only [Act.put,T_,C_,E_])
  refine rY 3 rfl fun K g=>?_;go_simp
  (with_reducible refine(z.out _ d.out).mono ?_);rintro e w1 ⟨rfl,N⟩
  exact⟨rfl,rfl,(d.out.mono (N_ y)).trans N⟩
 |ok l ts1 ns1=>
  rw [hx]at z;rw [Rd.bind_ok];have a_:Hid (∀ad cap,tmv (X0 s l) ad cap=.agg #[.int .i64 4,.string ⟨s.toArray⟩,.int .i64 0,.slice ad l.length cap]):=D_ (fun ad cap=>rfl);generalize (⟨s.toArray⟩:ByteArray)=u at*;have d:=D_ ((T.out (.cells #[.int .i64 0,.string ⟨#[]⟩,.int .i64 0,.slice none 0 0] 26)).drew);have n:=D_ (l7 d.out HX.out);have k:=D_ (l7 d.out Y.out);clear hx;go_enter Tryz.func170,Tryz.ntmps170;go_wp2_with fail;refine wp_region_held_drew (S:=(fun W=>W.cell? ⟨X,1,none⟩=some (.string u)/\W.cell? ⟨R,0,none⟩=some (.pointer (some ⟨r,0,none⟩)))) (by kernel_rfl) ⟨n.out,k.out⟩ (fun t=>?_);refine tK 0 (v:=?v6) rfl (.inl ⟨by rfl,?y6⟩) ?r6
  case y6=>(intro w a;(try dsimp only at a);go_simp;try with_reducible rfl)
  (try simp only [Act.put,T_,C_,E_])
  refine tK 1 (v:=?v7) rfl (.inl ⟨by rfl,?y7⟩) ?r7
  case y7=>(intro w a;(try dsimp only at a);go_simp;try with_reducible rfl)
  (try simp only [Act.put,T_,C_,E_])
  refine tK 2 (v:=?v8) rfl (.inl ⟨by rfl,?y8⟩) ?r8
  case y8=>(intro w a;(try dsimp only at a);go_simp;try with_reducible rfl)
  (try simp only [Act.put,T_,C_,E_])
  refine rY 3 rfl fun K g=>?_;go_simp
  (with_reducible refine(z.out _ d.out).mono ?_);rintro e w1 ⟨v1,ad,cap,rfl,g1,g2,G,c,I⟩
  have E:=D_ (c.cell n.out g_ h_);have C:=D_ (c.cell k.out d_ e_);have V:=D_ (c.at HQ.out j.1 j.2);have B:=D_ G;have Z:=D_ I;have i_:=c.ne (b:=w.heap.size) (by show _<(w.alloc _).heap.size;simp) j.2;have U:=D_ ((RGo.of_below (r:=r) (v:=v) d.out (N_ y)).trans c);clear G c I;try go_wp2_with fail
  refine g.out _ _ ⟨E.out,C.out⟩ (fun x=>?_);clear g K t;(try simp only [Act.put,T_,C_,E_])
  refine rY 4 rfl fun K g=>?_;go_simp
  (with_reducible refine(J8 _ _ _ _ _).mono ?_);rintro e w2 ⟨rfl,i⟩
  have F:=D_ (l7 i E.out);have D:=D_ (l7 i C.out);have H:=B0 i V.out;obtain⟨d0,d1,d2,d3,e0,e1,e2,e3⟩:=A0 H;have q:=D_ i;clear i H;try go_wp2_with fail
  refine g.out _ _ ⟨F.out,D.out⟩ (fun p=>?_);clear g K x;(try simp only [Act.put,T_,C_,E_])
  refine rY 5 rfl fun K g=>?_;go_simp
  try go_wp2_with fail
  refine g.out _ _ ⟨(D3 f_ _ _ _ _).trans F.out,(D3 c_ _ _ _ _).trans D.out⟩ (fun O=>?_);clear g K p;(try simp only [Act.put,T_,C_,E_])
  refine wpAnyH_done (by kernel_rfl) ?_ _;try go_wp2_with fail
  refine B_ (v:=.agg #[.int .i64 4,.string u,.int .i64 0,.slice ad l.length cap]) (by simp [results,Tryz.results170,go_sem,d0,d1,d2,d3]) rfl ⟨v1,ad,cap,by rw [a_.out],?_⟩;exact ROk.fin (B.out.below q.out) (U.out.trans (RGo.of_below q.out (by have:=B.out.lt;omega))) (A.out _ _ _ _ _ g1 g2 ((Z.out.kept (fun _ _ _=>rfl) (fun b hp _=>⟨by have h:=hp.1;simpa using h,hp.2⟩)).on q.out)) y (R_ _) (by omega) i_ _ _ _ _
end Go.Proofs.YtinefdlkajnomaaGreatDoor
namespace Go.Proofs.YtinefdlkajnomaaGreatDoor
open Go.RowKit
set_option maxHeartbeats 20000000
set_option linter.unusedSimpArgs false
def SeqG {α:Type} (P:Program) (g:Nat) (lb:Array Value) (encs:α->Array Value) (At:Nat->α->Prop) (N n₀:Nat) (G:World->Prop) (w:World):Prop:=
 ∀ (l:Nat) (J Jx:(Nat->Prop)->Nat->World->Prop) (W:World),Below w.heap.size w W->Q7 J->Q7 Jx->(∀M k W,J M k W->G W)->
  (∀M k x W1,J M k W1->k<N->At k x->YieldAt Fence.wide 3 P l (encs x) W1 fun e W'=>
    (e=.returned (.bool true)/\J M (k+1) W'/\Below n₀ W1 W'/\T2 M W1 W')\/(e=.returned (.bool false)/\Jx M (k+1) W'))->
  J (fun _=>False) 0 W->
  Calls P g (#[.func (.yield l) #[] #[]]++lb) W fun e W'=>(∃v,e=.returned v)/\((∃M,J M N W')\/(∃M k,k<=N/\Jx M k W'))
theorem Oz {α:Type} {P:Program} {n:Nat} {g:Operand} {ps:Array Tmp} {assign body:Code} {Q:Exit->Act->World->Prop} {a:Act} {w:World}
 {gf:Nat} {lb:Array Value} (hg:a.eval g=.func (.func gf) #[] lb) (eg: ∀args w,(callFunc gf args).run P w=.ok (.enter gf args) w)
 {encs:α->Array Value} {At:Nat->α->Prop} {N n₀:Nat} {w0:World} {G:World->Prop} (j_:SeqG P gf lb encs At N n₀ G w0) (d_:Below w0.heap.size w0 w) (t_:n₀<=w.heap.size) (u_: ∀x,(encs x).size=ps.size)
 (I:(Nat->Prop)->Nat->World->Prop) (Ix:Code->(Nat->Prop)->Nat->World->Prop) (hG: ∀M k W,I M k W->G W) (hI:Q7 I) (O: ∀c,Q7 (Ix c))
 (h0:I (fun _=>False) 0 w)
 (C: ∀(l:Nat) (M:Nat->Prop) (k:Nat) (x:α) (W:World),I M k W->k<N->At k x->(∀j,M j->w.heap.size<=j/\j<W.heap.size)->
   assign.wpIn (Fence.wide.inRound l) 3 P (Exit.then (fun a₁ W₁=>T2 M W W₁/\Below n₀ W W₁/\ ∀W₂,V0 M W₁ W₂->W₂.heap.size=W₁.heap.size->body.wpIn (Fence.wide.inRound l) 3 P (mPost n₀ M I Ix (k+1) W₂) a₁ W₂) (fun _ _ _=>False)) {tmps:=(ps.zip (encs x)).foldl (fun t (p,v)=>t.setIfInBounds p v) a.tmps,defers:= []} W)
 (Y: ∀(D:Nat) (M:Nat->Prop) (W:World),w.heap.size<=D->M D->I M N W->W.heap[D]?=some (.deferred (some []))->Q .normal {a with defers:= {target:=.collected D,args:= #[]}::a.defers} W)
 (Z: ∀(D:Nat) (c:Code) (M:Nat->Prop) (k:Nat) (W:World),w.heap.size<=D->M D->k<=N->Ix c M k W->W.heap[D]?=some (.deferred (some []))->c.wpIn Fence.wide n P Q {a with defers:= {target:=.collected D,args:= #[]}::a.defers} W):
 (Code.rangeFunc g ps assign body).wpIn Fence.wide n P Q a w:=by
 refine wpIn_rangeFunc ?_;intro fn q_;obtain⟨H,hH⟩: ∃H,w.heap.size=H:=⟨_,rfl⟩;rw [hH]at t_ C Y Z;let rec':LoopState->Option Code->Loop:=fun st pe=> {state:=st,pending:=pe,fn,tmps:=a.tmps,params:=ps,assign,body,defers:=H}
 have c_: ∀st pe,rec' st pe= {state:=st,pending:=pe,fn,tmps:=a.tmps,params:=ps,assign,body,defers:=H}:=fun _ _=>rfl;let U:(Nat->Prop)->Nat->Prop:=fun M j=>M j\/j=H\/j=H+1
 have X: ∀M,U M H:=fun M=>.inr (.inl rfl);have r: ∀M,U M (H+1):=fun M=>.inr (.inr rfl);let W1:World:=(w.alloc (.deferred (some []))).alloc (.loop (rec' .ready none))
 have x_:W1.heap.size=H+2:=by show((w.alloc _).alloc _).heap.size=_;rw [Z_,Z_,hH]
 have m_:W1.heap[H+1]?=some (.loop (rec' .ready none)):=by
  have:=World.alloc_heap_new (w.alloc (.deferred (some []))) (.loop (rec' .ready none));rw [Z_,hH]at this;exact this
 have l_:W1.heap[H]?=some (.deferred (some [])):=by
  have h2:=World.alloc_heap_new w (.deferred (some []));rw [hH]at h2;exact(A_ _ _ _ (by rw [Z_];omega)).trans h2
 have k_:I (U fun _=>False) 0 W1:=by
  refine hI _ _ 0 w W1 h0 ((V0.alloc _ w _).trans (V0.alloc _ _ _)) (fun j b=>.inr ?_) (fun j b=>?_)
  · rcases b with b|b|b
    · exact b.elim
    all_goals omega
  · rcases b with b|b|b
    · exact b.elim
    all_goals omega
 have b_:Below w0.heap.size w0 W1:=d_.trans ((((F_ _ w).alloc (R_ _) _).alloc (by simp) _).mono d_.size);refine⟨H+1,[{target:=.collected H,args:= #[]}],W1,{target:=.fn (.func gf) lb,args:= #[.func (.yield (H+1)) #[] #[]]},W1,gf,#[.func (.yield (H+1)) #[] #[]]++lb,W1,?_,?_,?_,?_,fun h=>?_,?_⟩
 · have:=run_enterLoop_outer (P:=P) (w:=w) fn a.tmps ps assign body;rw [hH]at this;exact this
 · simp only [resolve,hg]
   simp [go_sem]
 · intro f' w_;exact trivial
 · simp [invoke,go_sem,eg]
 · cases h
 · have lv: ∀ {M:Nat->Prop} {W:World},(∀j,M j->H+2<=j/\j<W.heap.size)->W.heap[H+1]?=some (.loop (rec' .ready none))-> ∀j,U M j->H<=j/\j<W.heap.size:=fun i m j b=>by
    have:=(Array.getElem?_eq_some_iff.1 m).1;rcases b with b|b|b
    · have:=i j b;omega
    all_goals omega
   refine callsIn_wide.2 ((j_ (H+1)
    (fun M k W=>I (U M) k W/\(∀j,M j->H+2<=j/\j<W.heap.size)/\W.heap[H+1]?=some (.loop (rec' .ready none))/\W.heap[H]?=some (.deferred (some [])))
    (fun M k W=> ∃c,Ix c (U M) k W/\(∀j,M j->H+2<=j/\j<W.heap.size)/\W.heap[H+1]?=some (.loop (rec' .done (some c)))/\W.heap[H]?=some (.deferred (some [])))
    W1 b_ ?_ ?_ (fun M k W h=>hG _ _ _ h.1) ?_ ⟨k_,fun j b=>b.elim,m_,l_⟩).mono ?_)
   ·
    rintro M M' k A B ⟨E,i,m,F⟩ J hs z;have a_:=(Array.getElem?_eq_some_iff.1 m).1;refine⟨hI _ _ k A B E (J.more fun j b=>.inl b) (fun j b=>?_) (fun j b=>?_),fun j b=>⟨?_,z j b⟩,(J.block _ a_ (fun T=>by have:=(i _ T).1;omega)).trans m,(J.block _ (by omega) (fun T=>by have:=(i _ T).1;omega)).trans F⟩
    · rcases b with b|b
      · rcases hs j b with h|h
        · exact .inl (.inl h)
        · exact .inr h
      · exact .inl (.inr b)
    · have:=J.size;rcases b with b|b|b
      · exact z j b
      all_goals omega
    · rcases hs j b with h|h
      · exact(i j h).1
      · omega
   · rintro M M' k A B ⟨c,E,i,m,F⟩ J hs z;have a_:=(Array.getElem?_eq_some_iff.1 m).1;refine⟨c,O c _ _ k A B E (J.more fun j b=>.inl b) (fun j b=>?_) (fun j b=>?_),fun j b=>⟨?_,z j b⟩,(J.block _ a_ (fun T=>by have:=(i _ T).1;omega)).trans m,(J.block _ (by omega) (fun T=>by have:=(i _ T).1;omega)).trans F⟩
     · rcases b with b|b
       · rcases hs j b with h|h
         · exact .inl (.inl h)
         · exact .inr h
       · exact .inl (.inr b)
     · have:=J.size;rcases b with b|b|b
       · exact z j b
       all_goals omega
     · rcases hs j b with h|h
       · exact(i j h).1
       · omega
   ·
    rintro M k x W ⟨E,i,m,F⟩ h_ hx;have hy:=run_yield (P:=P) (args:=encs x) m (u_ x);refine⟨fn,_,assign,body,hy,roundIn_of_wpIn q_ (wpIn_mono (C (H+1) (U M) k x W E h_ hx (lv i m)) ?_)⟩;clear hy;intro e a₁ W₁ he;cases e with
    | normal=>
     obtain⟨R,b_,o_⟩:=he;have e_:=(R.same _ (r M)).trans m;have g_:=(R.same _ (X M)).trans F;have i_:=(Array.getElem?_eq_some_iff.1 e_).1;refine⟨_,run_beginRound e_ rfl,?_⟩;let W₂:=W₁.putObj (H+1) (.loop {rec' .ready none with state:=.busy})
     have v_:W₂.heap.size=W₁.heap.size:=by show(W₁.putObj _ _).heap.size=_;simp
     have s_:W₂.heap[H+1]?=some (.loop {rec' .ready none with state:=.busy}):=World.putObj_heap_same i_;have r_:W₂.heap[H]?=some (.deferred (some [])):=(World.putObj_heap_other (by omega)).trans g_;have n_: ∀j,U M j->H<=j/\j<W₁.heap.size:=fun j b=>by have:=lv i m j b;have:=R.size;omega
     refine wpIn_mono (o_ W₂ (V0.put _ _ (r M) _) v_) ?_;have back: ∀(jump:Option Code) (W₃:World),T2 (U M) W₂ W₃->
      (Instr.endRound (H+1) jump).run P W₃=.ok (.bool jump.isNone) (W₃.putObj (H+1) (.loop (rec' (if jump.isNone then .ready else .done) jump)))/\
      (W₃.putObj (H+1) (.loop (rec' (if jump.isNone then .ready else .done) jump))).heap[H+1]?=some (.loop (rec' (if jump.isNone then .ready else .done) jump))/\
      (W₃.putObj (H+1) (.loop (rec' (if jump.isNone then .ready else .done) jump))).heap[H]?=some (.deferred (some []))/\(∀j,U M j->j<W₃.heap.size):=fun jump W₃ d=>by
      have f_:=(d.same _ (r M)).trans s_;exact⟨run_endRound (P:=P) jump f_,World.putObj_heap_same (Array.getElem?_eq_some_iff.1 f_).1,(World.putObj_heap_other (by omega)).trans ((d.same _ (X M)).trans r_),fun j b=>by have:=n_ j b;have:=d.size;omega⟩
     have keep4: ∀(W₃:World) (o:Obj),T2 (U M) W₂ W₃->T2 M W (W₃.putObj (H+1) o):=fun W₃ o d=>by
      refine⟨by have:=R.size;have:=d.size;simp;omega,fun j b=>?_⟩;have:=(i j b).1;exact(World.putObj_heap_other (by omega)).trans ((d.same j (.inl b)).trans ((World.putObj_heap_other (by omega)).trans (R.same j (.inl b))))
     have stay: ∀ {W₃:World} (o:Obj),(∀j,U M j->j<W₃.heap.size)-> ∀j,U M j->j<(W₃.putObj (H+1) o).heap.size:=fun o h j b=>by rw [World.putObj_size];exact h j b
     rintro e a₃ W₃ hp;cases e with
     |normal=>
      obtain⟨d,p_,s⟩:=hp;obtain⟨V,y,u,q⟩:=back none W₃ d;refine⟨_,_,V,.inl ⟨rfl,⟨hI _ _ (k+1) W₃ _ s (V0.put _ _ (r M) _) (fun j b=>.inl b) (stay _ q),fun j b=>⟨(i j b).1,stay _ q j (.inl b)⟩,y,u⟩,?_,keep4 _ _ d⟩⟩;exact((b_.trans (m7 _ _ (by omega))).trans p_).trans (m7 _ _ (by omega))
     |ret=>
      obtain⟨d,s⟩:=hp;obtain⟨V,y,u,q⟩:=back (some .ret) W₃ d;exact⟨_,_,V,.inr ⟨rfl,.ret,O _ _ _ (k+1) W₃ _ s (V0.put _ _ (r M) _) (fun j b=>.inl b) (stay _ q),fun j b=>⟨(i j b).1,stay _ q j (.inl b)⟩,y,u⟩⟩
     |exit id=>
      obtain⟨d,s⟩:=hp;obtain⟨V,y,u,q⟩:=back (some (.exit id)) W₃ d;exact⟨_,_,V,.inr ⟨rfl,.exit id,O _ _ _ (k+1) W₃ _ s (V0.put _ _ (r M) _) (fun j b=>.inl b) (stay _ q),fun j b=>⟨(i j b).1,stay _ q j (.inl b)⟩,y,u⟩⟩
     |goto t=>
      obtain⟨d,s⟩:=hp;obtain⟨V,y,u,q⟩:=back (some (.goto t)) W₃ d;exact⟨_,_,V,.inr ⟨rfl,.goto t,O _ _ _ (k+1) W₃ _ s (V0.put _ _ (r M) _) (fun j b=>.inl b) (stay _ q),fun j b=>⟨(i j b).1,stay _ q j (.inl b)⟩,y,u⟩⟩
     |panic ch=>exact hp.elim
     |outgrown=>exact hp.elim
    |ret=>exact he.elim
    |exit id=>exact he.elim
    |goto t=>exact he.elim
    |panic ch=>exact he.elim
    |outgrown=>exact he.elim
   ·
    rintro e W2 ⟨⟨v,rfl⟩,(⟨M,E,i,m,F⟩|⟨M,k,hkN,c,E,i,m,F⟩)⟩
    · have z:=(Array.getElem?_eq_some_iff.1 m).1;refine⟨none,_,run_endLoop (P:=P) m (by rw [c_];simp),Y H (U M) _ (R_ _) (X M) (hI _ _ N W2 _ E (V0.put _ _ (r M) _) (fun j b=>.inl b) (fun j b=>?_)) ((World.putObj_heap_other (by omega)).trans F)⟩;rw [World.putObj_size];exact(lv i m j b).2
    · have z:=(Array.getElem?_eq_some_iff.1 m).1;refine⟨some c,_,run_endLoop (P:=P) m (by rw [c_];simp),Z H c (U M) k _ (R_ _) (X M) hkN (O c _ _ k W2 _ E (V0.put _ _ (r M) _) (fun j b=>.inl b) (fun j b=>?_)) ((World.putObj_heap_other (by omega)).trans F)⟩;rw [World.putObj_size];rcases b with b|b|b
      · exact(i j b).2
      all_goals omega
theorem M0.getP {w:World} {P:Nat->Prop} {b o:Nat} {ts:List Tm} (h:M0 w P (some ⟨b,o,none⟩) ts) (i:Nat) (a:i<ts.length):
 ∃ad cap,P b/\w.cell? ⟨b,o+i*4,none⟩=some (.int .i64 (ts[i]'a).kind)/\w.cell? ⟨b,o+i*4+1,none⟩=some (.string (ts[i]'a).name)/\w.cell? ⟨b,o+i*4+2,none⟩=some (.int .i64 (ts[i]'a).n)/\
  w.cell? ⟨b,o+i*4+3,none⟩=some (.slice ad (ts[i]'a).args.length cap)/\TmP w P (ts[i]'a) ad cap:=by
 induction i generalizing o ts with
 |zero=>
  rw [Nat.zero_mul,Nat.add_zero];cases h with
  |nil=>cases a
  |cons _ _ k n nm l ts ad cap hp c0 c1 c2 c3 hk hn hm hl hc ha _=>exact⟨ad,cap,hp,c0,c1,c2,c3,⟨hk,hn,hm,hl,hc,ha⟩⟩
 | succ i ih=>
  cases h with
  |nil=>cases a
  |cons _ _ k n nm l ts ad cap hp c0 c1 c2 c3 hk hn hm hl hc ha hr=>
   have c:=ih hr (by simpa using a);rw [show o+(i+1)*4=o+4+i*4 by omega];exact c
theorem M0.addr2 {w:World} {P:Nat->Prop} {ad:Option Addr} {ts:List Tm} (h:M0 w P ad ts) (a:0<ts.length): ∃b o,ad=some ⟨b,o,none⟩:=by
 cases h with
 |nil=>cases a
 |cons b o=>exact⟨b,o,rfl⟩
def IX (L:List Tm) (w:World) (P:Nat->Prop) (k:Nat) (x:Nat×Tm×Option Addr×Nat):Prop:=x.1+k+1=L.length/\L[x.1]?=some x.2.1/\TmP w P x.2.1 x.2.2.1 x.2.2.2
def backv (x:Nat×Tm×Option Addr×Nat):Array Value:= #[.int .i64 (x.1:Nat),tmv x.2.1 x.2.2.1 x.2.2.2]
def BoxAt (Bt:Nat) (ad:Option Addr) (len cap:Nat) (W:World):Prop:=W.heap[Bt]?=some (.cells #[.slice ad len cap] 24 (0,0))
set_option maxRecDepth 100000 in
theorem WZ (L:List Tm) (ad:Option Addr) (cap Bt n₀:Nat) (w:World) (P:Nat->Prop) (H: ∀b,P b->b<n₀) (a_:L.length<=1000000) (c:M0 w P ad L) (hn:n₀<=w.heap.size):
 SeqG Tryz.prog 72 #[.pointer (some ⟨Bt,0,none⟩)] backv (IX L w P) L.length n₀ (BoxAt Bt ad L.length cap) w:=fun l J Jx W M hJ G y N x=>by
 have HY:=D_ N;have HG:=D_ y;have A:=D_ c;have F:=D_ (M.mono hn);have q:=y _ _ _ x;have C:=D_ x;obtain⟨d0,e0⟩:=Y0 q;clear hJ G N y c M q x;refine(callsIn_wide (n:=4)).1 ?_;refine callsIn_of_wp Tryz.func72 rfl trivial ?_ rfl;simp only [Tryz.ntmps72,List.size_toArray,List.length_cons,List.length_nil,Nat.reduceAdd,Nat.reduceSub,Array.replicate_succ,Array.replicate_zero,List.push_toArray,List.append_toArray,List.nil_append,List.cons_append]
 gi_wp2
 gi_loopw [3] (fun iv wr=> ∃k:Nat,((∃j:Nat,j+k+1=L.length/\iv=.int .i64 (j:Nat))\/(k=L.length/\iv=.int .i64 (-1)))/\J (fun _=>False) k wr/\Below n₀ W wr) (fun iv _=>(intOf iv+1).toNat)
 case atStart=>
  refine⟨0,?_,C.out,F_ _ _⟩;by_cases h:L.length=0
  · exact .inr ⟨h.symm,by rw [h];rfl⟩
  · exact .inl ⟨L.length-1,by omega,by congr 1;omega⟩
 case round=>
  obtain⟨k,T,m,i⟩:=hrel;rcases T with⟨j,V,rfl⟩|⟨Y,rfl⟩
  · have g:=HG.out _ _ _ m;obtain⟨d0,e0⟩:=Y0 g;have d:=A.out.kept (w':=wr) (Q:=fun b=>b<n₀) (fun b z _=>(F.out.trans i).block b (H b z)) (fun b z _=>H b z);obtain⟨b,o,rfl⟩:=d.addr2 (by omega);obtain⟨ad1,cap1,R,c0,c1,c2,c3,_⟩:=d.getP j (by omega);obtain⟨ad2,cap2,_,_,_,_,c3',v⟩:=A.out.getP j (by omega);have a:wr.cell? ⟨b,o+j*4+3,none⟩=w.cell? ⟨b,o+j*4+3,none⟩:=(F.out.trans i).cell (p:=⟨b,o+j*4+3,none⟩) R;rw [c3,c3']at a;have O:ad1=ad2/\cap1=cap2:=by
     injection a with a;injection a with h1 _ h3;exact⟨h1,h3⟩
    obtain⟨rfl,rfl⟩:=O;have s:IX L w P k (j,L[j]'(by omega),ad1,cap1):=⟨V,List.getElem?_eq_getElem _,v⟩;generalize L[j]'(by omega)=t at*;have c_:(0:Int)<=(j:Int)/\(j:Int)<(L.length:Int):=by omega
    have b_:(0:Int)<=(j:Int):=by omega
    obtain⟨fn,tmps,assign,body,Z,I⟩:=HY.out (fun _=>False) k (j,t,ad1,cap1) wr m (by omega) s;unfold backv tmv at Z;dsimp only at Z;have HR:=D_ I;have HB:=D_ i;clear I m g d s v c3' i a;gi_wp2
    refine HR.out.mono ?_;rintro e W3 (⟨rfl,r,u,X⟩|⟨rfl,hJx3⟩)
    · have D:=D_ r;have B:=D_ (HB.out.trans u);clear r u X;gi_wp2
      refine⟨⟨k+1,?_,D.out,B.out⟩,by simp [intOf]⟩;by_cases U:j=0
      · exact .inr ⟨by omega,by subst U;rfl⟩
      · exact .inl ⟨j-1,by omega,by congr 1;omega⟩
    · have E:=D_ hJx3;clear hJx3;gi_wp2
      refine B_ (results_none rfl _ _ _) rfl ?_;exact⟨⟨_,rfl⟩,.inr ⟨_,k+1,by omega,E.out⟩⟩
  · gi_wp2
    go_end0;exact⟨⟨_,rfl⟩,.inl ⟨_,Y▸m⟩⟩
theorem Tz (ad:Option Addr) (len cap:Nat) (w:World):
 Calls Tryz.prog 50 #[.slice ad len cap] w fun e w'=>e=.returned (.func (.func 72) #[] #[.pointer (some ⟨w.heap.size,0,none⟩)])/\w'=w.alloc (.cells #[.slice ad len cap] 24):=by
 have a: ∀(fn:Fn) (first cap:Array Value) (w:World),(Instr.makeFunc fn first cap).run Tryz.prog w=.ok (.func fn first cap) w:=fun _ _ _ _=>rfl;go_enter Tryz.func50,Tryz.ntmps50;go_wp2_with fail;go_ret;exact⟨rfl,rfl⟩
def NZ (w:World) (q B:Nat) (v:Value) (L:List Tm) (e:Tm) (M:Nat->Prop) (k:Nat) (W:World):Prop:=
 ∃ad cap,V0 (fun j=>j=q) w W/\(∀j,M j->w.heap.size<=j)/\W.heap[q]?=some (.cells (D0 (G5 (L.drop (L.length-k)) e) ad cap).toArray 26 (0,0))/\
  TmP W (fun b=>B<=b/\some b≠v.ownBlock/\b≠q/\ ¬M b) (G5 (L.drop (L.length-k)) e) ad cap
theorem Cx (w:World) (q B:Nat) (v:Value) (L:List Tm) (e:Tm) (u:q<w.heap.size):Q7 (NZ w q B v L e):=by
 rintro M M' k X Y ⟨ad,cap,c,l,n,o⟩ i m t;have s:=c.size;have keep: ∀b,b<X.heap.size-> ¬M b->Y.heap[b]?=X.heap[b]?:=fun b d a=>i.block b d a;refine⟨ad,cap,⟨i.os.trans c.os,i.tape.trans c.tape,i.output.trans c.output,Nat.le_trans c.size i.size,fun b d r=>(keep b (by omega) (fun a=>by have:=l b a;omega)).trans (c.block b d r)⟩,fun j p=>?_,(keep q (by omega) (fun a=>by have:=l q a;omega)).trans n,?_⟩
 · rcases m j p with h|h
   · exact l j h
   · omega
 · refine o.kept (fun b g d=>keep b d g.2.2.2) (fun b g d=>⟨g.1,g.2.1,g.2.2.1,fun a=>?_⟩);rcases m b a with h|h
   · exact g.2.2.2 h
   · omega
theorem args2P {B q:Nat} {M:Nat->Prop} {w:World} {v:Value} {t u:Tm} {ad ad2:Option Addr} {cap cap2:Nat} (l:B<=w.heap.size) (d: ∀k,v.ownBlock=some k->k<w.heap.size) (z:q<w.heap.size) (m: ∀j,M j->j<w.heap.size)
 (r:TmP w (fun b=>B<=b/\some b≠v.ownBlock/\b≠q/\ ¬M b) t ad cap) (s:TmP w (fun b=>B<=b/\some b≠v.ownBlock/\b≠q/\ ¬M b) u ad2 cap2):
 M0 (w.alloc (.cells (D0 t ad cap++D0 u ad2 cap2).toArray 26)) (fun b=>B<=b/\some b≠v.ownBlock/\b≠q/\ ¬M b) (some ⟨w.heap.size,0,none⟩) [t,u]:=by
 have i: ∀ {x:Tm} {a:Option Addr} {c:Nat},TmP w (fun b=>B<=b/\some b≠v.ownBlock/\b≠q/\ ¬M b) x a c->TmP (w.alloc (.cells (D0 t ad cap++D0 u ad2 cap2).toArray 26)) (fun b=>B<=b/\some b≠v.ownBlock/\b≠q/\ ¬M b) x a c:=fun h=>TmP.kept h (fun b _ o=>A_ _ _ _ o) (fun _ g _=>g);have n:H4 (w.alloc (.cells (D0 t ad cap++D0 u ad2 cap2).toArray 26)) (fun b=>B<=b/\some b≠v.ownBlock/\b≠q/\ ¬M b) (D0 t ad cap++(D0 u ad2 cap2++ [])) [t,u]:=.cons t ad cap _ _ (i r) (.cons u ad2 cap2 _ _ (i s) .nil);refine n.args w.heap.size ⟨l,fun e=>by have:=d _ e.symm;omega,by omega,fun p=>by have:=m _ p;omega⟩ (fun _ g=>g) 0 (fun j y=>?_);rw [Nat.zero_add,List.append_nil];exact(World.cell?_alloc_at _ _ _ _ rfl).trans (by rw [List.getElem?_toArray])
theorem xj (L:List Tm) (e:Tm) (i k:Nat) (t:Tm) (h:i+k+1=L.length) (c:L[i]?=some t):G5 (L.drop (L.length-(k+1))) e=X0 [46] [t,G5 (L.drop (L.length-k)) e]:=by
 obtain⟨b,a⟩:=List.getElem?_eq_some_iff.1 c;rw [show L.length-(k+1)=i by omega,show L.length-k=i+1 by omega,List.drop_eq_getElem_cons b,a];rfl
theorem A1.keptOn {w w':World} {r:Nat} {v:Value} {ts:List Tok} {ns:Nms} (h:A1 w r v ts ns) (a: ∀b,(b<=r\/v.ownBlock=some b)->b<w.heap.size->w'.heap[b]?=w.heap[b]?):A1 w' r v ts ns:=by
 have d:=h.lt;obtain⟨g,k,cap,i,l,j,hc,m⟩:=h.ex;exact⟨⟨g,k,cap,i,(a r (.inl (R_ _)) d).trans l,j,hc,m.kept (fun c=>a g (.inl (by omega)) c)⟩,h.names.kept (fun b n c=>a b (.inr n) c)⟩
end Go.Proofs.YtinefdlkajnomaaGreatDoor
namespace Go.Proofs.YtinefdlkajnomaaGreatDoor
open Go.RowKit
set_option maxHeartbeats 20000000
set_option linter.unusedSimpArgs false
attribute [local go_sem] Oper.semAt_some
set_option maxRecDepth 100000 in
theorem TQ {m:Nat} {W:Rdr} (hW:R2 W m) (hC:I5 m W) (hM:m<=10000) (ts:List Tok) (ns:Nms) (w:World) (r:Nat) (v:Value) (F:ts.length<=m) (hf:T0 ts) (G:ns.length<=200) (h:A1 w r v ts ns) (l:List Tm) (ts1:List Tok) (ns1:Nms) (hx:Y3 W 4096 ts ns=.ok l ts1 ns1) (hbar:(j0 ts1).isP [124]=false):
 Calls Tryz.prog 178 #[.pointer (some ⟨r,0,none⟩)] w fun e w'=>Rq r v w (.ok (G5 l (R1 [91,93])) ts1 ns1) e w':=by
 have N:=h.lt;have R:=h.new_ne (R_ _);have HB:=D_ (fun o:Obj=>(F_ w.heap.size w).alloc (R_ _) o);have HC:Hid (∀W',Below w.heap.size w W'->Calls Tryz.prog 171 #[.pointer (some ⟨r,0,none⟩),.int .i64 4096] W' fun e w'=>PZ r v W' (Y3 W 4096 ts ns) e w'):=D_ (fun W' (a:Below w.heap.size w W')=>Q9 hW hC hM 4096 ts ns W' r v F hf G (h.below a));have HQ:=D_ (U0 w (.cells #[.int .i64 0,.string ⟨#[]⟩,.int .i64 0,.slice none 0 0] 26));obtain⟨⟨f1,f2,f3⟩,f4,f5,f6⟩:=D4 hW (by decide) F hf G hx;have hl1:l.length<=1000000:=by omega
 have HF1:=D_ f1;rw [hx]at HC;clear h hC hW hf hx f1;refine(callsIn_wide (n:=4)).1 ?_;refine callsIn_of_wp_marks Tryz.func178 rfl trivial ?_ rfl;simp only [Tryz.ntmps178,List.size_toArray,List.length_cons,List.length_nil,Nat.reduceAdd,Nat.reduceSub,Array.replicate_succ,Array.replicate_zero,List.push_toArray,List.append_toArray,List.nil_append,List.cons_append]
 gi_wp2_with ((refine⟨trivial,?_⟩;gi_at_call 171;refine(callsIn_wide.2 (HC.out _ (HB.out _))).mono ?_;rintro e w2 ⟨v2,ad,cap,rfl,g1,g2,hm2,T,x_⟩))
 have q_:=D_ ((RGo.of_below (r:=r) (v:=v) (HB.out (.cells #[.int .i64 0,.string ⟨#[]⟩,.int .i64 0,.slice none 0 0] 26)) (N_ N)).trans T);have s_:=D_ (T.at HQ.out R.1 R.2);have l_:=T.ne (b:=w.heap.size) (by simp) R.2;have d_:=T.below.size;rw [Z_]at d_;have I:=D_ hm2;have n_:=D_ (x_.kept (w':=w2) (Q:=fun b=>w.heap.size+1<=b/\some b≠v2.ownBlock/\b<w2.heap.size) (fun _ _ _=>rfl) (fun b d a=>⟨by have h:=d.1;simpa using h,d.2,a⟩));clear hm2 T x_;gi_wp2_with ((refine⟨trivial,?_⟩;gi_at_call 174;refine(callsIn_wide.2 (O9 _ _)).mono ?_;rintro e w3 ⟨rfl,a_⟩))
 have hs3:=a_.size;have hqn:=U0 w3 (.cells #[.int .i64 2,.string ⟨#[91,93]⟩,.int .i64 0,.slice none 0 0] 26);have A:Below w2.heap.size w2 (w3.alloc (.cells #[.int .i64 2,.string ⟨#[91,93]⟩,.int .i64 0,.slice none 0 0] 26)):=a_.alloc hs3 _;have hm4:=I.out.below A;have V:=(I.out.below a_).new_ne (b:=w3.heap.size) (R_ _);have HP:=D_ (x9 _ r v2 ts1 ns1 [124] ⟨#[124]⟩ rfl hm4 HF1.out);have r_:=D_ hqn;have g:=D_ A;have j_:=A.size;rw [Z_]at j_;rw [hbar]at HP;clear a_ hqn A hm4;rw [I_ (by decide)]at HP;gi_wp2_with ((refine⟨trivial,?_⟩;gi_at_call 189;refine(callsIn_wide.2 HP.out).mono ?_;rintro e w5 ⟨rfl,hm5,C⟩))
 have c_:=C.at r_.out V.1 V.2;have hr5:=C.at (B0 g.out s_.out) R.1 l_;have z_:=n_.out.kept (w':=w5) (Q:=fun b=>w.heap.size+1<=b/\some b≠v2.ownBlock/\b<w3.heap.size) (fun b d a=>(C.keep b (by rw [Z_];omega) (by omega) d.2.1).trans (g.out.block b a)) (fun b d _=>⟨d.1,d.2.1,by omega⟩);have hs5:=C.below.size;rw [Z_]at hs5;have C:=(q_.out.trans (RGo.of_below g.out (by have:=I.out.lt;omega))).trans C;gi_wp2_with ((refine⟨trivial,?_⟩;gi_at_call 50;refine(callsIn_wide.2 (Tz _ _ _ _)).mono ?_;rintro e w9 ⟨rfl,rfl⟩))
 have he5:TmP w5 (fun b=>w.heap.size+1<=b/\some b≠v2.ownBlock/\b≠w3.heap.size/\ ¬False) (R1 [91,93]) none 0:=⟨D1 (x:=2) (by decide) (by decide),D1 (x:=0) (by decide) (by decide),by show 2<=maxLen;unfold maxLen;decide,R_ _,Nat.zero_le _,.nil _⟩;have c_:w5.heap[w3.heap.size]?=some (.cells (D0 (R1 [91,93]) none 0).toArray 26 (0,0)):=c_;have hvq5:=V.2;have hv5:=l_;clear HP r_ g n_ I s_ q_ HC;generalize w3.heap.size=q at*;have g_:G5 (l.drop (l.length-0)) (R1 [91,93])=(R1 [91,93]):=by rw [Nat.sub_zero,List.drop_length];rfl
 generalize s:w5.alloc (.cells #[.slice ad l.length cap] 24)=w6;have hs6:w6.heap.size=w5.heap.size+1:=by rw [<-s];simp
 have hbt:w6.heap[w5.heap.size]?=some (.cells #[.slice ad l.length cap] 24 (0,0)):=by rw [<-s];exact U0 _ _
 have hq6:w6.heap[q]?=some (.cells (D0 (R1 [91,93]) none 0).toArray 26 (0,0)):=by rw [<-s];exact N0 c_ _
 have b_:A1 w6 r v2 ts1 ns1:=by rw [<-s];exact hm5.below ((F_ _ w5).alloc (R_ _) _)
 have hg6:RGo r v w v2 w6:=by rw [<-s];exact C.alloc N _
 have hr6:w6.heap[w.heap.size]?=some (.cells #[.int .i64 0,.string ⟨#[]⟩,.int .i64 0,.slice none 0 0] 26 (0,0)):=by rw [<-s];exact N0 hr5 _
 have ha6:M0 w6 (fun b=>w.heap.size+1<=b/\some b≠v2.ownBlock/\b<q) ad l:=by rw [<-s];exact z_.kept (fun b _ a=>A_ _ _ _ a) (fun _ d _=>d)
 have he6:TmP w6 (fun b=>w.heap.size+1<=b/\some b≠v2.ownBlock/\b≠q/\ ¬False) (R1 [91,93]) none 0:=by rw [<-s];exact he5.kept (fun b _ a=>A_ _ _ _ a) (fun _ d _=>d)
 have X:=WZ l ad cap w5.heap.size q w6 _ (fun b d=>d.2.2) hl1 ha6 (by omega);have h_:NZ w6 q (w.heap.size+1) v2 l (R1 [91,93]) (fun _=>False) 0 w6:=by
  refine⟨none,0,V0.refl _ _,fun _ h=>h.elim,?_,?_⟩
  · rw [g_];exact hq6
  · rw [g_];exact he6
 have hvq:=fun k hk=>b_.ltv k hk;have hrl:=b_.lt;have HM6:=D_ b_;have Y:=D_ hg6;have HR6:=D_ hr6;have HBT:=D_ hbt;clear s hbt hq6 b_ hg6 hr6 ha6 he6 g_ hm5 C hr5 z_ he5 c_;refine Oz (gf:=72) (lb:= #[.pointer (some ⟨w5.heap.size,0,none⟩)]) rfl (enters_of Tryz.func72 (by kernel_rfl) rfl) X (F_ _ _) (by omega) (fun _=>rfl)
  (NZ w6 q (w.heap.size+1) v2 l (R1 [91,93])) (fun _ _ _ _=>False)
  (fun M k W h=>by obtain⟨_,_,E,_⟩:=h;exact(E.block _ (by omega) (by omega)).trans HBT.out) (Cx _ _ _ _ _ _ (by omega)) (fun _=>by rintro _ _ _ _ _ h;exact h.elim) h_ ?round ?done ?stop
 case round=>
  rintro lb M k ⟨i,t,tad,tcap⟩ W1 ⟨ad1,cap1,i1,i2,i3,i5⟩ hk hx w_;dsimp only [IX]at hx;obtain⟨x1,x2,x3⟩:=hx;have t_:=D_ (xj l (R1 [91,93]) i k t x1 x2);have u_: ∀j,M j->j<W1.heap.size:=fun j O=>(w_ j O).2;have hs1:=i1.size;have HX3:=D_ (x3.kept (w':=W1) (Q:=fun b=>w.heap.size+1<=b/\some b≠v2.ownBlock/\b<q) (fun b d a=>i1.block b a (by omega)) (fun _ d _=>d));have z:=D_ i1;have H:=D_ i2;have HI3:=D_ i3;have f_:=D_ i5;have Z:=D_ u_;generalize G5 (l.drop (l.length-k)) (R1 [91,93])=ek at*;clear i1 i2 i3 i5 x2 x3 w_ u_ X h_;unfold backv tmv;dsimp only;gi_wp2
  refine⟨T2.alloc Z.out _,(F_ q W1).alloc (by omega) _,fun W₂ ht d_=>?_⟩;rw [Z_]at d_;have hs2a:W₂.heap.size<=W1.heap.size+1:=by omega
  have hs2b:W1.heap.size+1<=W₂.heap.size:=by omega
  clear d_;have u: ∀b,b<W1.heap.size-> ¬M b->W₂.heap[b]?=W1.heap[b]?:=fun b a hmb=>(ht.block b (by simp;omega) hmb).trans (A_ _ _ _ a);have hnq: ¬M q:=fun F=>by have:=H.out q F;omega
  have U:W₂.heap[q]?=some (.cells #[.int .i64 ek.kind,.string ek.name,.int .i64 ek.n,.slice ad1 ek.args.length cap1] 26 (0,0)):=(u q (by omega) hnq).trans HI3.out;have hxn:W₂.heap[W1.heap.size]?=some (.cells #[.int .i64 t.kind,.string t.name,.int .i64 t.n,.slice tad t.args.length tcap] 26 (0,0)):=(ht.block W1.heap.size (by simp) (fun F=>by have:=Z.out _ F;omega)).trans (U0 W1 _);have e_:V0 (fun j=>j=q) w6 W₂:=⟨ht.os.trans z.out.os,ht.tape.trans z.out.tape,ht.output.trans z.out.output,by omega,fun b a G=>(u b (by omega) (fun F=>by have:=H.out b F;omega)).trans (z.out.block b a G)⟩;have ht2:=HX3.out.kept (w':=W₂) (Q:=fun b=>w.heap.size+1<=b/\some b≠v2.ownBlock/\b≠q/\ ¬M b) (fun b d a=>u b a (fun F=>by have:=H.out b F;omega)) (fun b d _=>⟨d.1,d.2.1,by omega,fun F=>by have:=H.out b F;omega⟩);have he2:=f_.out.kept (w':=W₂) (Q:=fun b=>w.heap.size+1<=b/\some b≠v2.ownBlock/\b≠q/\ ¬M b) (fun b d a=>u b a d.2.2.2) (fun _ d _=>d);obtain⟨c0,c1,c2,c3,_⟩:=A0 U;obtain⟨d0,d1,d2,d3,_⟩:=A0 hxn;have y_:=args2P (B:=w.heap.size+1) (q:=q) (M:=M) (v:=v2) (by omega) (fun b a=>by have:=hvq b a;omega) (by omega) (fun j O=>by have:=Z.out j O;omega) ht2 he2;have HA3:=D_ y_;have o_:=D_ (N0 U (.cells (D0 t tad tcap++D0 ek ad1 cap1).toArray 26));have HTU:=D_ e_;have I:Hid (∀j,M j->j<W₂.heap.size):=D_ (fun j O=>by have:=Z.out j O;omega);clear u U hxn e_ ht2 he2 y_ ht;gi_wp2_with ((refine⟨trivial,?_⟩;gi_at_call 120;refine(CallsIn.inRound lb (callsIn_wide.2 (J8 _ _ _ _ _))).mono ?_;rintro e W₄ ⟨rfl,A⟩;have hq4:=B0 A o_.out;obtain⟨f0,f1,f2,f3,z0,z1,z2,z3⟩:=A0 hq4;have g:=D_ A;clear A hq4))
  have j_:=g.out.size;rw [Z_]at j_;have k_: ∀(u0 u1 u2 u3:Value) b,b≠q->((((W₄.setCell ⟨q,0,none⟩ u0).setCell ⟨q,1,none⟩ u1).setCell ⟨q,2,none⟩ u2).setCell ⟨q,3,none⟩ u3).heap[b]?=W₄.heap[b]?:=fun u0 u1 u2 u3 b a=>by
   rw [S_ _ _ _ _ (show b≠q from a),S_ _ _ _ _ (show b≠q from a),S_ _ _ _ _ (show b≠q from a),S_ _ _ _ _ (show b≠q from a)]
  have y: ∀b,b<W₂.heap.size->b≠q-> ∀u0 u1 u2 u3,((((W₄.setCell ⟨q,0,none⟩ u0).setCell ⟨q,1,none⟩ u1).setCell ⟨q,2,none⟩ u2).setCell ⟨q,3,none⟩ u3).heap[b]?=W₂.heap[b]?:=fun b a hbq u0 u1 u2 u3=>by
   rw [k_ _ _ _ _ _ hbq,g.out.block b (by rw [Z_];omega),A_ _ _ _ a]
  have m_: ∀(n:Nat) (u0 u1 u2 u3:Value),n<=q->Below n W₂ ((((W₄.setCell ⟨q,0,none⟩ u0).setCell ⟨q,1,none⟩ u1).setCell ⟨q,2,none⟩ u2).setCell ⟨q,3,none⟩ u3):=fun n u0 u1 u2 u3 G=>by
   have E:Below n W₂ W₄:=((F_ n W₂).alloc (by omega) _).trans (g.out.mono (by rw [Z_];omega));exact(((E.setCell (p:=⟨q,0,none⟩) G u0).setCell (p:=⟨q,1,none⟩) G u1).setCell (p:=⟨q,2,none⟩) G u2).setCell (p:=⟨q,3,none⟩) G u3
  have J:=m_ q (.int .i64 4) (.string ⟨#[46]⟩) (.int .i64 0) (.slice (some ⟨W₂.heap.size,0,none⟩) 2 2) (R_ _);refine⟨⟨J.size,fun j O=>y j (I.out j O) (fun e=>by have:=H.out j O;omega) _ _ _ _⟩,J,?_⟩;refine⟨some ⟨W₂.heap.size,0,none⟩,2,HTU.out.trans ⟨J.os,J.tape,J.output,J.size,fun b a G=>y b a G _ _ _ _⟩,H.out,?_,?_⟩
  · rw [t_.out];have g0:=H_ (i:=0) (B0 g.out o_.out) (.int .i64 4);have g1:=H_ (i:=1) g0 (.string ⟨#[46]⟩);have g2:=H_ (i:=2) g1 (.int .i64 0);have g3:=H_ (i:=3) g2 (.slice (some ⟨W₂.heap.size,0,none⟩) 2 2);show _=some (Obj.cells #[.int .i64 4,.string ⟨#[46]⟩,.int .i64 0,.slice (some ⟨W₂.heap.size,0,none⟩) 2 2] 26 (0,0))
    simpa using g3
  · rw [t_.out];refine TmP.kept (w:=W₄) (P:=fun b=>w.heap.size+1<=b/\some b≠v2.ownBlock/\b≠q/\ ¬M b) ?_ (fun b d _=>k_ _ _ _ _ b d.2.2.1) (fun _ d _=>d);exact⟨D1 (x:=4) (by decide) (by decide),D1 (x:=0) (by decide) (by decide),by show(1:Nat)<=maxLen;unfold maxLen;decide,by show 2<=2;decide,by show 2<=maxLen;unfold maxLen;decide,HA3.out.kept (fun b _ a=>g.out.block b a) (fun _ d _=>d)⟩
 case done=>
  rintro D M W1 hD v_ ⟨ad1,cap1,i1,i2,i3,i5⟩ hK;rw [Nat.sub_self,List.drop_zero]at i3 i5;have hs1:=i1.size;have i_:=(i1.block w.heap.size (by omega) (by omega)).trans HR6.out;obtain⟨c0,c1,c2,c3,_⟩:=A0 i3;obtain⟨d0,d1,d2,d3,z0,z1,z2,z3⟩:=A0 i_;have z:=D_ i1;have f_:=D_ i5;have HK:=D_ hK;have HR1:=D_ i_;have HMD:=D_ v_;generalize hek:G5 l (R1 [91,93])=ek at*;have p_:=D_ hek;clear hek;clear i1 i2 i3 i5 hK i_ X h_ v_;gi_wp2
  refine⟨by simp,.inl ⟨_,_,rfl,run_takeDeferred (((((S_ _ _ _ _ (show D≠w.heap.size by omega)).trans (S_ _ _ _ _ (show D≠w.heap.size by omega))).trans (S_ _ _ _ _ (show D≠w.heap.size by omega))).trans (S_ _ _ _ _ (show D≠w.heap.size by omega))).trans HK.out),?_⟩⟩;have g0:=H_ (i:=0) HR1.out (.int .i64 ek.kind);have g1:=H_ (i:=1) g0 (.string ek.name);have g2:=H_ (i:=2) g1 (.int .i64 ek.n);have g3:=H_ (i:=3) g2 (.slice ad1 ek.args.length cap1);have g4:=(World.putObj_heap_other (o:=.deferred none) (show w.heap.size≠D by omega)).trans g3;simp only [T_,C_,E_]at g4
  obtain⟨y0,y1,y2,y3,_⟩:=A0 g4;refine⟨tmv ek ad1 cap1,by simp [results,Tryz.results178,go_sem,y0,y1,y2,y3,tmv],v2,ad1,cap1,by rw [p_.out],?_⟩;rw [p_.out];have y: ∀b,b≠w.heap.size->b≠D-> ∀u0 u1 u2 u3,(((((W1.setCell ⟨w.heap.size,0,none⟩ u0).setCell ⟨w.heap.size,1,none⟩ u1).setCell ⟨w.heap.size,2,none⟩ u2).setCell ⟨w.heap.size,3,none⟩ u3).putObj D (.deferred none)).heap[b]?=W1.heap[b]?:=fun b E h2 u0 u1 u2 u3=>by
   rw [World.putObj_heap_other h2,S_ _ _ _ _ (show b≠w.heap.size from E),S_ _ _ _ _ (show b≠w.heap.size from E),S_ _ _ _ _ (show b≠w.heap.size from E),S_ _ _ _ _ (show b≠w.heap.size from E)]
  refine⟨HM6.out.keptOn (fun b a hlt6=>?_),⟨?_,fun b a E h2=>?_,Y.out.own⟩,?_⟩
  · have hb2:b≠q/\b≠w.heap.size:=by
     rcases a with a|a
     · omega
     · exact⟨fun e=>hvq5 (by rw [a,e]),fun e=>l_ (by rw [a,e])⟩
    rw [y b hb2.2 (by omega) _ _ _ _,z.out.block b hlt6 hb2.1]
  · have E:=Y.out.below.trans (z.out.below (n:=r) (fun j O=>by omega) (by omega));exact((((E.setCell (p:=⟨w.heap.size,0,none⟩) (N_ N) _).setCell (p:=⟨w.heap.size,1,none⟩) (N_ N) _).setCell (p:=⟨w.heap.size,2,none⟩) (N_ N) _).setCell (p:=⟨w.heap.size,3,none⟩) (N_ N) _).trans (m7 _ _ (by omega))
  · rw [y b (by omega) (by omega) _ _ _ _,z.out.block b (by have:=Y.out.below.size;omega) (by omega),Y.out.keep b a E h2]
  · exact TmP.kept f_.out (fun b d a=>y b (by omega) (fun e=>d.2.2.2 (e▸HMD.out)) _ _ _ _) (fun b d _=>⟨by omega,d.2.1⟩)
 case stop=>
  rintro D c M k W1 _ _ _ h _;exact h.elim
end Go.Proofs.YtinefdlkajnomaaGreatDoor
namespace Go.Proofs.YtinefdlkajnomaaGreatDoor
open Go.RowKit
set_option maxHeartbeats 20000000
set_option linter.unusedSimpArgs false
attribute [local go_sem] Oper.semAt_some
set_option maxRecDepth 100000 in
theorem tZ {m:Nat} {W:Rdr} (hW:R2 W m) (hC:I5 m W) (hM:m<=10000) (ts:List Tok) (ns:Nms) (w:World) (r:Nat) (v:Value) (G:ts.length<=m) (hf:T0 ts) (H:ns.length<=200) (h:A1 w r v ts ns) (l:List Tm) (ts1:List Tok) (ns1:Nms) (hx:Y3 W 4096 ts ns=.ok l ts1 ns1) (m_:(j0 ts1).isP [124]=true) (t2:Tm) (ts2:List Tok) (ns2:Nms) (hx2:W 999 ts1.tail ns1=.ok t2 ts2 ns2):
 Calls Tryz.prog 178 #[.pointer (some ⟨r,0,none⟩)] w fun e w'=>Rq r v w (.ok (G5 l t2) ts2 ns2) e w':=by
 have U:=h.lt;have J:=h.new_ne (R_ _);have HB:=D_ (fun o:Obj=>(F_ w.heap.size w).alloc (R_ _) o);have HC:Hid (∀W',Below w.heap.size w W'->Calls Tryz.prog 171 #[.pointer (some ⟨r,0,none⟩),.int .i64 4096] W' fun e w'=>PZ r v W' (Y3 W 4096 ts ns) e w'):=D_ (fun W' (a:Below w.heap.size w W')=>Q9 hW hC hM 4096 ts ns W' r v G hf H (h.below a));have HQ:=D_ (U0 w (.cells #[.int .i64 0,.string ⟨#[]⟩,.int .i64 0,.slice none 0 0] 26));obtain⟨⟨f1,f2,f3⟩,f4,f5,f6⟩:=D4 hW (by decide) G hf H hx;obtain⟨f7,f8⟩:=f1.tail (by rw [(U2 m_).1];decide);have hl1:l.length<=1000000:=by omega
 have HF1:=D_ f1;have h_:=D_ (fun W' v' (hh:A1 W' r v' ts1.tail ns1)=>hC 999 ts1.tail ns1 W' r v' (by omega) f7 f3 hh);rw [hx2]at h_;rw [hx]at HC;clear h hC hW hf hx hx2 f1 f7;refine(callsIn_wide (n:=4)).1 ?_;refine callsIn_of_wp_marks Tryz.func178 rfl trivial ?_ rfl;simp only [Tryz.ntmps178,List.size_toArray,List.length_cons,List.length_nil,Nat.reduceAdd,Nat.reduceSub,Array.replicate_succ,Array.replicate_zero,List.push_toArray,List.append_toArray,List.nil_append,List.cons_append]
 gi_wp2_with ((refine⟨trivial,?_⟩;gi_at_call 171;refine(callsIn_wide.2 (HC.out _ (HB.out _))).mono ?_;rintro e w2 ⟨v2,ad,cap,rfl,g1,g2,hm2,X,ha2⟩))
 have y_:=D_ ((RGo.of_below (r:=r) (v:=v) (HB.out (.cells #[.int .i64 0,.string ⟨#[]⟩,.int .i64 0,.slice none 0 0] 26)) (N_ U)).trans X);have HR2:=D_ (X.at HQ.out J.1 J.2);have s_:=X.ne (b:=w.heap.size) (by simp) J.2;have f_:=X.below.size;rw [Z_]at f_;have O:=D_ hm2;have u_:=D_ (ha2.kept (w':=w2) (Q:=fun b=>w.heap.size+1<=b/\some b≠v2.ownBlock/\b<w2.heap.size) (fun _ _ _=>rfl) (fun b d a=>⟨by have h:=d.1;simpa using h,d.2,a⟩));clear hm2 X ha2;gi_wp2_with ((refine⟨trivial,?_⟩;gi_at_call 174;refine(callsIn_wide.2 (O9 _ _)).mono ?_;rintro e w3 ⟨rfl,d_⟩))
 have hs3:=d_.size;have hqn:=U0 w3 (.cells #[.int .i64 2,.string ⟨#[91,93]⟩,.int .i64 0,.slice none 0 0] 26);have E:Below w2.heap.size w2 (w3.alloc (.cells #[.int .i64 2,.string ⟨#[91,93]⟩,.int .i64 0,.slice none 0 0] 26)):=d_.alloc hs3 _;have hm4:=O.out.below E;have I:=(O.out.below d_).new_ne (b:=w3.heap.size) (R_ _);have HP:=D_ (x9 _ r v2 ts1 ns1 [124] ⟨#[124]⟩ rfl hm4 HF1.out);have HQN:=D_ hqn;have s:=D_ E;have r_:=E.size;rw [Z_]at r_;rw [m_]at HP;clear d_ hqn E hm4;rw [J_ rfl]at HP;gi_wp2_with ((refine⟨trivial,?_⟩;gi_at_call 189;refine(callsIn_wide.2 HP.out).mono ?_;rintro e w7 ⟨rfl,hm7,T⟩))
 have hs7:=T.below.size;rw [Z_]at hs7;have hq7:=T.at HQN.out I.1 I.2;have hr7:=T.at (B0 s.out HR2.out) J.1 s_;have ha7:=u_.out.kept (w':=w7) (Q:=fun b=>w.heap.size+1<=b/\some b≠v2.ownBlock/\b<w3.heap.size) (fun b d a=>(T.keep b (by rw [Z_];omega) (by omega) d.2.1).trans (s.out.block b a)) (fun b d _=>⟨d.1,d.2.1,by omega⟩);have HM7:=D_ hm7;have HQ7:=D_ hq7;have HR7:=D_ hr7;have v_:=D_ ha7;have z_:=D_ ((y_.out.trans (RGo.of_below s.out (by have:=O.out.lt;omega))).trans T);have hq7v:=I.2;clear hm7 T hq7 hr7 ha7 HP HQN s u_ O HR2 y_ HC;gi_wp2_with ((refine⟨trivial,?_⟩;gi_at_call 92;refine(callsIn_wide.2 (h_.out _ _ HM7.out)).mono ?_;rintro e w8 ⟨v5,ad2,cap2,rfl,hm8,n_,ht8⟩;have p_:=n_.at HQ7.out I.1 I.2;obtain⟨b0,b1,b2,b3,y0,y1,y2,y3⟩:=A0 p_;have j_:=D_ hm8;have A:=D_ n_;have HT8:=D_ ht8;have HQ8:=D_ p_;clear hm8 n_ ht8 p_;unfold tmv))
 gi_wp2_with ((refine⟨trivial,?_⟩;gi_at_call 50;refine(callsIn_wide.2 (Tz _ _ _ _)).mono ?_;rintro e w9 ⟨rfl,rfl⟩))
 generalize Y:(((w8.setCell ⟨w3.heap.size,0,none⟩ (.int .i64 t2.kind)).setCell ⟨w3.heap.size,1,none⟩ (.string t2.name)).setCell ⟨w3.heap.size,2,none⟩ (.int .i64 t2.n)).setCell ⟨w3.heap.size,3,none⟩ (.slice ad2 t2.args.length cap2)=w5;have hs8:=A.out.below.size;have o_:some w3.heap.size≠v5.ownBlock:=A.out.ne (by omega) hq7v;have hs5:w5.heap.size=w8.heap.size:=by rw [<-Y];simp [World.setCell]
 have g: ∀b,b≠w3.heap.size->w5.heap[b]?=w8.heap[b]?:=fun b a=>by
  rw [<-Y,S_ _ _ _ _ (show b≠w3.heap.size from a),S_ _ _ _ _ (show b≠w3.heap.size from a),S_ _ _ _ _ (show b≠w3.heap.size from a),S_ _ _ _ _ (show b≠w3.heap.size from a)]
 have hlt8:=j_.out.lt;have hm5:A1 w5 r v5 ts2 ns2:=j_.out.keptOn (fun b a _=>g b (fun e=>by rcases a with a|a;(· omega);(· exact o_ (by rw [a,e]))));have hg5:RGo r v w v5 w5:=by
  rw [<-Y];exact((((z_.out.trans A.out).set (by omega) (by omega) _).set (by omega) (by omega) _).set (by omega) (by omega) _).set (by omega) (by omega) _
 have hr5:w5.heap[w.heap.size]?=some (.cells #[.int .i64 0,.string ⟨#[]⟩,.int .i64 0,.slice none 0 0] 26 (0,0)):=(g _ (by omega)).trans (A.out.at HR7.out J.1 s_);have hv5:=A.out.ne (b:=w.heap.size) (by omega) s_;have ha5:=v_.out.kept (w':=w5) (Q:=fun b=>w.heap.size+1<=b/\some b≠v5.ownBlock/\b<w3.heap.size) (fun b d a=>(g b (by omega)).trans (A.out.keep b a (by omega) d.2.1)) (fun b d a=>⟨d.1,A.out.ne a d.2.1,d.2.2⟩);have he5:TmP w5 (fun b=>w.heap.size+1<=b/\some b≠v5.ownBlock/\b≠w3.heap.size/\ ¬False) t2 ad2 cap2:=TmP.kept HT8.out (fun b d _=>g b (by omega)) (fun b d _=>⟨by omega,d.2,by omega,fun h=>h⟩);have hq5:w5.heap[w3.heap.size]?=some (.cells (D0 t2 ad2 cap2).toArray 26 (0,0)):=by
  have g0:=H_ (i:=0) HQ8.out (.int .i64 t2.kind);have g1:=H_ (i:=1) g0 (.string t2.name);have g2:=H_ (i:=2) g1 (.int .i64 t2.n);have g3:=H_ (i:=3) g2 (.slice ad2 t2.args.length cap2);rw [<-Y];show _=some (Obj.cells #[.int .i64 t2.kind,.string t2.name,.int .i64 t2.n,.slice ad2 t2.args.length cap2] 26 (0,0))
  simpa using g3
 have hvq5:=o_;have hs5a:w5.heap.size<=w8.heap.size:=by omega
 have hs5b:w8.heap.size<=w5.heap.size:=by omega
 rw [<-hs5];clear HM7 HQ7 HR7 v_ z_ j_ A HT8 HQ8 Y g hs5 h_ b0 b1 b2 b3 y0 y1 y2 y3;generalize w3.heap.size=q at*;have k_:G5 (l.drop (l.length-0)) t2=t2:=by rw [Nat.sub_zero,List.drop_length];rfl
 generalize u:w5.alloc (.cells #[.slice ad l.length cap] 24)=w6;have hs6:w6.heap.size=w5.heap.size+1:=by rw [<-u];simp
 have hbt:w6.heap[w5.heap.size]?=some (.cells #[.slice ad l.length cap] 24 (0,0)):=by rw [<-u];exact U0 _ _
 have hq6:w6.heap[q]?=some (.cells (D0 t2 ad2 cap2).toArray 26 (0,0)):=by rw [<-u];exact N0 hq5 _
 have e_:A1 w6 r v5 ts2 ns2:=by rw [<-u];exact hm5.below ((F_ _ w5).alloc (R_ _) _)
 have hg6:RGo r v w v5 w6:=by rw [<-u];exact hg5.alloc U _
 have hr6:w6.heap[w.heap.size]?=some (.cells #[.int .i64 0,.string ⟨#[]⟩,.int .i64 0,.slice none 0 0] 26 (0,0)):=by rw [<-u];exact N0 hr5 _
 have ha6:M0 w6 (fun b=>w.heap.size+1<=b/\some b≠v5.ownBlock/\b<q) ad l:=by rw [<-u];exact ha5.kept (fun b _ a=>A_ _ _ _ a) (fun _ d _=>d)
 have he6:TmP w6 (fun b=>w.heap.size+1<=b/\some b≠v5.ownBlock/\b≠q/\ ¬False) t2 ad2 cap2:=by rw [<-u];exact he5.kept (fun b _ a=>A_ _ _ _ a) (fun _ d _=>d)
 have a_:=WZ l ad cap w5.heap.size q w6 _ (fun b d=>d.2.2) hl1 ha6 (by omega);have l_:NZ w6 q (w.heap.size+1) v5 l t2 (fun _=>False) 0 w6:=by
  refine⟨ad2,cap2,V0.refl _ _,fun _ h=>h.elim,?_,?_⟩
  · rw [k_];exact hq6
  · rw [k_];exact he6
 have hvq:=fun k hk=>e_.ltv k hk;have hrl:=e_.lt;have HM6:=D_ e_;have b_:=D_ hg6;have HR6:=D_ hr6;have HBT:=D_ hbt;clear u hbt hq6 e_ hg6 hr6 ha6 he6 k_ hm5 hg5 hr5 ha5 he5 hq5;refine Oz (gf:=72) (lb:= #[.pointer (some ⟨w5.heap.size,0,none⟩)]) rfl (enters_of Tryz.func72 (by kernel_rfl) rfl) a_ (F_ _ _) (by omega) (fun _=>rfl)
  (NZ w6 q (w.heap.size+1) v5 l t2) (fun _ _ _ _=>False)
  (fun M k W h=>by obtain⟨_,_,F,_⟩:=h;exact(F.block _ (by omega) (by omega)).trans HBT.out) (Cx _ _ _ _ _ _ (by omega)) (fun _=>by rintro _ _ _ _ _ h;exact h.elim) l_ ?round ?done ?stop
 case round=>
  rintro lb M k ⟨i,t,tad,tcap⟩ W1 ⟨ad1,cap1,i1,i2,i3,i5⟩ hk hx hMl;dsimp only [IX]at hx;obtain⟨x1,x2,x3⟩:=hx;have HST:=D_ (xj l t2 i k t x1 x2);have hM1: ∀j,M j->j<W1.heap.size:=fun j V=>(hMl j V).2;have hs1:=i1.size;have HX3:=D_ (x3.kept (w':=W1) (Q:=fun b=>w.heap.size+1<=b/\some b≠v5.ownBlock/\b<q) (fun b d a=>i1.block b a (by omega)) (fun _ d _=>d));have C:=D_ i1;have N:=D_ i2;have HI3:=D_ i3;have i_:=D_ i5;have c_:=D_ hM1;generalize G5 (l.drop (l.length-k)) t2=ek at*;clear i1 i2 i3 i5 x2 x3 hMl hM1 a_ l_;unfold backv tmv;dsimp only;gi_wp2
  refine⟨T2.alloc c_.out _,(F_ q W1).alloc (by omega) _,fun W₂ ht f_=>?_⟩;rw [Z_]at f_;have hs2a:W₂.heap.size<=W1.heap.size+1:=by omega
  have hs2b:W1.heap.size+1<=W₂.heap.size:=by omega
  clear f_;have y: ∀b,b<W1.heap.size-> ¬M b->W₂.heap[b]?=W1.heap[b]?:=fun b a hmb=>(ht.block b (by simp;omega) hmb).trans (A_ _ _ _ a);have hnq: ¬M q:=fun G=>by have:=N.out q G;omega
  have Z:W₂.heap[q]?=some (.cells #[.int .i64 ek.kind,.string ek.name,.int .i64 ek.n,.slice ad1 ek.args.length cap1] 26 (0,0)):=(y q (by omega) hnq).trans HI3.out;have hxn:W₂.heap[W1.heap.size]?=some (.cells #[.int .i64 t.kind,.string t.name,.int .i64 t.n,.slice tad t.args.length tcap] 26 (0,0)):=(ht.block W1.heap.size (by simp) (fun G=>by have:=c_.out _ G;omega)).trans (U0 W1 _);have g_:V0 (fun j=>j=q) w6 W₂:=⟨ht.os.trans C.out.os,ht.tape.trans C.out.tape,ht.output.trans C.out.output,by omega,fun b a H=>(y b (by omega) (fun G=>by have:=N.out b G;omega)).trans (C.out.block b a H)⟩;have ht2:=HX3.out.kept (w':=W₂) (Q:=fun b=>w.heap.size+1<=b/\some b≠v5.ownBlock/\b≠q/\ ¬M b) (fun b d a=>y b a (fun G=>by have:=N.out b G;omega)) (fun b d _=>⟨d.1,d.2.1,by omega,fun G=>by have:=N.out b G;omega⟩);have he2:=i_.out.kept (w':=W₂) (Q:=fun b=>w.heap.size+1<=b/\some b≠v5.ownBlock/\b≠q/\ ¬M b) (fun b d a=>y b a d.2.2.2) (fun _ d _=>d);obtain⟨c0,c1,c2,c3,_⟩:=A0 Z;obtain⟨d0,d1,d2,d3,_⟩:=A0 hxn;have ha3:=args2P (B:=w.heap.size+1) (q:=q) (M:=M) (v:=v5) (by omega) (fun b a=>by have:=hvq b a;omega) (by omega) (fun j V=>by have:=c_.out j V;omega) ht2 he2;have HA3:=D_ ha3;have w_:=D_ (N0 Z (.cells (D0 t tad tcap++D0 ek ad1 cap1).toArray 26));have HTU:=D_ g_;have O:Hid (∀j,M j->j<W₂.heap.size):=D_ (fun j V=>by have:=c_.out j V;omega);clear y Z hxn g_ ht2 he2 ha3 ht;gi_wp2_with ((refine⟨trivial,?_⟩;gi_at_call 120;refine(CallsIn.inRound lb (callsIn_wide.2 (J8 _ _ _ _ _))).mono ?_;rintro e W₄ ⟨rfl,E⟩;have hq4:=B0 E w_.out;obtain⟨f0,f1,f2,f3,z0,z1,z2,z3⟩:=A0 hq4;have s:=D_ E;clear E hq4))
  have r_:=s.out.size;rw [Z_]at r_;have g: ∀(u0 u1 u2 u3:Value) b,b≠q->((((W₄.setCell ⟨q,0,none⟩ u0).setCell ⟨q,1,none⟩ u1).setCell ⟨q,2,none⟩ u2).setCell ⟨q,3,none⟩ u3).heap[b]?=W₄.heap[b]?:=fun u0 u1 u2 u3 b a=>by
   rw [S_ _ _ _ _ (show b≠q from a),S_ _ _ _ _ (show b≠q from a),S_ _ _ _ _ (show b≠q from a),S_ _ _ _ _ (show b≠q from a)]
  have z: ∀b,b<W₂.heap.size->b≠q-> ∀u0 u1 u2 u3,((((W₄.setCell ⟨q,0,none⟩ u0).setCell ⟨q,1,none⟩ u1).setCell ⟨q,2,none⟩ u2).setCell ⟨q,3,none⟩ u3).heap[b]?=W₂.heap[b]?:=fun b a hbq u0 u1 u2 u3=>by
   rw [g _ _ _ _ _ hbq,s.out.block b (by rw [Z_];omega),A_ _ _ _ a]
  have t_: ∀(n:Nat) (u0 u1 u2 u3:Value),n<=q->Below n W₂ ((((W₄.setCell ⟨q,0,none⟩ u0).setCell ⟨q,1,none⟩ u1).setCell ⟨q,2,none⟩ u2).setCell ⟨q,3,none⟩ u3):=fun n u0 u1 u2 u3 H=>by
   have F:Below n W₂ W₄:=((F_ n W₂).alloc (by omega) _).trans (s.out.mono (by rw [Z_];omega));exact(((F.setCell (p:=⟨q,0,none⟩) H u0).setCell (p:=⟨q,1,none⟩) H u1).setCell (p:=⟨q,2,none⟩) H u2).setCell (p:=⟨q,3,none⟩) H u3
  have R:=t_ q (.int .i64 4) (.string ⟨#[46]⟩) (.int .i64 0) (.slice (some ⟨W₂.heap.size,0,none⟩) 2 2) (R_ _);refine⟨⟨R.size,fun j V=>z j (O.out j V) (fun e=>by have:=N.out j V;omega) _ _ _ _⟩,R,?_⟩;refine⟨some ⟨W₂.heap.size,0,none⟩,2,HTU.out.trans ⟨R.os,R.tape,R.output,R.size,fun b a H=>z b a H _ _ _ _⟩,N.out,?_,?_⟩
  · rw [HST.out];have g0:=H_ (i:=0) (B0 s.out w_.out) (.int .i64 4);have g1:=H_ (i:=1) g0 (.string ⟨#[46]⟩);have g2:=H_ (i:=2) g1 (.int .i64 0);have g3:=H_ (i:=3) g2 (.slice (some ⟨W₂.heap.size,0,none⟩) 2 2);show _=some (Obj.cells #[.int .i64 4,.string ⟨#[46]⟩,.int .i64 0,.slice (some ⟨W₂.heap.size,0,none⟩) 2 2] 26 (0,0))
    simpa using g3
  · rw [HST.out];refine TmP.kept (w:=W₄) (P:=fun b=>w.heap.size+1<=b/\some b≠v5.ownBlock/\b≠q/\ ¬M b) ?_ (fun b d _=>g _ _ _ _ b d.2.2.1) (fun _ d _=>d);exact⟨D1 (x:=4) (by decide) (by decide),D1 (x:=0) (by decide) (by decide),by show(1:Nat)<=maxLen;unfold maxLen;decide,by show 2<=2;decide,by show 2<=maxLen;unfold maxLen;decide,HA3.out.kept (fun b _ a=>s.out.block b a) (fun _ d _=>d)⟩
 case done=>
  rintro D M W1 hD hMD ⟨ad1,cap1,i1,i2,i3,i5⟩ hK;rw [Nat.sub_self,List.drop_zero]at i3 i5;have hs1:=i1.size;have q_:=(i1.block w.heap.size (by omega) (by omega)).trans HR6.out;obtain⟨c0,c1,c2,c3,_⟩:=A0 i3;obtain⟨d0,d1,d2,d3,z0,z1,z2,z3⟩:=A0 q_;have C:=D_ i1;have i_:=D_ i5;have HK:=D_ hK;have HR1:=D_ q_;have HMD:=D_ hMD;generalize hek:G5 l t2=ek at*;have x_:=D_ hek;clear hek;clear i1 i2 i3 i5 hK q_ a_ l_ hMD;gi_wp2
  refine⟨by simp,.inl ⟨_,_,rfl,run_takeDeferred (((((S_ _ _ _ _ (show D≠w.heap.size by omega)).trans (S_ _ _ _ _ (show D≠w.heap.size by omega))).trans (S_ _ _ _ _ (show D≠w.heap.size by omega))).trans (S_ _ _ _ _ (show D≠w.heap.size by omega))).trans HK.out),?_⟩⟩;have g0:=H_ (i:=0) HR1.out (.int .i64 ek.kind);have g1:=H_ (i:=1) g0 (.string ek.name);have g2:=H_ (i:=2) g1 (.int .i64 ek.n);have g3:=H_ (i:=3) g2 (.slice ad1 ek.args.length cap1);have g4:=(World.putObj_heap_other (o:=.deferred none) (show w.heap.size≠D by omega)).trans g3;simp only [T_,C_,E_]at g4
  obtain⟨y0,y1,y2,y3,_⟩:=A0 g4;refine⟨tmv ek ad1 cap1,by simp [results,Tryz.results178,go_sem,y0,y1,y2,y3,tmv],v5,ad1,cap1,by rw [x_.out],?_⟩;rw [x_.out];have z: ∀b,b≠w.heap.size->b≠D-> ∀u0 u1 u2 u3,(((((W1.setCell ⟨w.heap.size,0,none⟩ u0).setCell ⟨w.heap.size,1,none⟩ u1).setCell ⟨w.heap.size,2,none⟩ u2).setCell ⟨w.heap.size,3,none⟩ u3).putObj D (.deferred none)).heap[b]?=W1.heap[b]?:=fun b F h2 u0 u1 u2 u3=>by
   rw [World.putObj_heap_other h2,S_ _ _ _ _ (show b≠w.heap.size from F),S_ _ _ _ _ (show b≠w.heap.size from F),S_ _ _ _ _ (show b≠w.heap.size from F),S_ _ _ _ _ (show b≠w.heap.size from F)]
  refine⟨HM6.out.keptOn (fun b a hlt6=>?_),⟨?_,fun b a F h2=>?_,b_.out.own⟩,?_⟩
  · have hb2:b≠q/\b≠w.heap.size:=by
     rcases a with a|a
     · omega
     · exact⟨fun e=>hvq5 (by rw [a,e]),fun e=>hv5 (by rw [a,e])⟩
    rw [z b hb2.2 (by omega) _ _ _ _,C.out.block b hlt6 hb2.1]
  · have F:=b_.out.below.trans (C.out.below (n:=r) (fun j V=>by omega) (by omega));exact((((F.setCell (p:=⟨w.heap.size,0,none⟩) (N_ U) _).setCell (p:=⟨w.heap.size,1,none⟩) (N_ U) _).setCell (p:=⟨w.heap.size,2,none⟩) (N_ U) _).setCell (p:=⟨w.heap.size,3,none⟩) (N_ U) _).trans (m7 _ _ (by omega))
  · rw [z b (by omega) (by omega) _ _ _ _,C.out.block b (by have:=b_.out.below.size;omega) (by omega),b_.out.keep b a F h2]
  · exact TmP.kept i_.out (fun b d a=>z b (by omega) (fun e=>d.2.2.2 (e▸HMD.out)) _ _ _ _) (fun b d _=>⟨by omega,d.2.1⟩)
 case stop=>
  rintro D c M k W1 _ _ _ h _;exact h.elim
end Go.Proofs.YtinefdlkajnomaaGreatDoor
namespace Go.Proofs.YtinefdlkajnomaaGreatDoor
open Go.RowKit
set_option maxHeartbeats 20000000
set_option linter.unusedSimpArgs false
set_option maxRecDepth 100000 in
theorem rd_list {m:Nat} {W:Rdr} (c:R2 W m) (b:I5 m W) (C:m<=10000) (ts:List Tok) (ns:Nms) (w:World) (r:Nat) (v:Value) (p:ts.length<=m) (d:T0 ts) (q:ns.length<=200) (h:A1 w r v ts ns):
 Calls Tryz.prog 178 #[.pointer (some ⟨r,0,none⟩)] w fun e w'=>Rq r v w (Vq W ts ns) e w':=by
 unfold Vq;have y:=h.lt;have k:=D_ (fun o:Obj=>(F_ w.heap.size w).alloc (R_ _) o);have n:Hid (∀W',Below w.heap.size w W'->Calls Tryz.prog 171 #[.pointer (some ⟨r,0,none⟩),.int .i64 4096] W' fun e w'=>PZ r v W' (Y3 W 4096 ts ns) e w'):=D_ (fun W' (D:Below w.heap.size w W')=>Q9 c b C 4096 ts ns W' r v p d q (h.below D));cases hx:Y3 W 4096 ts ns with
 |bad o=>
  rw [hx]at n;rw [Rd.bind_bad];clear h b c d;go_enter Tryz.func178,Tryz.ntmps178;go_wp2_with fail;refine(n.out _ (k.out _)).mono ?_;rintro e w1 ⟨rfl,D⟩;exact⟨rfl,rfl,((k.out _).mono (N_ y)).trans D⟩
 | ok l ts1 ns1=>
  rw [Rd.bind_ok];unfold z8;cases a:(j0 ts1).isP [124]with
  |false=>
   rw [I_ (by decide),Rd.bind_ok];exact TQ c b C ts ns w r v p d q h l ts1 ns1 hx a
  | true=>
   rw [J_ rfl];cases j:W 999 ts1.tail ns1 with
   |ok t2 ts2 ns2=>
    rw [Rd.bind_ok];exact tZ c b C ts ns w r v p d q h l ts1 ns1 hx a t2 ts2 ns2 j
   |bad o=>
    rw [Rd.bind_bad];obtain⟨⟨f1,f2,f3⟩,f4,f5,f6⟩:=D4 c (by decide) p d q hx;obtain⟨f7,f8⟩:=f1.tail (by rw [(U2 a).1];decide);have F:=D_ f1;have s:=D_ (fun W' v' (O:A1 W' r v' ts1.tail ns1)=>b 999 ts1.tail ns1 W' r v' (by omega) f7 f3 O);rw [j]at s;rw [hx]at n;clear h b c d hx j f1 f7;go_enter Tryz.func178,Tryz.ntmps178;go_wp2_with fail;refine(n.out _ (k.out _)).mono ?_;rintro e w2 ⟨v2,ad,cap,rfl,g1,g2,z,u,M⟩;have G:=D_ (((k.out (.cells #[.int .i64 0,.string ⟨#[]⟩,.int .i64 0,.slice none 0 0] 26)).mono (N_ y)).trans u.below);have t:=D_ z;clear z u M;go_wp2_with fail;refine(O9 _ _).mono ?_;rintro e w3 ⟨rfl,g⟩;have i:Below w2.heap.size w2 (w3.alloc (.cells #[.int .i64 2,.string ⟨#[91,93]⟩,.int .i64 0,.slice none 0 0] 26)):=g.alloc g.size _;have A:=t.out.below i;have J:=D_ (x9 _ r v2 ts1 ns1 [124] ⟨#[124]⟩ rfl A F.out);have E:=D_ (G.out.trans (i.mono (N_ t.out.lt)));rw [a,J_ rfl]at J;clear g i A;go_wp2_with fail;refine J.out.mono ?_;rintro e w7 ⟨rfl,B,x⟩;have I:=D_ B;have H:=D_ (E.out.trans x.below);clear B x;go_wp2_with fail;refine(s.out _ _ I.out).mono ?_;rintro e w8 ⟨rfl,N⟩;exact⟨rfl,rfl,H.out.trans N⟩
set_option maxRecDepth 100000 in
theorem rd_square {m:Nat} {W:Rdr} (Y:R2 W m) (O:I5 m W) (X:m<=10000) (ts:List Tok) (ns:Nms) (w:World) (r R:Nat) (v:Value) (Z:ts.length<=m) (H:T0 ts) (hn:ns.length<=200) (h:A1 w r v ts ns) (G:BoxR w R r):
 Calls Tryz.prog 177 #[.pointer (some ⟨R,0,none⟩)] w fun e w'=>Rq r v w (U4 W ts ns) e w':=by
 have k:=h.lt;have i:=h.new_ne (R_ _);have q:=D_ (fun o:Obj=>(F_ w.heap.size w).alloc (R_ _) o);have E:=D_ (fun W' (x:Below w.heap.size w W')=>E4 W' r v ts ns (h.below x) H.pos);have F:=D_ (fun W'=>P9 (j0 ts) [93] W');have y:=D_ (fun W' (x:Below w.heap.size w W')=>rd_list Y O X ts ns W' r v Z H hn (h.below x));have V:=D_ (fun W' (x:Below w.heap.size w W')=>h.below x);have M:=D_ (U0 w (.cells #[.int .i64 0,.string ⟨#[]⟩,.int .i64 0,.slice none 0 0] 26));have A:=D_ G;obtain⟨r0,_⟩:=Y0 G;have a_:R<w.heap.size:=L_ w ⟨R,0,none⟩ r0;unfold U4;clear h O G H;generalize j0 ts=t0 at*;generalize t0.isP [93]=b at*;generalize Y1 t0=tv at*;cases b with
 |true=>
  rw [J_ rfl];go_enter Tryz.func177,Tryz.ntmps177;go_wp2_with fail;refine(E.out _ (q.out _)).mono ?_;rintro e w1 ⟨rfl,a⟩;have g:=D_ ((q.out (.cells #[.int .i64 0,.string ⟨#[]⟩,.int .i64 0,.slice none 0 0] 26)).trans (a.mono (by simp)));have s:=D_ (B0 a M.out);clear a;go_wp2_with fail;refine(F.out _).mono ?_;rintro e w2 ⟨rfl,c⟩;have d:=D_ (g.out.trans (c.mono g.out.size));have u:=D_ (B0 c s.out);clear c;go_wp2_with fail;refine(O9 _ _).mono ?_;rintro e w3 ⟨rfl,j⟩;have l:=B0 j u.out;obtain⟨d0,d1,d2,d3,e0,e1,e2,e3⟩:=A0 l;have z:=D_ (d.out.trans (j.mono d.out.size));clear j l;go_wp2_with fail;refine B_ (v:=tmv (R1 [91,93]) none 0) (by simp [results,Tryz.results177,go_sem,d0,d1,d2,d3,tmv,R1,Tm.kind,Tm.name,Tm.n,Tm.args]) rfl ⟨v,none,0,rfl,?_⟩;exact ROk.fin (B:=w.heap.size+1) (V.out _ z.out) (RGo.of_below z.out (N_ k)) (u6q _ _ _ (D1 (by decide) (by decide)) (D1 (by omega) (by omega)) (by unfold maxLen;decide)) k (R_ _) (by omega) i.2 _ _ _ _
 | false=>
  rw [I_ (by decide)];cases hx:Vq W ts ns with
  |bad o=>
   rw [hx]at y;go_enter Tryz.func177,Tryz.ntmps177;go_wp2_with fail;refine(E.out _ (q.out _)).mono ?_;rintro e w1 ⟨rfl,a⟩;have g:=D_ ((q.out (.cells #[.int .i64 0,.string ⟨#[]⟩,.int .i64 0,.slice none 0 0] 26)).trans (a.mono (by simp)));clear a;go_wp2_with fail;refine(F.out _).mono ?_;rintro e w2 ⟨rfl,c⟩;have d:=D_ (g.out.trans (c.mono g.out.size));obtain⟨r1,_⟩:=Y0 (B0 d.out A.out);clear c;go_wp2_with fail;refine(y.out _ d.out).mono ?_;rintro e w3 ⟨rfl,j⟩;exact⟨rfl,rfl,(d.out.mono (N_ k)).trans j⟩
  |ok t ts1 ns1=>
   rw [hx]at y;go_enter Tryz.func177,Tryz.ntmps177;go_wp2_with fail;refine(E.out _ (q.out _)).mono ?_;rintro e w1 ⟨rfl,a⟩;have g:=D_ ((q.out (.cells #[.int .i64 0,.string ⟨#[]⟩,.int .i64 0,.slice none 0 0] 26)).trans (a.mono (by simp)));have s:=D_ (B0 a M.out);have T:=a.size;clear a;go_wp2_with fail;refine(F.out _).mono ?_;rintro e w2 ⟨rfl,c⟩;have d:=D_ (g.out.trans (c.mono g.out.size));have u:=D_ (B0 c s.out);obtain⟨r1,_⟩:=Y0 (B0 d.out A.out);have b_:=c.size;rw [Z_]at T;clear c;go_wp2_with fail;refine(y.out _ d.out).mono ?_;rintro e w3 ⟨v3,ad,cap,rfl,C,p,D⟩;have l:=p.at u.out i.1 i.2;have U:=p.ne (b:=w.heap.size) (by omega) i.2;obtain⟨d0,d1,d2,d3,e0,e1,e2,e3⟩:=A0 l;have J:=D_ C;have I:=D_ ((RGo.of_below (r:=r) (v:=v) d.out (N_ k)).trans p);have N:=D_ D;clear C p D l;unfold tmv;go_wp2_with fail;refine B_ (v:=tmv t ad cap) (by simp [results,Tryz.results177,go_sem,d0,d1,d2,d3,tmv]) rfl ⟨v3,ad,cap,rfl,?_⟩;exact ROk.fin J.out I.out N.out k (R_ _) (by omega) U _ _ _ _
end Go.Proofs.YtinefdlkajnomaaGreatDoor
namespace Go.Proofs.YtinefdlkajnomaaGreatDoor
open Go.RowKit
set_option maxHeartbeats 20000000
set_option linter.unusedSimpArgs false
theorem curly_fine {m:Nat} {W:Rdr} (b:R2 W m) {ts:List Tok} {ns:Nms} (d:ts.length<=m) (a:T0 ts) (g:ns.length<=200): ∀t ts' ns',T5 W ts ns=.ok t ts' ns'->T0 ts':=fun t ts' ns' h=>by
 unfold T5 at h;split at h
 · injection h with h1 h2 h3;subst h2;exact a
 · obtain⟨t,ts1,ns1,c,h⟩:=Rd.bind_is h;injection h with h1 h2 h3;subst h2;exact(b _ _ _ _ _ _ d a g c).fine
theorem square_fine {m:Nat} {W:Rdr} (b:R2 W m) {ts:List Tok} {ns:Nms} (i:ts.length<=m) (c:T0 ts) (j:ns.length<=200): ∀t ts' ns',U4 W ts ns=.ok t ts' ns'->T0 ts':=fun t ts' ns' h=>by
 unfold U4 at h;split at h
 · injection h with h1 h2 h3;subst h2;exact c
 · unfold Vq at h;obtain⟨l,ts1,ns1,g,h⟩:=Rd.bind_is h;obtain⟨⟨c1,c2,c3⟩,c4,c5,c6⟩:=D4 b (by decide) i c j g;obtain⟨e,ts2,ns2,a,h⟩:=Rd.bind_is h;injection h with h1 h2 h3;subst h2;unfold z8 at a;split at a
   · rename_i d
     obtain⟨d1,d2⟩:=c1.tail (by rw [(U2 d).1];decide);exact(b _ _ _ _ _ _ (by omega) d1 c3 a).fine
   · injection a with h1 h2 h3;subst h2;exact c1
set_option maxRecDepth 100000 in
theorem sZ {m:Nat} {W:Rdr} (J:R2 W m) (R:I5 m W) (hM:m<=10000) (ts:List Tok) (ns:Nms) (w:World) (r:Nat) (v:Value) (hm:ts.length<=m+1) (T:T0 ts) (hk:(j0 ts).kind≠9) (X:ns.length<=200) (h:A1 w r v ts ns):
 Calls Tryz.prog 146 #[.pointer (some ⟨r,0,none⟩)] w fun e w'=>Rq r v w (q6 W ts ns) e w':=by
 have p:=h.lt;have V:=T.two hk;obtain⟨i,b_⟩:=T.tail hk;have g:ts.tail.length<=m:=by omega
 have s:=h.new_ne (R_ _);have n:=h.new_ne (b:=w.heap.size+1) (Nat.le_succ _);have c_: ∀(fn:Fn) (first cap:Array Value) (w:World),(Instr.makeFunc fn first cap).run Tryz.prog w=.ok (.func fn first cap) w:=fun _ _ _ _=>rfl;have q:=D_ (fun o o2:Obj=>((F_ w.heap.size w).alloc (R_ _) o).alloc (by simp) o2);have A:=D_ (fun W' (Z:Below w.heap.size w W')=>E4 W' r v ts ns (h.below Z) T.pos);have U:=D_ (fun W' (Z:Below w.heap.size w W')=>h.below Z);have y:=D_ (U0 w (.cells #[.pointer (some ⟨r,0,none⟩)] 86));have a_:=D_ (fun W' (Z:Below w.heap.size w W')=>C7 W' r v ts ns (h.below Z) (by omega));have e40:=O1 (j0 ts).text [40];have e91:=O1 (j0 ts).text [91];have e123:=O1 (j0 ts).text [123];have f1:=vQ;unfold q6;unfold Y1 at A;clear h;generalize (j0 ts)=t0 at*;obtain⟨tk,tx,tn,tp⟩:=t0;dsimp only at*;generalize (⟨tx.toArray⟩:ByteArray)=u at*;cases c40:(tx== [40])with
 | true=>
  rw [c40]at e40;rw [J_ rfl];have x:=D_ (fun W' (M:A1 W' r v ts ns) (I:BoxR W' w.heap.size r)=>Kq 176 (enters_of Tryz.func176 (by kernel_rfl) rfl) #[.pointer (some ⟨w.heap.size,0,none⟩)] [41] ⟨#[41]⟩ rfl (W 1200 ts.tail ns) ts ns W' r v V M (fun t ts' ns' hh=>(J _ _ _ _ _ _ g i X hh).fine) (fun W2 Y G _=>rd_round R ts.tail ns W2 r w.heap.size v g i X Y (G.at I s.1 s.2)));obtain⟨E,H⟩: ∃E,J1 [41] (W 1200 ts.tail ns)=E:=⟨_,rfl⟩;rw [H]at x⊢;clear H R J T V g i;cases E with
  |bad o=>
   go_enter Tryz.func146,Tryz.ntmps146;go_wp2_with fail;refine(A.out _ (q.out _ _)).mono ?_;rintro e w1 ⟨rfl,a⟩;have c:=(q.out (.cells #[.pointer (some ⟨r,0,none⟩)] 86) (.cells #[.int .i64 0,.string ⟨#[]⟩,.int .i64 0,.slice none 0 0] 26)).trans (a.mono (by simp;omega));have d:=D_ c;have j:=D_ (B0 a (N0 y.out (.cells #[.int .i64 0,.string ⟨#[]⟩,.int .i64 0,.slice none 0 0] 26)));obtain⟨r1,_⟩:=Y0 j.out;clear a c;go_wp2_with fail;refine(x.out _ (U.out _ d.out) j.out).mono ?_;rintro e w2 ⟨rfl,z⟩;exact⟨rfl,rfl,(d.out.mono (N_ p)).trans z⟩
  |ok t ts1 ns1=>
   go_enter Tryz.func146,Tryz.ntmps146;go_wp2_with fail;refine(A.out _ (q.out _ _)).mono ?_;rintro e w1 ⟨rfl,a⟩;have c:=(q.out (.cells #[.pointer (some ⟨r,0,none⟩)] 86) (.cells #[.int .i64 0,.string ⟨#[]⟩,.int .i64 0,.slice none 0 0] 26)).trans (a.mono (by simp;omega));have d:=D_ c;have j:=D_ (B0 a (N0 y.out (.cells #[.int .i64 0,.string ⟨#[]⟩,.int .i64 0,.slice none 0 0] 26)));have D:=D_ (B0 a (U0 (w.alloc (.cells #[.pointer (some ⟨r,0,none⟩)] 86)) (.cells #[.int .i64 0,.string ⟨#[]⟩,.int .i64 0,.slice none 0 0] 26)));obtain⟨r1,_⟩:=Y0 j.out;have N:=a.size;simp only [Z_]at N
   clear a c;go_wp2_with fail;refine(x.out _ (U.out _ d.out) j.out).mono ?_;rintro e w2 ⟨v2,ad,cap,rfl,g,k,i⟩;have l:=k.at D.out (by rw [Z_];omega) (by rw [Z_];exact n.2);rw [Z_]at l;have O:=k.ne (b:=w.heap.size+1) (by omega) n.2;obtain⟨d0,d1,d2,d3,e0,e1,e2,e3⟩:=A0 l;have C:=D_ g;have B:=D_ ((RGo.of_below (r:=r) (v:=v) d.out (N_ p)).trans k);have F:=D_ i;clear g k i l;unfold tmv;go_wp2_with fail;refine B_ (v:=tmv t ad cap) (by simp [results,Tryz.results146,go_sem,d0,d1,d2,d3,tmv]) rfl ⟨v2,ad,cap,rfl,?_⟩;exact ROk.fin C.out B.out F.out p (Nat.le_succ _) (by omega) O _ _ _ _
 | false=>
  rw [c40]at e40;rw [I_ (by decide)];cases c91:(tx== [91])with
  | true=>
   rw [c91]at e91;rw [J_ rfl];have x:=D_ (fun W' (M:A1 W' r v ts ns) (I:BoxR W' w.heap.size r)=>Kq 177 (enters_of Tryz.func177 (by kernel_rfl) rfl) #[.pointer (some ⟨w.heap.size,0,none⟩)] [93] ⟨#[93]⟩ rfl (U4 W ts.tail ns) ts ns W' r v V M (square_fine J g i X) (fun W2 Y G _=>rd_square J R hM ts.tail ns W2 r w.heap.size v g i X Y (G.at I s.1 s.2)));obtain⟨E,H⟩: ∃E,J1 [93] (U4 W ts.tail ns)=E:=⟨_,rfl⟩;rw [H]at x⊢;clear H R J T V g i;cases E with
   |bad o=>
    go_enter Tryz.func146,Tryz.ntmps146;go_wp2_with fail;refine(A.out _ (q.out _ _)).mono ?_;rintro e w1 ⟨rfl,a⟩;have c:=(q.out (.cells #[.pointer (some ⟨r,0,none⟩)] 86) (.cells #[.int .i64 0,.string ⟨#[]⟩,.int .i64 0,.slice none 0 0] 26)).trans (a.mono (by simp;omega));have d:=D_ c;have j:=D_ (B0 a (N0 y.out (.cells #[.int .i64 0,.string ⟨#[]⟩,.int .i64 0,.slice none 0 0] 26)));obtain⟨r1,_⟩:=Y0 j.out;clear a c;go_wp2_with fail;refine(x.out _ (U.out _ d.out) j.out).mono ?_;rintro e w2 ⟨rfl,z⟩;exact⟨rfl,rfl,(d.out.mono (N_ p)).trans z⟩
   |ok t ts1 ns1=>
    go_enter Tryz.func146,Tryz.ntmps146;go_wp2_with fail;refine(A.out _ (q.out _ _)).mono ?_;rintro e w1 ⟨rfl,a⟩;have c:=(q.out (.cells #[.pointer (some ⟨r,0,none⟩)] 86) (.cells #[.int .i64 0,.string ⟨#[]⟩,.int .i64 0,.slice none 0 0] 26)).trans (a.mono (by simp;omega));have d:=D_ c;have j:=D_ (B0 a (N0 y.out (.cells #[.int .i64 0,.string ⟨#[]⟩,.int .i64 0,.slice none 0 0] 26)));have D:=D_ (B0 a (U0 (w.alloc (.cells #[.pointer (some ⟨r,0,none⟩)] 86)) (.cells #[.int .i64 0,.string ⟨#[]⟩,.int .i64 0,.slice none 0 0] 26)));obtain⟨r1,_⟩:=Y0 j.out;have N:=a.size;simp only [Z_]at N
    clear a c;go_wp2_with fail;refine(x.out _ (U.out _ d.out) j.out).mono ?_;rintro e w2 ⟨v2,ad,cap,rfl,g,k,i⟩;have l:=k.at D.out (by rw [Z_];omega) (by rw [Z_];exact n.2);rw [Z_]at l;have O:=k.ne (b:=w.heap.size+1) (by omega) n.2;obtain⟨d0,d1,d2,d3,e0,e1,e2,e3⟩:=A0 l;have C:=D_ g;have B:=D_ ((RGo.of_below (r:=r) (v:=v) d.out (N_ p)).trans k);have F:=D_ i;clear g k i l;unfold tmv;go_wp2_with fail;refine B_ (v:=tmv t ad cap) (by simp [results,Tryz.results146,go_sem,d0,d1,d2,d3,tmv]) rfl ⟨v2,ad,cap,rfl,?_⟩;exact ROk.fin C.out B.out F.out p (Nat.le_succ _) (by omega) O _ _ _ _
  | false=>
   rw [c91]at e91;rw [I_ (by decide)];cases c123:(tx== [123])with
   | true=>
    rw [c123]at e123;rw [J_ rfl];have x:=D_ (fun W' (M:A1 W' r v ts ns) (I:BoxR W' w.heap.size r)=>Kq 179 (enters_of Tryz.func179 (by kernel_rfl) rfl) #[.pointer (some ⟨w.heap.size,0,none⟩)] [125] ⟨#[125]⟩ rfl (T5 W ts.tail ns) ts ns W' r v V M (curly_fine J g i X) (fun W2 Y G _=>rd_curly R ts.tail ns W2 r w.heap.size v g i X Y (G.at I s.1 s.2)));obtain⟨E,H⟩: ∃E,J1 [125] (T5 W ts.tail ns)=E:=⟨_,rfl⟩;rw [H]at x⊢;clear H R J T V g i;cases E with
    |bad o=>
     go_enter Tryz.func146,Tryz.ntmps146;go_wp2_with fail;refine(A.out _ (q.out _ _)).mono ?_;rintro e w1 ⟨rfl,a⟩;have c:=(q.out (.cells #[.pointer (some ⟨r,0,none⟩)] 86) (.cells #[.int .i64 0,.string ⟨#[]⟩,.int .i64 0,.slice none 0 0] 26)).trans (a.mono (by simp;omega));have d:=D_ c;have j:=D_ (B0 a (N0 y.out (.cells #[.int .i64 0,.string ⟨#[]⟩,.int .i64 0,.slice none 0 0] 26)));obtain⟨r1,_⟩:=Y0 j.out;clear a c;go_wp2_with fail;refine(x.out _ (U.out _ d.out) j.out).mono ?_;rintro e w2 ⟨rfl,z⟩;exact⟨rfl,rfl,(d.out.mono (N_ p)).trans z⟩
    |ok t ts1 ns1=>
     go_enter Tryz.func146,Tryz.ntmps146;go_wp2_with fail;refine(A.out _ (q.out _ _)).mono ?_;rintro e w1 ⟨rfl,a⟩;have c:=(q.out (.cells #[.pointer (some ⟨r,0,none⟩)] 86) (.cells #[.int .i64 0,.string ⟨#[]⟩,.int .i64 0,.slice none 0 0] 26)).trans (a.mono (by simp;omega));have d:=D_ c;have j:=D_ (B0 a (N0 y.out (.cells #[.int .i64 0,.string ⟨#[]⟩,.int .i64 0,.slice none 0 0] 26)));have D:=D_ (B0 a (U0 (w.alloc (.cells #[.pointer (some ⟨r,0,none⟩)] 86)) (.cells #[.int .i64 0,.string ⟨#[]⟩,.int .i64 0,.slice none 0 0] 26)));obtain⟨r1,_⟩:=Y0 j.out;have N:=a.size;simp only [Z_]at N
     clear a c;go_wp2_with fail;refine(x.out _ (U.out _ d.out) j.out).mono ?_;rintro e w2 ⟨v2,ad,cap,rfl,g,k,i⟩;have l:=k.at D.out (by rw [Z_];omega) (by rw [Z_];exact n.2);rw [Z_]at l;have O:=k.ne (b:=w.heap.size+1) (by omega) n.2;obtain⟨d0,d1,d2,d3,e0,e1,e2,e3⟩:=A0 l;have C:=D_ g;have B:=D_ ((RGo.of_below (r:=r) (v:=v) d.out (N_ p)).trans k);have F:=D_ i;clear g k i l;unfold tmv;go_wp2_with fail;refine B_ (v:=tmv t ad cap) (by simp [results,Tryz.results146,go_sem,d0,d1,d2,d3,tmv]) rfl ⟨v2,ad,cap,rfl,?_⟩;exact ROk.fin C.out B.out F.out p (Nat.le_succ _) (by omega) O _ _ _ _
   |false=>
    rw [c123]at e123;rw [I_ (by decide)];clear R J T;go_enter Tryz.func146,Tryz.ntmps146;go_wp2_with fail;refine(A.out _ (q.out _ _)).mono ?_;rintro e w1 ⟨rfl,a⟩;have c:=(q.out (.cells #[.pointer (some ⟨r,0,none⟩)] 86) (.cells #[.int .i64 0,.string ⟨#[]⟩,.int .i64 0,.slice none 0 0] 26)).trans (a.mono (by simp;omega));have d:=D_ c;obtain⟨r1,_⟩:=Y0 (B0 a (N0 y.out (.cells #[.int .i64 0,.string ⟨#[]⟩,.int .i64 0,.slice none 0 0] 26)));clear a c;go_wp2_with fail;refine(a_.out _ d.out).mono ?_;rintro e w2 ⟨rfl,z⟩;exact⟨rfl,rfl,((d.out.mono (N_ p))).trans (z.mono (by have:=d.out.size;omega))⟩
end Go.Proofs.YtinefdlkajnomaaGreatDoor
namespace Go.Proofs.YtinefdlkajnomaaGreatDoor
open Go.RowKit
set_option maxHeartbeats 20000000
set_option linter.unusedSimpArgs false
set_option maxRecDepth 100000 in
theorem UQ {m:Nat} {W:Rdr} (hW:R2 W m) (hC:I5 m W) (hM:m<=10000) (p:Int) (ts:List Tok) (ns:Nms) (w:World) (r:Nat) (v:Value) (hm:ts.length<=m+1) (V:T0 ts) (hk:(j0 ts).isAtom=true) (hn:ns.length<=200) (h:A1 w r v ts ns) (h7:(j0 ts.tail).kind=7):
 Calls Tryz.prog 144 #[.pointer (some ⟨r,0,none⟩),.int .i64 p] w fun e w'=>B8 r v w ((YQ W (j0 ts).text ts.tail.tail ns).bind fun t ts' ns'=>.ok (t,0) ts' ns') e w':=by
 have Z:=h.lt;have h2:=V.two (A2 hk);obtain⟨D,hl2⟩:=V.tail (A2 hk);have hm2:ts.tail.length<=m:=by omega
 have hft1:=D.pos;have HH:=D_ (fun W' (x:Below w.heap.size w W')=>h.below x);have d:=h.new_ne (b:=w.heap.size) (R_ _);have j:=h.new_ne (b:=w.heap.size+1) (Nat.le_succ _);have r_:=D_ (fun b (x:w.heap.size<=b)=>h.new_ne x);obtain⟨g,k,cap,hgr,hr,hlc,hcm,q_⟩:=h.ex;have hgl:g<w.heap.size:=by omega
 obtain⟨r0,_,_,_⟩:=E0 hr;obtain⟨c0,c1,c2,c3,H⟩:=q_.first V.pos;obtain⟨c4,c5,c6,c7,_⟩:=H.first D.pos;have HTR:=D_ H;have hL0:0<ts.length:=by omega
 have hL1:(1:Int)<(ts.length:Int):=by omega
 have hcap2:2<=cap:=by omega
 have hmf: ∀(fn:Fn) (first cap:Array Value) (w:World),(Instr.makeFunc fn first cap).run Tryz.prog w=.ok (.func fn first cap) w:=fun _ _ _ _=>rfl;have HB:=D_ (fun o o2:Obj=>((F_ w.heap.size w).alloc (R_ _) o).alloc (by simp) o2);have HS1:Hid (∀W',Below w.heap.size w W'->W'.cell? ⟨r,0,none⟩=w.cell? ⟨r,0,none⟩/\ ∀i,W'.cell? ⟨g,i,none⟩=w.cell? ⟨g,i,none⟩):=D_ (fun W' x=>⟨x.cell (p:=⟨r,0,none⟩) Z,fun i=>x.cell (p:=⟨g,i,none⟩) hgl⟩);obtain⟨G,hl3⟩:=D.tail (by rw [h7];decide);have hlen:=V.first.size;have HI:=D_ (fun W' X (a_:A1 W' r v ts.tail ns) (hR':W'.cell? ⟨w.heap.size,0,none⟩=some (.pointer (some ⟨r,0,none⟩))) (hX':W'.cell? ⟨X,1,none⟩=some (.string ⟨(j0 ts).text.toArray⟩)) (l_:X≠r) (m_:some X≠v.ownBlock)=>
  Kq 170 (enters_of Tryz.func170 (by kernel_rfl) rfl) #[.pointer (some ⟨X,0,none⟩),.pointer (some ⟨w.heap.size,0,none⟩)] [41] ⟨#[41]⟩ rfl ((Y3 W 16 ts.tail.tail ns).bind fun l ts' ns'=>.ok (X0 (j0 ts).text l) ts' ns') ts.tail ns W' r v (D.two (by rw [h7];decide)) a_
   (fun t ts' ns' hh=>by
     obtain⟨l,ts3,ns3,hl,h1⟩:=Rd.bind_is hh;injection h1 with h1 h3 h4;subst h3;exact(D4 hW (by decide) (by omega) G hn hl).1.fine)
   (fun W2 h1 i_ _=>rd_args hW hC hM ts.tail.tail ns W2 r w.heap.size X v (j0 ts).text (by omega) (by omega) G hn h1 (i_.cell hR' d.1 d.2) d.1 d.2 (i_.cell hX' l_ m_) l_ m_))
 obtain⟨E,hE⟩: ∃E,YQ W (j0 ts).text ts.tail.tail ns=E:=⟨_,rfl⟩;rw [hE];unfold YQ at hE;rw [hE]at HI;have u_:=D_ (fun W' a_=>R5 W' r v ts ns a_ h2);clear hE hC hW V D G hk;generalize j0 ts.tail=t1 at*;generalize j0 ts=t0 at*;obtain⟨xk,xl,xn,xp⟩:=t0;obtain⟨yk,yl,yn,yp⟩:=t1;dsimp only at*;generalize (⟨yl.toArray⟩:ByteArray)=yt at*;have h7b:(yk==7)=true:=by rw [h7];rfl
 clear h7;generalize (⟨xl.toArray⟩:ByteArray)=xt at*;generalize j_:ts.length=L at*;have HLN:=D_ j_;clear j_ h hr q_ H;have z_:Hid (∀W,Below w.heap.size w W->W.cell? ⟨r,0,none⟩=some (.slice (some ⟨g,k,none⟩) L cap)/\W.cell? ⟨g,k,none⟩=some (.int .i64 xk)/\W.cell? ⟨g,k+1,none⟩=some (.string xt)/\W.cell? ⟨g,k+2,none⟩=some (.int .i64 xn)/\W.cell? ⟨g,k+3,none⟩=some (.int .i64 (xp:Nat))/\W.cell? ⟨g,k+4,none⟩=some (.int .i64 yk)/\W.cell? ⟨g,k+4+1,none⟩=some (.string yt)/\W.cell? ⟨g,k+4+2,none⟩=some (.int .i64 yn)/\W.cell? ⟨g,k+4+3,none⟩=some (.int .i64 (yp:Nat))):=D_ (fun W x=>by obtain⟨q1,q2⟩:=HS1.out W x;rw [q1,q2,q2,q2,q2,q2,q2,q2,q2];exact⟨r0,c0,c1,c2,c3,c4,c5,c6,c7⟩);clear r0 c0 c1 c2 c3 c4 c5 c6 c7;go_enter Tryz.func144,Tryz.ntmps144;go_wp2_with fail;generalize F:(w.alloc (.cells #[.pointer (some ⟨r,0,none⟩)] 86)).alloc (.cells #[.int .i64 0,.string ⟨#[]⟩,.int .i64 0,.slice none 0 0] 26)=w1;have B:Below w.heap.size w w1:=by rw [<-F];exact HB.out _ _
 have C:w1.heap.size=w.heap.size+2:=by rw [<-F];simp
 have U:w1.heap[w.heap.size]?=some (.cells #[.pointer (some ⟨r,0,none⟩)] 86 (0,0)):=by rw [<-F];exact N0 (U0 w _) _
 have k_:w1.heap[w.heap.size+1]?=some (.cells #[.int .i64 0,.string ⟨#[]⟩,.int .i64 0,.slice none 0 0] 26 (0,0)):=by rw [<-F];have:=U0 (w.alloc (.cells #[.pointer (some ⟨r,0,none⟩)] 86)) (.cells #[.int .i64 0,.string ⟨#[]⟩,.int .i64 0,.slice none 0 0] 26);rwa [Z_]at this
 have y:Hid (∀W,Below w1.heap.size w1 W->W.cell? ⟨w.heap.size,0,none⟩=some (.pointer (some ⟨r,0,none⟩))/\W.cell? ⟨r,0,none⟩=some (.slice (some ⟨g,k,none⟩) L cap)/\W.cell? ⟨g,k,none⟩=some (.int .i64 xk)/\W.cell? ⟨g,k+1,none⟩=some (.string xt)/\W.cell? ⟨g,k+2,none⟩=some (.int .i64 xn)/\W.cell? ⟨g,k+3,none⟩=some (.int .i64 (xp:Nat))/\W.cell? ⟨g,k+4,none⟩=some (.int .i64 yk)/\W.cell? ⟨g,k+4+1,none⟩=some (.string yt)/\W.cell? ⟨g,k+4+2,none⟩=some (.int .i64 yn)/\W.cell? ⟨g,k+4+3,none⟩=some (.int .i64 (yp:Nat))):=D_ (fun W x=>⟨(Y0 (B0 x U)).1,z_.out W (B.trans (x.mono B.size))⟩);have I:=D_ (fun o:Obj=>(F_ w1.heap.size w1).drew.alloc (w:=w1.drew) (R_ _) o);have R:=D_ (fun o o2:Obj=>(I.out o).alloc (by simp) o2);have q:=D_ (fun o o2:Obj=>(((F_ w1.heap.size w1).alloc (R_ _) o).alloc (by simp) o2).drew);have x_:=D_ U;have v_:=D_ k_;have O:=D_ B;have T:=D_ C;clear F B U k_ C;go_cut [6,7] (fun s6 s7 wx=> ∃X Y,s6=.pointer (some ⟨X,0,none⟩)/\s7=.pointer (some ⟨Y,0,none⟩)/\Hid (Below w1.heap.size w1 wx/\w1.heap.size<=X/\w1.heap.size<=Y/\wx.heap[X]?=some (.cells #[.int .i64 xk,.string xt,.int .i64 xn,.int .i64 (xp:Nat)] 96 (0,0))/\wx.heap[Y]?=some (.cells #[.int .i64 yk,.string yt,.int .i64 yn,.int .i64 (yp:Nat)] 96 (0,0))))
 case first=>
  refine wp_region_held_drew (S:=(fun W=>W.cell? ⟨w.heap.size,0,none⟩=some (.pointer (some ⟨r,0,none⟩))/\W.cell? ⟨r,0,none⟩=some (.slice (some ⟨g,k,none⟩) L cap)/\W.cell? ⟨g,k,none⟩=some (.int .i64 xk)/\W.cell? ⟨g,k+1,none⟩=some (.string xt)/\W.cell? ⟨g,k+2,none⟩=some (.int .i64 xn)/\W.cell? ⟨g,k+3,none⟩=some (.int .i64 (xp:Nat))/\W.cell? ⟨g,k+4,none⟩=some (.int .i64 yk)/\W.cell? ⟨g,k+4+1,none⟩=some (.string yt)/\W.cell? ⟨g,k+4+2,none⟩=some (.int .i64 yn)/\W.cell? ⟨g,k+4+3,none⟩=some (.int .i64 (yp:Nat)))) (by kernel_rfl) (y.out _ (F_ _ w1).drew) (fun hHeld1=>?_);refine tK 0 (v:=?v2) rfl (.inl ⟨by rfl,?y2⟩) ?r2
  case y2=>(intro w a;(try dsimp only at a);go_simp;try with_reducible rfl)
  (try simp only [Act.put,T_,C_,E_])
  refine tK 1 (v:=?v3) rfl (.inl ⟨by rfl,?y3⟩) ?r3
  case y3=>(intro w a;(try dsimp only at a);go_simp;try with_reducible rfl)
  (try simp only [Act.put,T_,C_,E_])
  refine tK 2 (v:=?v4) rfl (.inl ⟨by rfl,?y4⟩) ?r4
  case y4=>(intro w a;(try dsimp only at a);go_simp;try with_reducible rfl)
  (try simp only [Act.put,T_,C_,E_])
  refine tK 3 (v:=?v5) rfl (.inl ⟨by rfl,?y5⟩) ?r5
  case y5=>(intro w a;(try dsimp only at a);go_simp;try with_reducible rfl)
  (try simp only [Act.put,T_,C_,E_])
  refine tK 4 (v:=?v6) rfl (.inl ⟨by rfl,?y6⟩) ?r6
  case y6=>(intro w a;(try dsimp only at a);go_simp;try with_reducible rfl)
  (try simp only [Act.put,T_,C_,E_])
  refine tK 5 (v:=?v7) rfl (.inl ⟨by rfl,?y7⟩) ?r7
  case y7=>(intro w a;(try dsimp only at a);go_simp;try with_reducible rfl)
  (try simp only [Act.put,T_,C_,E_])
  refine tK 6 (v:=?v8) rfl (.inl ⟨by rfl,?y8⟩) ?r8
  case y8=>(intro w a;(try dsimp only at a);go_simp;try with_reducible rfl)
  (try simp only [Act.put,T_,C_,E_])
  refine tK 7 (v:=?v9) rfl (.inl ⟨by rfl,?y9⟩) ?r9
  case y9=>(intro w a;(try dsimp only at a);go_simp;try with_reducible rfl)
  (try simp only [Act.put,T_,C_,E_])
  refine tK 8 (v:=?v10) rfl (.inl ⟨by rfl,?y10⟩) ?r10
  case y10=>(intro w a;(try dsimp only at a);go_simp;try with_reducible rfl)
  (try simp only [Act.put,T_,C_,E_])
  refine tK 9 (v:=?v11) rfl (.inl ⟨by rfl,?y11⟩) ?r11
  case y11=>(intro w a;(try dsimp only at a);go_simp;try with_reducible rfl)
  (try simp only [Act.put,T_,C_,E_])
  refine tK 10 (v:=?v12) rfl (.inl ⟨by rfl,?y12⟩) ?r12
  case y12=>(intro w a;(try dsimp only at a);go_simp;try with_reducible rfl)
  (try simp only [Act.put,T_,C_,E_])
  refine tK 11 (v:=?v13) rfl (.inl ⟨by rfl,?y13⟩) ?r13
  case y13=>(intro w a;(try dsimp only at a);go_simp;try with_reducible rfl)
  (try simp only [Act.put,T_,C_,E_])
  refine wpAnyH_ready (rs:= [12,13]) (by kernel_rfl) (by simp) ?_;refine AllReadyH.cons (o:=_) rfl (fun K c=>?_) (AllReadyH.cons (o:=_) rfl (fun K c=>?_) AllReadyH.nil)
  · go_simp
    refine c.out _ _ (y.out _ (I.out _)) (fun s=>?_);clear c K;(try simp only [Act.put,T_,C_,E_])
    refine rY 13 rfl fun K c=>?_;go_simp
    refine c.out _ _ (y.out _ (R.out _ _)) (fun u=>?_);clear c K s;(try simp only [Act.put,T_,C_,E_])
    refine rY 14 rfl fun K c=>?_;go_simp
    refine c.out _ _ (y.out _ (q.out _ _)) (fun n=>?_);clear c K u;(try simp only [Act.put,T_,C_,E_])
    refine rY 15 rfl fun K c=>?_;go_simp
    refine c.out _ _ (y.out _ (q.out _ _)) (fun N=>?_);clear c K n;(try simp only [Act.put,T_,C_,E_])
    refine wpAnyH_done (by kernel_rfl) ?_ _;go_wp2_with fail;go_meet;exact⟨w1.heap.size,w1.heap.size+1,rfl,rfl,D_ ⟨q.out _ _,R_ _,Nat.le_succ _,(N0 (U0 w1 (.cells #[.int .i64 xk,.string xt,.int .i64 xn,.int .i64 (xp:Nat)] 96)) (.cells #[.int .i64 yk,.string yt,.int .i64 yn,.int .i64 (yp:Nat)] 96):((w1.alloc (.cells #[.int .i64 xk,.string xt,.int .i64 xn,.int .i64 (xp:Nat)] 96)).alloc (.cells #[.int .i64 yk,.string yt,.int .i64 yn,.int .i64 (yp:Nat)] 96)).heap[w1.heap.size]?=_),(by have:=U0 (w1.alloc (.cells #[.int .i64 xk,.string xt,.int .i64 xn,.int .i64 (xp:Nat)] 96)) (.cells #[.int .i64 yk,.string yt,.int .i64 yn,.int .i64 (yp:Nat)] 96);rwa [Z_]at this:((w1.alloc (.cells #[.int .i64 xk,.string xt,.int .i64 xn,.int .i64 (xp:Nat)] 96)).alloc (.cells #[.int .i64 yk,.string yt,.int .i64 yn,.int .i64 (yp:Nat)] 96)).heap[w1.heap.size+1]?=some (.cells #[.int .i64 yk,.string yt,.int .i64 yn,.int .i64 (yp:Nat)] 96 (0,0)))⟩⟩
  · go_simp
    refine c.out _ _ (y.out _ (I.out _)) (fun s=>?_);clear c K;(try simp only [Act.put,T_,C_,E_])
    refine rY 12 rfl fun K c=>?_;go_simp
    refine c.out _ _ (y.out _ (R.out _ _)) (fun u=>?_);clear c K s;(try simp only [Act.put,T_,C_,E_])
    refine rY 14 rfl fun K c=>?_;go_simp
    refine c.out _ _ (y.out _ (q.out _ _)) (fun n=>?_);clear c K u;(try simp only [Act.put,T_,C_,E_])
    refine rY 15 rfl fun K c=>?_;go_simp
    refine c.out _ _ (y.out _ (q.out _ _)) (fun N=>?_);clear c K n;(try simp only [Act.put,T_,C_,E_])
    refine wpAnyH_done (by kernel_rfl) ?_ _;go_wp2_with fail;go_meet;exact⟨w1.heap.size+1,w1.heap.size,rfl,rfl,D_ ⟨q.out _ _,Nat.le_succ _,R_ _,(by have:=U0 (w1.alloc (.cells #[.int .i64 yk,.string yt,.int .i64 yn,.int .i64 (yp:Nat)] 96)) (.cells #[.int .i64 xk,.string xt,.int .i64 xn,.int .i64 (xp:Nat)] 96);rwa [Z_]at this:((w1.alloc (.cells #[.int .i64 yk,.string yt,.int .i64 yn,.int .i64 (yp:Nat)] 96)).alloc (.cells #[.int .i64 xk,.string xt,.int .i64 xn,.int .i64 (xp:Nat)] 96)).heap[w1.heap.size+1]?=some (.cells #[.int .i64 xk,.string xt,.int .i64 xn,.int .i64 (xp:Nat)] 96 (0,0))),(N0 (U0 w1 (.cells #[.int .i64 yk,.string yt,.int .i64 yn,.int .i64 (yp:Nat)] 96)) (.cells #[.int .i64 xk,.string xt,.int .i64 xn,.int .i64 (xp:Nat)] 96):((w1.alloc (.cells #[.int .i64 yk,.string yt,.int .i64 yn,.int .i64 (yp:Nat)] 96)).alloc (.cells #[.int .i64 xk,.string xt,.int .i64 xn,.int .i64 (xp:Nat)] 96)).heap[w1.heap.size]?=_)⟩⟩
 case rest=>
  obtain⟨X,Y,rfl,rfl,h_⟩:=hcut;obtain⟨J,hX0,hY0,hX,hY⟩:=h_.out;have C:=T.out;have d_:Hid (Below w.heap.size w wc):=D_ (O.out.trans (J.mono O.out.size));have HX:=D_ hX;have HY:=D_ hY;have y_:=D_ (B0 J x_.out);have w_:=D_ (B0 J v_.out);obtain⟨a0,a1,a2,a3,_⟩:=A0 hX;obtain⟨b0,b1,b2,b3,_⟩:=A0 hY;obtain⟨rr0,_⟩:=Y0 y_.out;have hX1:w.heap.size+2<=X:=by omega
  have hY1:w.heap.size+2<=Y:=by omega
  clear J hX hY h_ C I R q y hX0 hY0 T;go_wp2_with fail;refine(u_.out _ (HH.out _ d_.out)).mono ?_;rintro e w2 ⟨rfl,b_,A⟩;have rr1:=A.cell rr0 d.1 d.2;have z:=r_.out X (by omega);have xx1:=A.cell a1 z.1 z.2;have e_:=D_ ((RGo.of_below (r:=r) (v:=v) d_.out (N_ Z)).trans A);have g_:=D_ (A.at w_.out j.1 j.2);have f_:=D_ b_;have hs2:=A.below.size;clear b_ A;go_wp2_with fail;cases E with
  |bad o=>
   refine(HI.out _ X f_.out rr1 xx1 z.1 z.2).mono ?_;rintro e w3 ⟨rfl,hb3⟩;exact⟨rfl,rfl,e_.out.below.trans hb3⟩
  |ok t ts1 ns1=>
   refine(HI.out _ X f_.out rr1 xx1 z.1 z.2).mono ?_;rintro e w3 ⟨v3,ad,cap3,rfl,n_,M,p_⟩;have o_:=M.at g_.out j.1 j.2;have c_:=(Array.getElem?_eq_some_iff.1 g_.out).1;have hv3:=M.ne (b:=w.heap.size+1) c_ j.2;obtain⟨d0,d1,d2,d3,e0,e1,e2,e3⟩:=A0 o_;have t_:=D_ n_;have s_:=D_ (e_.out.trans M);have HT3:=D_ p_;clear n_ M p_ o_;unfold tmv;go_wp2_with fail;refine B_ (v:=.tuple #[tmv t ad cap3,.int .i64 0]) (by simp [results,Tryz.results144,go_sem,d0,d1,d2,d3,tmv]) rfl ⟨v3,ad,cap3,rfl,?_⟩;exact ROk.fin t_.out s_.out HT3.out Z (Nat.le_succ _) c_ hv3 _ _ _ _
end Go.Proofs.YtinefdlkajnomaaGreatDoor
namespace Go.Proofs.YtinefdlkajnomaaGreatDoor
open Go.RowKit
set_option maxHeartbeats 20000000
set_option linter.unusedSimpArgs false
set_option maxRecDepth 100000 in
theorem vZ {m:Nat} (hM:m<=10000) (p:Int) (ts:List Tok) (ns:Nms) (w:World) (r:Nat) (v:Value) (hm:ts.length<=m+1) (Z:T0 ts) (hk:(j0 ts).isAtom=true) (h:A1 w r v ts ns) (h3:(j0 ts).kind=3) (g_:(j0 ts).text= [45]) (U:(j0 ts.tail).kind=5) (hp:(j0 ts.tail).pos=(j0 ts).pos+1):
 Calls Tryz.prog 144 #[.pointer (some ⟨r,0,none⟩),.int .i64 p] w fun e w'=>B8 r v w (.ok (fx (wrap64 (-(j0 ts.tail).n)),0) ts.tail.tail ns) e w':=by
 have M:=h.lt;have h2:=Z.two (A2 hk);obtain⟨D,hl2⟩:=Z.tail (A2 hk);have hm2:ts.tail.length<=m:=by omega
 have hft1:=D.pos;have HH:=D_ (fun W' (u:Below w.heap.size w W')=>h.below u);have l:=h.new_ne (b:=w.heap.size) (R_ _);have j:=h.new_ne (b:=w.heap.size+1) (Nat.le_succ _);have l_:=D_ (fun b (u:w.heap.size<=b)=>h.new_ne u);obtain⟨g,k,cap,hgr,hr,hlc,hcm,k_⟩:=h.ex;have hgl:g<w.heap.size:=by omega
 obtain⟨r0,_,_,_⟩:=E0 hr;obtain⟨c0,c1,c2,c3,F⟩:=k_.first Z.pos;obtain⟨c4,c5,c6,c7,_⟩:=F.first D.pos;have HTR:=D_ F;have hL0:0<ts.length:=by omega
 have hL1:(1:Int)<(ts.length:Int):=by omega
 have hcap2:2<=cap:=by omega
 have hmf: ∀(fn:Fn) (first cap:Array Value) (w:World),(Instr.makeFunc fn first cap).run Tryz.prog w=.ok (.func fn first cap) w:=fun _ _ _ _=>rfl;have HB:=D_ (fun o o2:Obj=>((F_ w.heap.size w).alloc (R_ _) o).alloc (by simp) o2);have HS1:Hid (∀W',Below w.heap.size w W'->W'.cell? ⟨r,0,none⟩=w.cell? ⟨r,0,none⟩/\ ∀i,W'.cell? ⟨g,i,none⟩=w.cell? ⟨g,i,none⟩):=D_ (fun W' u=>⟨u.cell (p:=⟨r,0,none⟩) M,fun i=>u.cell (p:=⟨g,i,none⟩) hgl⟩);have s_:=D_ (fun W' a_=>R5 W' r v ts ns a_ h2);obtain⟨m_,hl3⟩:=D.tail (by rw [U];decide);have t_:=D_ (fun W' v' a_=>R5 W' r v' ts.tail ns a_ (D.two (by rw [U];decide)));have HN:=D_ (show In64 (wrap64 (-(j0 ts.tail).n))from by unfold wrap64 In64;omega);have hpos:=Z.first.pos;clear Z D m_ hk;generalize j0 ts.tail=t1 at*;generalize j0 ts=t0 at*;obtain⟨xk,xl,xn,xp⟩:=t0;obtain⟨yk,yl,yn,yp⟩:=t1;dsimp only at*;generalize (⟨yl.toArray⟩:ByteArray)=yt at*;have hb7:(yk==7)=false:=by rw [U];rfl
 have hb3:(xk==3)=true:=by rw [h3];rfl
 have hb5:(yk==5)=true:=by rw [U];rfl
 have C:((⟨xl.toArray⟩:ByteArray).toList== [45])=true:=by rw [O1,g_];rfl
 have hbp:((yp:Int)==(xp:Int)+1)=true:=by rw [hp];simp
 clear h3 U g_ hp;generalize (⟨xl.toArray⟩:ByteArray)=xt at*;generalize h_:ts.length=L at*;have HLN:=D_ h_;clear h_ h hr k_ F;have HS0:Hid (∀W,Below w.heap.size w W->W.cell? ⟨r,0,none⟩=some (.slice (some ⟨g,k,none⟩) L cap)/\W.cell? ⟨g,k,none⟩=some (.int .i64 xk)/\W.cell? ⟨g,k+1,none⟩=some (.string xt)/\W.cell? ⟨g,k+2,none⟩=some (.int .i64 xn)/\W.cell? ⟨g,k+3,none⟩=some (.int .i64 (xp:Nat))/\W.cell? ⟨g,k+4,none⟩=some (.int .i64 yk)/\W.cell? ⟨g,k+4+1,none⟩=some (.string yt)/\W.cell? ⟨g,k+4+2,none⟩=some (.int .i64 yn)/\W.cell? ⟨g,k+4+3,none⟩=some (.int .i64 (yp:Nat))):=D_ (fun W u=>by obtain⟨q1,q2⟩:=HS1.out W u;rw [q1,q2,q2,q2,q2,q2,q2,q2,q2];exact⟨r0,c0,c1,c2,c3,c4,c5,c6,c7⟩);clear r0 c0 c1 c2 c3 c4 c5 c6 c7;go_enter Tryz.func144,Tryz.ntmps144;go_wp2_with fail;generalize E:(w.alloc (.cells #[.pointer (some ⟨r,0,none⟩)] 86)).alloc (.cells #[.int .i64 0,.string ⟨#[]⟩,.int .i64 0,.slice none 0 0] 26)=w1;have z:Below w.heap.size w w1:=by rw [<-E];exact HB.out _ _
 have A:w1.heap.size=w.heap.size+2:=by rw [<-E];simp
 have V:w1.heap[w.heap.size]?=some (.cells #[.pointer (some ⟨r,0,none⟩)] 86 (0,0)):=by rw [<-E];exact N0 (U0 w _) _
 have i_:w1.heap[w.heap.size+1]?=some (.cells #[.int .i64 0,.string ⟨#[]⟩,.int .i64 0,.slice none 0 0] 26 (0,0)):=by rw [<-E];have:=U0 (w.alloc (.cells #[.pointer (some ⟨r,0,none⟩)] 86)) (.cells #[.int .i64 0,.string ⟨#[]⟩,.int .i64 0,.slice none 0 0] 26);rwa [Z_]at this
 have y:Hid (∀W,Below w1.heap.size w1 W->W.cell? ⟨w.heap.size,0,none⟩=some (.pointer (some ⟨r,0,none⟩))/\W.cell? ⟨r,0,none⟩=some (.slice (some ⟨g,k,none⟩) L cap)/\W.cell? ⟨g,k,none⟩=some (.int .i64 xk)/\W.cell? ⟨g,k+1,none⟩=some (.string xt)/\W.cell? ⟨g,k+2,none⟩=some (.int .i64 xn)/\W.cell? ⟨g,k+3,none⟩=some (.int .i64 (xp:Nat))/\W.cell? ⟨g,k+4,none⟩=some (.int .i64 yk)/\W.cell? ⟨g,k+4+1,none⟩=some (.string yt)/\W.cell? ⟨g,k+4+2,none⟩=some (.int .i64 yn)/\W.cell? ⟨g,k+4+3,none⟩=some (.int .i64 (yp:Nat))):=D_ (fun W u=>⟨(Y0 (B0 u V)).1,HS0.out W (z.trans (u.mono z.size))⟩);have G:=D_ (fun o:Obj=>(F_ w1.heap.size w1).drew.alloc (w:=w1.drew) (R_ _) o);have R:=D_ (fun o o2:Obj=>(G.out o).alloc (by simp) o2);have q:=D_ (fun o o2:Obj=>(((F_ w1.heap.size w1).alloc (R_ _) o).alloc (by simp) o2).drew);have z_:=D_ V;have u_:=D_ i_;have O:=D_ z;have T:=D_ A;clear E z V i_ A;go_cut [6,7] (fun s6 s7 wx=> ∃X Y,s6=.pointer (some ⟨X,0,none⟩)/\s7=.pointer (some ⟨Y,0,none⟩)/\Hid (Below w1.heap.size w1 wx/\w1.heap.size<=X/\w1.heap.size<=Y/\wx.heap[X]?=some (.cells #[.int .i64 xk,.string xt,.int .i64 xn,.int .i64 (xp:Nat)] 96 (0,0))/\wx.heap[Y]?=some (.cells #[.int .i64 yk,.string yt,.int .i64 yn,.int .i64 (yp:Nat)] 96 (0,0))))
 case first=>
  refine wp_region_held_drew (S:=(fun W=>W.cell? ⟨w.heap.size,0,none⟩=some (.pointer (some ⟨r,0,none⟩))/\W.cell? ⟨r,0,none⟩=some (.slice (some ⟨g,k,none⟩) L cap)/\W.cell? ⟨g,k,none⟩=some (.int .i64 xk)/\W.cell? ⟨g,k+1,none⟩=some (.string xt)/\W.cell? ⟨g,k+2,none⟩=some (.int .i64 xn)/\W.cell? ⟨g,k+3,none⟩=some (.int .i64 (xp:Nat))/\W.cell? ⟨g,k+4,none⟩=some (.int .i64 yk)/\W.cell? ⟨g,k+4+1,none⟩=some (.string yt)/\W.cell? ⟨g,k+4+2,none⟩=some (.int .i64 yn)/\W.cell? ⟨g,k+4+3,none⟩=some (.int .i64 (yp:Nat)))) (by kernel_rfl) (y.out _ (F_ _ w1).drew) (fun d=>?_);refine tK 0 (v:=?v15) rfl (.inl ⟨by rfl,?y15⟩) ?r15
  case y15=>(intro w a;(try dsimp only at a);go_simp;try with_reducible rfl)
  (try simp only [Act.put,T_,C_,E_])
  refine tK 1 (v:=?v16) rfl (.inl ⟨by rfl,?y16⟩) ?r16
  case y16=>(intro w a;(try dsimp only at a);go_simp;try with_reducible rfl)
  (try simp only [Act.put,T_,C_,E_])
  refine tK 2 (v:=?v17) rfl (.inl ⟨by rfl,?y17⟩) ?r17
  case y17=>(intro w a;(try dsimp only at a);go_simp;try with_reducible rfl)
  (try simp only [Act.put,T_,C_,E_])
  refine tK 3 (v:=?v18) rfl (.inl ⟨by rfl,?y18⟩) ?r18
  case y18=>(intro w a;(try dsimp only at a);go_simp;try with_reducible rfl)
  (try simp only [Act.put,T_,C_,E_])
  refine tK 4 (v:=?v19) rfl (.inl ⟨by rfl,?y19⟩) ?r19
  case y19=>(intro w a;(try dsimp only at a);go_simp;try with_reducible rfl)
  (try simp only [Act.put,T_,C_,E_])
  refine tK 5 (v:=?v20) rfl (.inl ⟨by rfl,?y20⟩) ?r20
  case y20=>(intro w a;(try dsimp only at a);go_simp;try with_reducible rfl)
  (try simp only [Act.put,T_,C_,E_])
  refine tK 6 (v:=?v21) rfl (.inl ⟨by rfl,?y21⟩) ?r21
  case y21=>(intro w a;(try dsimp only at a);go_simp;try with_reducible rfl)
  (try simp only [Act.put,T_,C_,E_])
  refine tK 7 (v:=?v22) rfl (.inl ⟨by rfl,?y22⟩) ?r22
  case y22=>(intro w a;(try dsimp only at a);go_simp;try with_reducible rfl)
  (try simp only [Act.put,T_,C_,E_])
  refine tK 8 (v:=?v23) rfl (.inl ⟨by rfl,?y23⟩) ?r23
  case y23=>(intro w a;(try dsimp only at a);go_simp;try with_reducible rfl)
  (try simp only [Act.put,T_,C_,E_])
  refine tK 9 (v:=?v24) rfl (.inl ⟨by rfl,?y24⟩) ?r24
  case y24=>(intro w a;(try dsimp only at a);go_simp;try with_reducible rfl)
  (try simp only [Act.put,T_,C_,E_])
  refine tK 10 (v:=?v25) rfl (.inl ⟨by rfl,?y25⟩) ?r25
  case y25=>(intro w a;(try dsimp only at a);go_simp;try with_reducible rfl)
  (try simp only [Act.put,T_,C_,E_])
  refine tK 11 (v:=?v26) rfl (.inl ⟨by rfl,?y26⟩) ?r26
  case y26=>(intro w a;(try dsimp only at a);go_simp;try with_reducible rfl)
  (try simp only [Act.put,T_,C_,E_])
  refine wpAnyH_ready (rs:= [12,13]) (by kernel_rfl) (by simp) ?_;refine AllReadyH.cons (o:=_) rfl (fun K c=>?_) (AllReadyH.cons (o:=_) rfl (fun K c=>?_) AllReadyH.nil)
  · go_simp
    refine c.out _ _ (y.out _ (G.out _)) (fun s=>?_);clear c K;(try simp only [Act.put,T_,C_,E_])
    refine rY 13 rfl fun K c=>?_;go_simp
    refine c.out _ _ (y.out _ (R.out _ _)) (fun t=>?_);clear c K s;(try simp only [Act.put,T_,C_,E_])
    refine rY 14 rfl fun K c=>?_;go_simp
    refine c.out _ _ (y.out _ (q.out _ _)) (fun d=>?_);clear c K t;(try simp only [Act.put,T_,C_,E_])
    refine rY 15 rfl fun K c=>?_;go_simp
    refine c.out _ _ (y.out _ (q.out _ _)) (fun N=>?_);clear c K d;(try simp only [Act.put,T_,C_,E_])
    refine wpAnyH_done (by kernel_rfl) ?_ _;go_wp2_with fail;go_meet;exact⟨w1.heap.size,w1.heap.size+1,rfl,rfl,D_ ⟨q.out _ _,R_ _,Nat.le_succ _,(N0 (U0 w1 (.cells #[.int .i64 xk,.string xt,.int .i64 xn,.int .i64 (xp:Nat)] 96)) (.cells #[.int .i64 yk,.string yt,.int .i64 yn,.int .i64 (yp:Nat)] 96):((w1.alloc (.cells #[.int .i64 xk,.string xt,.int .i64 xn,.int .i64 (xp:Nat)] 96)).alloc (.cells #[.int .i64 yk,.string yt,.int .i64 yn,.int .i64 (yp:Nat)] 96)).heap[w1.heap.size]?=_),(by have:=U0 (w1.alloc (.cells #[.int .i64 xk,.string xt,.int .i64 xn,.int .i64 (xp:Nat)] 96)) (.cells #[.int .i64 yk,.string yt,.int .i64 yn,.int .i64 (yp:Nat)] 96);rwa [Z_]at this:((w1.alloc (.cells #[.int .i64 xk,.string xt,.int .i64 xn,.int .i64 (xp:Nat)] 96)).alloc (.cells #[.int .i64 yk,.string yt,.int .i64 yn,.int .i64 (yp:Nat)] 96)).heap[w1.heap.size+1]?=some (.cells #[.int .i64 yk,.string yt,.int .i64 yn,.int .i64 (yp:Nat)] 96 (0,0)))⟩⟩
  · go_simp
    refine c.out _ _ (y.out _ (G.out _)) (fun s=>?_);clear c K;(try simp only [Act.put,T_,C_,E_])
    refine rY 12 rfl fun K c=>?_;go_simp
    refine c.out _ _ (y.out _ (R.out _ _)) (fun t=>?_);clear c K s;(try simp only [Act.put,T_,C_,E_])
    refine rY 14 rfl fun K c=>?_;go_simp
    refine c.out _ _ (y.out _ (q.out _ _)) (fun d=>?_);clear c K t;(try simp only [Act.put,T_,C_,E_])
    refine rY 15 rfl fun K c=>?_;go_simp
    refine c.out _ _ (y.out _ (q.out _ _)) (fun N=>?_);clear c K d;(try simp only [Act.put,T_,C_,E_])
    refine wpAnyH_done (by kernel_rfl) ?_ _;go_wp2_with fail;go_meet;exact⟨w1.heap.size+1,w1.heap.size,rfl,rfl,D_ ⟨q.out _ _,Nat.le_succ _,R_ _,(by have:=U0 (w1.alloc (.cells #[.int .i64 yk,.string yt,.int .i64 yn,.int .i64 (yp:Nat)] 96)) (.cells #[.int .i64 xk,.string xt,.int .i64 xn,.int .i64 (xp:Nat)] 96);rwa [Z_]at this:((w1.alloc (.cells #[.int .i64 yk,.string yt,.int .i64 yn,.int .i64 (yp:Nat)] 96)).alloc (.cells #[.int .i64 xk,.string xt,.int .i64 xn,.int .i64 (xp:Nat)] 96)).heap[w1.heap.size+1]?=some (.cells #[.int .i64 xk,.string xt,.int .i64 xn,.int .i64 (xp:Nat)] 96 (0,0))),(N0 (U0 w1 (.cells #[.int .i64 yk,.string yt,.int .i64 yn,.int .i64 (yp:Nat)] 96)) (.cells #[.int .i64 xk,.string xt,.int .i64 xn,.int .i64 (xp:Nat)] 96):((w1.alloc (.cells #[.int .i64 yk,.string yt,.int .i64 yn,.int .i64 (yp:Nat)] 96)).alloc (.cells #[.int .i64 xk,.string xt,.int .i64 xn,.int .i64 (xp:Nat)] 96)).heap[w1.heap.size]?=_)⟩⟩
 case rest=>
  obtain⟨X,Y,rfl,rfl,f_⟩:=hcut;obtain⟨I,hX0,hY0,hX,hY⟩:=f_.out;have A:=T.out;have c_:Hid (Below w.heap.size w wc):=D_ (O.out.trans (I.mono O.out.size));have HX:=D_ hX;have HY:=D_ hY;have e_:=D_ (B0 I z_.out);have y_:=D_ (B0 I u_.out);obtain⟨a0,a1,a2,a3,_⟩:=A0 hX;obtain⟨b0,b1,b2,b3,_⟩:=A0 hY;obtain⟨rr0,_⟩:=Y0 e_.out;have hX1:w.heap.size+2<=X:=by omega
  have hY1:w.heap.size+2<=Y:=by omega
  clear I hX hY f_ A G R q y hX0 hY0 T;go_wp2_with (omega);refine(s_.out _ (HH.out _ c_.out)).mono ?_;rintro e w2 ⟨rfl,b_,x⟩;have rr1:=x.cell rr0 l.1 l.2;have n_:=D_ ((RGo.of_below (r:=r) (v:=v) c_.out (N_ M)).trans x);have v_:=D_ (x.at y_.out j.1 j.2);have HR2:=D_ (x.at e_.out l.1 l.2);have H:=l_.out Y (by omega);have HY2:=D_ (x.at HY.out H.1 H.2);have p_:=D_ b_;have hs2:=x.below.size;clear b_ x;go_wp2_with fail;refine(t_.out _ _ p_.out).mono ?_;rintro e w3 ⟨rfl,j_,J⟩;have d_:=D_ (n_.out.trans J);have w_:=D_ (J.at v_.out j.1 j.2);obtain⟨b0,b1,b2,b3,_⟩:=A0 (J.at HY2.out H.1 H.2);have q_:=D_ j_;clear j_ J;go_wp2_with fail;refine(gQ _ _).mono ?_;rintro e w4 ⟨rfl,C⟩;have o_:=D_ (d_.out.trans (RGo.of_below (r:=r) (v:=v) C (Nat.le_trans (N_ M) d_.out.below.size)));have x_:=D_ (B0 C w_.out);have r_:=D_ (q_.out.below C);obtain⟨d0,d1,d2,d3,e0,e1,e2,e3⟩:=A0 x_.out;clear C;go_wp2_with fail;refine B_ (v:=.tuple #[.agg #[.int .i64 3,.string ⟨#[]⟩,.int .i64 (wrap64 (-yn)),.slice none 0 0],.int .i64 0]) (by simp [results,Tryz.results144,go_sem,d0,d1,d2,d3]) rfl ⟨v,none,0,rfl,?_⟩;exact ROk.fin (B:=w.heap.size+2) r_.out o_.out (u6q _ _ _ (D1 (by decide) (by decide)) HN.out (Nat.zero_le _)) M (Nat.le_succ _) (by omega) j.2 _ _ _ _
set_option maxRecDepth 100000 in
theorem hQ {m:Nat} (hM:m<=10000) (p:Int) (ts:List Tok) (ns:Nms) (w:World) (r:Nat) (v:Value) (hm:ts.length<=m+1) (O:T0 ts) (hk:(j0 ts).isAtom=true) (h:A1 w r v ts ns) (h7:(j0 ts.tail).kind≠7) (a_: ¬((j0 ts).kind=3/\(j0 ts).text= [45]/\(j0 ts.tail).kind=5/\(j0 ts.tail).pos=(j0 ts).pos+1)) (ho:opR (j0 ts).text 2=none):
 Calls Tryz.prog 144 #[.pointer (some ⟨r,0,none⟩),.int .i64 p] w fun e w'=>B8 r v w (.ok (R1 (j0 ts).text,0) ts.tail ns) e w':=by
 have M:=h.lt;have h2:=O.two (A2 hk);obtain⟨Z,hl2⟩:=O.tail (A2 hk);have hm2:ts.tail.length<=m:=by omega
 have hft1:=Z.pos;have HH:=D_ (fun W' (s:Below w.heap.size w W')=>h.below s);have hnewR:=h.new_ne (b:=w.heap.size) (R_ _);have A:=h.new_ne (b:=w.heap.size+1) (Nat.le_succ _);have n_:=D_ (fun b (s:w.heap.size<=b)=>h.new_ne s);obtain⟨g,k,cap,hgr,hr,hlc,hcm,m_⟩:=h.ex;have hgl:g<w.heap.size:=by omega
 obtain⟨r0,_,_,_⟩:=E0 hr;obtain⟨c0,c1,c2,c3,G⟩:=m_.first O.pos;obtain⟨c4,c5,c6,c7,_⟩:=G.first Z.pos;have HTR:=D_ G;have hL0:0<ts.length:=by omega
 have hL1:(1:Int)<(ts.length:Int):=by omega
 have hcap2:2<=cap:=by omega
 have hmf: ∀(fn:Fn) (first cap:Array Value) (w:World),(Instr.makeFunc fn first cap).run Tryz.prog w=.ok (.func fn first cap) w:=fun _ _ _ _=>rfl;have HB:=D_ (fun o o2:Obj=>((F_ w.heap.size w).alloc (R_ _) o).alloc (by simp) o2);have HS1:Hid (∀W',Below w.heap.size w W'->W'.cell? ⟨r,0,none⟩=w.cell? ⟨r,0,none⟩/\ ∀i,W'.cell? ⟨g,i,none⟩=w.cell? ⟨g,i,none⟩):=D_ (fun W' s=>⟨s.cell (p:=⟨r,0,none⟩) M,fun i=>s.cell (p:=⟨g,i,none⟩) hgl⟩);have v_:=D_ (fun W' hm'=>R5 W' r v ts ns hm' h2);have hpos:=O.first.pos;have hsz:=O.first.size;have u_:=D_ (fun W'=>by have h:=p8 ⟨(j0 ts).text.toArray⟩ W';rw [show L2 q4 ⟨(j0 ts).text.toArray⟩ 2=none from ho,jx]at h;exact h);clear O Z hk;generalize j0 ts.tail=t1 at*;generalize j0 ts=t0 at*;obtain⟨xk,xl,xn,xp⟩:=t0;obtain⟨yk,yl,yn,yp⟩:=t1;dsimp only at*;generalize (⟨yl.toArray⟩:ByteArray)=yt at*;have hb7:(yk==7)=false:=by simpa using h7
 have t_:Hid ((xk==3&&(⟨xl.toArray⟩:ByteArray).toList== [45]&&yk==5&&(yp:Int)==(xp:Int)+1)=false):=D_ (by
  rw [O1];by_cases c1:xk=3
  · by_cases c2:xl= [45]
    · by_cases c3:yk=5
      · have c4:yp≠xp+1:=fun c=>a_ ⟨c1,c2,c3,c⟩;have c5: ¬((yp:Int)=(xp:Int)+1):=by omega
        simp [c5]
      · simp [c3]
    · simp [c2]
  · simp [c1])
 have HSZ:Hid ((⟨xl.toArray⟩:ByteArray).size<=maxLen):=D_ (show xl.toArray.size<=maxLen by have e:maxLen=9223372036854775807:=rfl;simp only [List.size_toArray];omega);clear h7 a_ hsz;have HE:Hid (Ending.returned (.tuple #[.agg #[.int .i64 2,.string ⟨xl.toArray⟩,.int .i64 0,.slice none 0 0],.int .i64 0])=Ending.returned (.tuple #[tmv (R1 xl) none 0,.int .i64 0])):=D_ rfl;have o_:Hid (xl.toArray.size<=maxLen):=D_ HSZ.out;generalize (⟨xl.toArray⟩:ByteArray)=xt at*;generalize i_:ts.length=L at*;have HLN:=D_ i_;clear i_ h hr m_ G;have HS0:Hid (∀W,Below w.heap.size w W->W.cell? ⟨r,0,none⟩=some (.slice (some ⟨g,k,none⟩) L cap)/\W.cell? ⟨g,k,none⟩=some (.int .i64 xk)/\W.cell? ⟨g,k+1,none⟩=some (.string xt)/\W.cell? ⟨g,k+2,none⟩=some (.int .i64 xn)/\W.cell? ⟨g,k+3,none⟩=some (.int .i64 (xp:Nat))/\W.cell? ⟨g,k+4,none⟩=some (.int .i64 yk)/\W.cell? ⟨g,k+4+1,none⟩=some (.string yt)/\W.cell? ⟨g,k+4+2,none⟩=some (.int .i64 yn)/\W.cell? ⟨g,k+4+3,none⟩=some (.int .i64 (yp:Nat))):=D_ (fun W s=>by obtain⟨q1,q2⟩:=HS1.out W s;rw [q1,q2,q2,q2,q2,q2,q2,q2,q2];exact⟨r0,c0,c1,c2,c3,c4,c5,c6,c7⟩);clear r0 c0 c1 c2 c3 c4 c5 c6 c7;go_enter Tryz.func144,Tryz.ntmps144;go_wp2_with fail;generalize E:(w.alloc (.cells #[.pointer (some ⟨r,0,none⟩)] 86)).alloc (.cells #[.int .i64 0,.string ⟨#[]⟩,.int .i64 0,.slice none 0 0] 26)=w1;have z:Below w.heap.size w w1:=by rw [<-E];exact HB.out _ _
 have C:w1.heap.size=w.heap.size+2:=by rw [<-E];simp
 have V:w1.heap[w.heap.size]?=some (.cells #[.pointer (some ⟨r,0,none⟩)] 86 (0,0)):=by rw [<-E];exact N0 (U0 w _) _
 have j_:w1.heap[w.heap.size+1]?=some (.cells #[.int .i64 0,.string ⟨#[]⟩,.int .i64 0,.slice none 0 0] 26 (0,0)):=by rw [<-E];have:=U0 (w.alloc (.cells #[.pointer (some ⟨r,0,none⟩)] 86)) (.cells #[.int .i64 0,.string ⟨#[]⟩,.int .i64 0,.slice none 0 0] 26);rwa [Z_]at this
 have t:Hid (∀W,Below w1.heap.size w1 W->W.cell? ⟨w.heap.size,0,none⟩=some (.pointer (some ⟨r,0,none⟩))/\W.cell? ⟨r,0,none⟩=some (.slice (some ⟨g,k,none⟩) L cap)/\W.cell? ⟨g,k,none⟩=some (.int .i64 xk)/\W.cell? ⟨g,k+1,none⟩=some (.string xt)/\W.cell? ⟨g,k+2,none⟩=some (.int .i64 xn)/\W.cell? ⟨g,k+3,none⟩=some (.int .i64 (xp:Nat))/\W.cell? ⟨g,k+4,none⟩=some (.int .i64 yk)/\W.cell? ⟨g,k+4+1,none⟩=some (.string yt)/\W.cell? ⟨g,k+4+2,none⟩=some (.int .i64 yn)/\W.cell? ⟨g,k+4+3,none⟩=some (.int .i64 (yp:Nat))):=D_ (fun W s=>⟨(Y0 (B0 s V)).1,HS0.out W (z.trans (s.mono z.size))⟩);have H:=D_ (fun o:Obj=>(F_ w1.heap.size w1).drew.alloc (w:=w1.drew) (R_ _) o);have T:=D_ (fun o o2:Obj=>(H.out o).alloc (by simp) o2);have l:=D_ (fun o o2:Obj=>(((F_ w1.heap.size w1).alloc (R_ _) o).alloc (by simp) o2).drew);have HR1:=D_ V;have w_:=D_ j_;have R:=D_ z;have U:=D_ C;clear E z V j_ C;go_cut [6,7] (fun s6 s7 wx=> ∃X Y,s6=.pointer (some ⟨X,0,none⟩)/\s7=.pointer (some ⟨Y,0,none⟩)/\Hid (Below w1.heap.size w1 wx/\w1.heap.size<=X/\w1.heap.size<=Y/\wx.heap[X]?=some (.cells #[.int .i64 xk,.string xt,.int .i64 xn,.int .i64 (xp:Nat)] 96 (0,0))/\wx.heap[Y]?=some (.cells #[.int .i64 yk,.string yt,.int .i64 yn,.int .i64 (yp:Nat)] 96 (0,0))))
 case first=>
  refine wp_region_held_drew (S:=(fun W=>W.cell? ⟨w.heap.size,0,none⟩=some (.pointer (some ⟨r,0,none⟩))/\W.cell? ⟨r,0,none⟩=some (.slice (some ⟨g,k,none⟩) L cap)/\W.cell? ⟨g,k,none⟩=some (.int .i64 xk)/\W.cell? ⟨g,k+1,none⟩=some (.string xt)/\W.cell? ⟨g,k+2,none⟩=some (.int .i64 xn)/\W.cell? ⟨g,k+3,none⟩=some (.int .i64 (xp:Nat))/\W.cell? ⟨g,k+4,none⟩=some (.int .i64 yk)/\W.cell? ⟨g,k+4+1,none⟩=some (.string yt)/\W.cell? ⟨g,k+4+2,none⟩=some (.int .i64 yn)/\W.cell? ⟨g,k+4+3,none⟩=some (.int .i64 (yp:Nat)))) (by kernel_rfl) (t.out _ (F_ _ w1).drew) (fun p_=>?_);refine tK 0 (v:=?v28) rfl (.inl ⟨by rfl,?y28⟩) ?r28
  case y28=>(intro w a;(try dsimp only at a);go_simp;try with_reducible rfl)
  (try simp only [Act.put,T_,C_,E_])
  refine tK 1 (v:=?v29) rfl (.inl ⟨by rfl,?y29⟩) ?r29
  case y29=>(intro w a;(try dsimp only at a);go_simp;try with_reducible rfl)
  (try simp only [Act.put,T_,C_,E_])
  refine tK 2 (v:=?v30) rfl (.inl ⟨by rfl,?y30⟩) ?r30
  case y30=>(intro w a;(try dsimp only at a);go_simp;try with_reducible rfl)
  (try simp only [Act.put,T_,C_,E_])
  refine tK 3 (v:=?v31) rfl (.inl ⟨by rfl,?y31⟩) ?r31
  case y31=>(intro w a;(try dsimp only at a);go_simp;try with_reducible rfl)
  (try simp only [Act.put,T_,C_,E_])
  refine tK 4 (v:=?v32) rfl (.inl ⟨by rfl,?y32⟩) ?r32
  case y32=>(intro w a;(try dsimp only at a);go_simp;try with_reducible rfl)
  (try simp only [Act.put,T_,C_,E_])
  refine tK 5 (v:=?v33) rfl (.inl ⟨by rfl,?y33⟩) ?r33
  case y33=>(intro w a;(try dsimp only at a);go_simp;try with_reducible rfl)
  (try simp only [Act.put,T_,C_,E_])
  refine tK 6 (v:=?v34) rfl (.inl ⟨by rfl,?y34⟩) ?r34
  case y34=>(intro w a;(try dsimp only at a);go_simp;try with_reducible rfl)
  (try simp only [Act.put,T_,C_,E_])
  refine tK 7 (v:=?v35) rfl (.inl ⟨by rfl,?y35⟩) ?r35
  case y35=>(intro w a;(try dsimp only at a);go_simp;try with_reducible rfl)
  (try simp only [Act.put,T_,C_,E_])
  refine tK 8 (v:=?v36) rfl (.inl ⟨by rfl,?y36⟩) ?r36
  case y36=>(intro w a;(try dsimp only at a);go_simp;try with_reducible rfl)
  (try simp only [Act.put,T_,C_,E_])
  refine tK 9 (v:=?v37) rfl (.inl ⟨by rfl,?y37⟩) ?r37
  case y37=>(intro w a;(try dsimp only at a);go_simp;try with_reducible rfl)
  (try simp only [Act.put,T_,C_,E_])
  refine tK 10 (v:=?v38) rfl (.inl ⟨by rfl,?y38⟩) ?r38
  case y38=>(intro w a;(try dsimp only at a);go_simp;try with_reducible rfl)
  (try simp only [Act.put,T_,C_,E_])
  refine tK 11 (v:=?v39) rfl (.inl ⟨by rfl,?y39⟩) ?r39
  case y39=>(intro w a;(try dsimp only at a);go_simp;try with_reducible rfl)
  (try simp only [Act.put,T_,C_,E_])
  refine wpAnyH_ready (rs:= [12,13]) (by kernel_rfl) (by simp) ?_;refine AllReadyH.cons (o:=_) rfl (fun K d=>?_) (AllReadyH.cons (o:=_) rfl (fun K d=>?_) AllReadyH.nil)
  · go_simp
    refine d.out _ _ (t.out _ (H.out _)) (fun n=>?_);clear d K;(try simp only [Act.put,T_,C_,E_])
    refine rY 13 rfl fun K d=>?_;go_simp
    refine d.out _ _ (t.out _ (T.out _ _)) (fun q=>?_);clear d K n;(try simp only [Act.put,T_,C_,E_])
    refine rY 14 rfl fun K d=>?_;go_simp
    refine d.out _ _ (t.out _ (l.out _ _)) (fun j=>?_);clear d K q;(try simp only [Act.put,T_,C_,E_])
    refine rY 15 rfl fun K d=>?_;go_simp
    refine d.out _ _ (t.out _ (l.out _ _)) (fun N=>?_);clear d K j;(try simp only [Act.put,T_,C_,E_])
    refine wpAnyH_done (by kernel_rfl) ?_ _;go_wp2_with fail;go_meet;exact⟨w1.heap.size,w1.heap.size+1,rfl,rfl,D_ ⟨l.out _ _,R_ _,Nat.le_succ _,(N0 (U0 w1 (.cells #[.int .i64 xk,.string xt,.int .i64 xn,.int .i64 (xp:Nat)] 96)) (.cells #[.int .i64 yk,.string yt,.int .i64 yn,.int .i64 (yp:Nat)] 96):((w1.alloc (.cells #[.int .i64 xk,.string xt,.int .i64 xn,.int .i64 (xp:Nat)] 96)).alloc (.cells #[.int .i64 yk,.string yt,.int .i64 yn,.int .i64 (yp:Nat)] 96)).heap[w1.heap.size]?=_),(by have:=U0 (w1.alloc (.cells #[.int .i64 xk,.string xt,.int .i64 xn,.int .i64 (xp:Nat)] 96)) (.cells #[.int .i64 yk,.string yt,.int .i64 yn,.int .i64 (yp:Nat)] 96);rwa [Z_]at this:((w1.alloc (.cells #[.int .i64 xk,.string xt,.int .i64 xn,.int .i64 (xp:Nat)] 96)).alloc (.cells #[.int .i64 yk,.string yt,.int .i64 yn,.int .i64 (yp:Nat)] 96)).heap[w1.heap.size+1]?=some (.cells #[.int .i64 yk,.string yt,.int .i64 yn,.int .i64 (yp:Nat)] 96 (0,0)))⟩⟩
  · go_simp
    refine d.out _ _ (t.out _ (H.out _)) (fun n=>?_);clear d K;(try simp only [Act.put,T_,C_,E_])
    refine rY 12 rfl fun K d=>?_;go_simp
    refine d.out _ _ (t.out _ (T.out _ _)) (fun q=>?_);clear d K n;(try simp only [Act.put,T_,C_,E_])
    refine rY 14 rfl fun K d=>?_;go_simp
    refine d.out _ _ (t.out _ (l.out _ _)) (fun j=>?_);clear d K q;(try simp only [Act.put,T_,C_,E_])
    refine rY 15 rfl fun K d=>?_;go_simp
    refine d.out _ _ (t.out _ (l.out _ _)) (fun N=>?_);clear d K j;(try simp only [Act.put,T_,C_,E_])
    refine wpAnyH_done (by kernel_rfl) ?_ _;go_wp2_with fail;go_meet;exact⟨w1.heap.size+1,w1.heap.size,rfl,rfl,D_ ⟨l.out _ _,Nat.le_succ _,R_ _,(by have:=U0 (w1.alloc (.cells #[.int .i64 yk,.string yt,.int .i64 yn,.int .i64 (yp:Nat)] 96)) (.cells #[.int .i64 xk,.string xt,.int .i64 xn,.int .i64 (xp:Nat)] 96);rwa [Z_]at this:((w1.alloc (.cells #[.int .i64 yk,.string yt,.int .i64 yn,.int .i64 (yp:Nat)] 96)).alloc (.cells #[.int .i64 xk,.string xt,.int .i64 xn,.int .i64 (xp:Nat)] 96)).heap[w1.heap.size+1]?=some (.cells #[.int .i64 xk,.string xt,.int .i64 xn,.int .i64 (xp:Nat)] 96 (0,0))),(N0 (U0 w1 (.cells #[.int .i64 yk,.string yt,.int .i64 yn,.int .i64 (yp:Nat)] 96)) (.cells #[.int .i64 xk,.string xt,.int .i64 xn,.int .i64 (xp:Nat)] 96):((w1.alloc (.cells #[.int .i64 yk,.string yt,.int .i64 yn,.int .i64 (yp:Nat)] 96)).alloc (.cells #[.int .i64 xk,.string xt,.int .i64 xn,.int .i64 (xp:Nat)] 96)).heap[w1.heap.size]?=_)⟩⟩
 case rest=>
  obtain⟨X,Y,rfl,rfl,h_⟩:=hcut;obtain⟨I,hX0,hY0,hX,hY⟩:=h_.out;have C:=U.out;have e_:Hid (Below w.heap.size w wc):=D_ (R.out.trans (I.mono R.out.size));have HX:=D_ hX;have HY:=D_ hY;have g_:=D_ (B0 I HR1.out);have HQB:=D_ (B0 I w_.out);obtain⟨a0,a1,a2,a3,_⟩:=A0 hX;obtain⟨b0,b1,b2,b3,_⟩:=A0 hY;obtain⟨rr0,_⟩:=Y0 g_.out;have hX1:w.heap.size+2<=X:=by omega
  have hY1:w.heap.size+2<=Y:=by omega
  clear I hX hY h_ C H T l t hX0 hY0 U;go_upto_region 5 with fail;go_cut [50] (fun s50 wx=>s50=.bool false/\wx=wc)
  case first=>
   have y:=t_.out;cases u:(xk==3)with
   |false=>(clear y;go_wp2_with (omega);go_meet;exact⟨rfl,rfl⟩)
   | true=>
    cases hb4:(xt.toList== [45])with
    |false=>(clear y;go_wp2_with (omega);go_meet;exact⟨rfl,rfl⟩)
    | true=>
     cases x:(yk==5)with
     |false=>(clear y;go_wp2_with (omega);go_meet;exact⟨rfl,rfl⟩)
     |true=>
      have hbp:((yp:Int)==(xp:Int)+1)=false:=by rw [u,hb4,x]at y;simpa using y
      clear y;go_wp2_with (omega);go_meet;exact⟨rfl,rfl⟩
  case rest=>
   obtain⟨rfl,hwc⟩:=hcut;subst hwc;go_wp2_with fail;refine(u_.out _).mono ?_;rintro e w2 ⟨rfl,D⟩;have b_:=D_ (e_.out.trans (D.mono e_.out.size));have d_:=D_ (fun o:Obj=>b_.out.alloc b_.out.size o);go_upto_region 10 with fail;generalize F:w2.alloc (.cells #[.int .i64 0,.string ⟨#[]⟩] 126)=w3;have u:Below wc.heap.size wc w3:=by rw [<-F];exact D.alloc D.size _
   have c_:Hid (Below w.heap.size w w3):=D_ (by rw [<-F];exact d_.out _);have HO3:Hid (w3.heap[w2.heap.size]?=some (.cells #[.int .i64 0,.string ⟨#[]⟩] 126 (0,0))):=D_ (by rw [<-F];exact U0 w2 _);have hs3:w3.heap.size=w2.heap.size+1:=by rw [<-F];simp
   have HX3:=D_ (B0 u HX.out);have HR3:=D_ (B0 u g_.out);have x_:=D_ (B0 u HQB.out);have hs2:=D.size;have hXl:=(Array.getElem?_eq_some_iff.1 HX.out).1;obtain⟨rr3,_⟩:=Y0 HR3.out;clear F D d_ a0 a1 a2 a3 b0 b1 b2 b3 rr0 u;go_wp2_with fail;refine(v_.out _ (HH.out _ c_.out)).mono ?_;rintro e w4 ⟨rfl,l_,J⟩;have f_:=D_ ((RGo.of_below (r:=r) (v:=v) c_.out (N_ M)).trans J);have y_:=D_ (J.at x_.out A.1 A.2);have k_:=n_.out X (by omega);obtain⟨a0,a1,a2,a3,_⟩:=A0 (J.at HX3.out k_.1 k_.2);have r_:=D_ l_;clear l_ J;go_wp2_with fail;refine(O9 _ _).mono ?_;rintro e w5 ⟨rfl,x⟩;have q_:=D_ (f_.out.trans (RGo.of_below (r:=r) (v:=v) x (Nat.le_trans (N_ M) f_.out.below.size)));have z_:=D_ (B0 x y_.out);have s_:=D_ (r_.out.below x);obtain⟨d0,d1,d2,d3,e0,e1,e2,e3⟩:=A0 z_.out;clear x;go_wp2_with fail;refine B_ (v:=.tuple #[.agg #[.int .i64 2,.string xt,.int .i64 0,.slice none 0 0],.int .i64 0]) (by simp [results,Tryz.results144,go_sem,d0,d1,d2,d3]) rfl ⟨v,none,0,HE.out,?_⟩;exact ROk.fin (B:=w.heap.size+2) s_.out q_.out (u6q _ _ _ (D1 (by decide) (by decide)) (D1 (by decide) (by decide)) o_.out) M (Nat.le_succ _) (by omega) A.2 _ _ _ _
set_option maxRecDepth 100000 in
theorem iQ {m:Nat} (hM:m<=10000) (p:Int) (ts:List Tok) (ns:Nms) (w:World) (r:Nat) (v:Value) (hm:ts.length<=m+1) (Z:T0 ts) (hk:(j0 ts).isAtom=true) (h:A1 w r v ts ns) (h7:(j0 ts.tail).kind≠7) (h_: ¬((j0 ts).kind=3/\(j0 ts).text= [45]/\(j0 ts.tail).kind=5/\(j0 ts.tail).pos=(j0 ts).pos+1)) {o:R} (ho:opR (j0 ts).text 2=some o) (ha:I3 (j0 ts.tail) (j0 ts.tail.tail)=true):
 Calls Tryz.prog 144 #[.pointer (some ⟨r,0,none⟩),.int .i64 p] w fun e w'=>B8 r v w (.ok (R1 (j0 ts).text,0) ts.tail ns) e w':=by
 have U:=h.lt;have h2:=Z.two (A2 hk);obtain⟨O,hl2⟩:=Z.tail (A2 hk);have hm2:ts.tail.length<=m:=by omega
 have hft1:=O.pos;have HH:=D_ (fun W' (n:Below w.heap.size w W')=>h.below n);have hnewR:=h.new_ne (b:=w.heap.size) (R_ _);have C:=h.new_ne (b:=w.heap.size+1) (Nat.le_succ _);have y_:=D_ (fun b (n:w.heap.size<=b)=>h.new_ne n);obtain⟨g,k,cap,hgr,hr,hlc,hcm,x_⟩:=h.ex;have v_:g<w.heap.size:=by omega
 obtain⟨r0,_,_,_⟩:=E0 hr;obtain⟨c0,c1,c2,c3,H⟩:=x_.first Z.pos;obtain⟨c4,c5,c6,c7,_⟩:=H.first O.pos;have HTR:=D_ H;have hL0:0<ts.length:=by omega
 have hL1:(1:Int)<(ts.length:Int):=by omega
 have i_:2<=cap:=by omega
 have hmf: ∀(fn:Fn) (first cap:Array Value) (w:World),(Instr.makeFunc fn first cap).run Tryz.prog w=.ok (.func fn first cap) w:=fun _ _ _ _=>rfl;have HB:=D_ (fun o o2:Obj=>((F_ w.heap.size w).alloc (R_ _) o).alloc (by simp) o2);have HS1:Hid (∀W',Below w.heap.size w W'->W'.cell? ⟨r,0,none⟩=w.cell? ⟨r,0,none⟩/\ ∀i,W'.cell? ⟨g,i,none⟩=w.cell? ⟨g,i,none⟩):=D_ (fun W' n=>⟨n.cell (p:=⟨r,0,none⟩) U,fun i=>n.cell (p:=⟨g,i,none⟩) v_⟩);have HPS:=D_ (fun W' hm'=>R5 W' r v ts ns hm' h2);have hpos:=Z.first.pos;have hsz:=Z.first.size;have HOP:=D_ (fun W'=>by have h:=p8 ⟨(j0 ts).text.toArray⟩ W';rw [show L2 q4 ⟨(j0 ts).text.toArray⟩ 2=some o from ho,x7]at h;exact h);have j_:Hid (∀W',Below w.heap.size w W'->Calls Tryz.prog 173 #[.slice (some ⟨g,k+4,none⟩) (ts.length-1) (cap-1)] W' fun e w'=>e=.returned (.bool true)/\Below W'.heap.size W' w'):=D_ (fun W' n=>by
  have:=fQ W' g (k+4) (cap-1) ts.tail (HTR.out.kept (fun _=>n.block g v_)) O;rw [ha,show ts.tail.length=ts.length-1 from by omega]at this;exact this)
 have q_:Hid (sliced (some ⟨g,k,none⟩) 1 ts.length cap 4=.slice (some ⟨g,k+4,none⟩) (ts.length-1) (cap-1)):=D_ (by have:=x8 g k (ts.length-1) cap i_;rwa [Nat.sub_add_cancel (by omega)]at this);clear ha Z O hk;generalize j0 ts.tail=t1 at*;generalize j0 ts=t0 at*;obtain⟨xk,xl,xn,xp⟩:=t0;obtain⟨yk,yl,yn,yp⟩:=t1;dsimp only at*;generalize (⟨yl.toArray⟩:ByteArray)=yt at*;have hb7:(yk==7)=false:=by simpa using h7
 have HNB:Hid ((xk==3&&(⟨xl.toArray⟩:ByteArray).toList== [45]&&yk==5&&(yp:Int)==(xp:Int)+1)=false):=D_ (by
  rw [O1];by_cases c1:xk=3
  · by_cases c2:xl= [45]
    · by_cases c3:yk=5
      · have c4:yp≠xp+1:=fun c=>h_ ⟨c1,c2,c3,c⟩;have c5: ¬((yp:Int)=(xp:Int)+1):=by omega
        simp [c5]
      · simp [c3]
    · simp [c2]
  · simp [c1])
 have HSZ:Hid ((⟨xl.toArray⟩:ByteArray).size<=maxLen):=D_ (show xl.toArray.size<=maxLen by have e:maxLen=9223372036854775807:=rfl;simp only [List.size_toArray];omega);clear h7 h_ hsz;have HE:Hid (Ending.returned (.tuple #[.agg #[.int .i64 2,.string ⟨xl.toArray⟩,.int .i64 0,.slice none 0 0],.int .i64 0])=Ending.returned (.tuple #[tmv (R1 xl) none 0,.int .i64 0])):=D_ rfl;have z_:Hid (xl.toArray.size<=maxLen):=D_ HSZ.out;generalize (⟨xl.toArray⟩:ByteArray)=xt at*;generalize s_:ts.length=L at*;have HLN:=D_ s_;clear s_ h hr x_ H;have p_:Hid (∀W,Below w.heap.size w W->W.cell? ⟨r,0,none⟩=some (.slice (some ⟨g,k,none⟩) L cap)/\W.cell? ⟨g,k,none⟩=some (.int .i64 xk)/\W.cell? ⟨g,k+1,none⟩=some (.string xt)/\W.cell? ⟨g,k+2,none⟩=some (.int .i64 xn)/\W.cell? ⟨g,k+3,none⟩=some (.int .i64 (xp:Nat))/\W.cell? ⟨g,k+4,none⟩=some (.int .i64 yk)/\W.cell? ⟨g,k+4+1,none⟩=some (.string yt)/\W.cell? ⟨g,k+4+2,none⟩=some (.int .i64 yn)/\W.cell? ⟨g,k+4+3,none⟩=some (.int .i64 (yp:Nat))):=D_ (fun W n=>by obtain⟨q1,q2⟩:=HS1.out W n;rw [q1,q2,q2,q2,q2,q2,q2,q2,q2];exact⟨r0,c0,c1,c2,c3,c4,c5,c6,c7⟩);clear r0 c0 c1 c2 c3 c4 c5 c6 c7;go_enter Tryz.func144,Tryz.ntmps144;go_wp2_with fail;generalize F:(w.alloc (.cells #[.pointer (some ⟨r,0,none⟩)] 86)).alloc (.cells #[.int .i64 0,.string ⟨#[]⟩,.int .i64 0,.slice none 0 0] 26)=w1;have A:Below w.heap.size w w1:=by rw [<-F];exact HB.out _ _
 have D:w1.heap.size=w.heap.size+2:=by rw [<-F];simp
 have g_:w1.heap[w.heap.size]?=some (.cells #[.pointer (some ⟨r,0,none⟩)] 86 (0,0)):=by rw [<-F];exact N0 (U0 w _) _
 have t_:w1.heap[w.heap.size+1]?=some (.cells #[.int .i64 0,.string ⟨#[]⟩,.int .i64 0,.slice none 0 0] 26 (0,0)):=by rw [<-F];have:=U0 (w.alloc (.cells #[.pointer (some ⟨r,0,none⟩)] 86)) (.cells #[.int .i64 0,.string ⟨#[]⟩,.int .i64 0,.slice none 0 0] 26);rwa [Z_]at this
 have x:Hid (∀W,Below w1.heap.size w1 W->W.cell? ⟨w.heap.size,0,none⟩=some (.pointer (some ⟨r,0,none⟩))/\W.cell? ⟨r,0,none⟩=some (.slice (some ⟨g,k,none⟩) L cap)/\W.cell? ⟨g,k,none⟩=some (.int .i64 xk)/\W.cell? ⟨g,k+1,none⟩=some (.string xt)/\W.cell? ⟨g,k+2,none⟩=some (.int .i64 xn)/\W.cell? ⟨g,k+3,none⟩=some (.int .i64 (xp:Nat))/\W.cell? ⟨g,k+4,none⟩=some (.int .i64 yk)/\W.cell? ⟨g,k+4+1,none⟩=some (.string yt)/\W.cell? ⟨g,k+4+2,none⟩=some (.int .i64 yn)/\W.cell? ⟨g,k+4+3,none⟩=some (.int .i64 (yp:Nat))):=D_ (fun W n=>⟨(Y0 (B0 n g_)).1,p_.out W (A.trans (n.mono A.size))⟩);have I:=D_ (fun o:Obj=>(F_ w1.heap.size w1).drew.alloc (w:=w1.drew) (R_ _) o);have b_:=D_ (fun o o2:Obj=>(I.out o).alloc (by simp) o2);have s:=D_ (fun o o2:Obj=>(((F_ w1.heap.size w1).alloc (R_ _) o).alloc (by simp) o2).drew);have HR1:=D_ g_;have HQ1:=D_ t_;have a_:=D_ A;have e_:=D_ D;clear F A g_ t_ D;go_cut [6,7] (fun s6 s7 wx=> ∃X Y,s6=.pointer (some ⟨X,0,none⟩)/\s7=.pointer (some ⟨Y,0,none⟩)/\Hid (Below w1.heap.size w1 wx/\w1.heap.size<=X/\w1.heap.size<=Y/\wx.heap[X]?=some (.cells #[.int .i64 xk,.string xt,.int .i64 xn,.int .i64 (xp:Nat)] 96 (0,0))/\wx.heap[Y]?=some (.cells #[.int .i64 yk,.string yt,.int .i64 yn,.int .i64 (yp:Nat)] 96 (0,0))))
 case first=>
  refine wp_region_held_drew (S:=(fun W=>W.cell? ⟨w.heap.size,0,none⟩=some (.pointer (some ⟨r,0,none⟩))/\W.cell? ⟨r,0,none⟩=some (.slice (some ⟨g,k,none⟩) L cap)/\W.cell? ⟨g,k,none⟩=some (.int .i64 xk)/\W.cell? ⟨g,k+1,none⟩=some (.string xt)/\W.cell? ⟨g,k+2,none⟩=some (.int .i64 xn)/\W.cell? ⟨g,k+3,none⟩=some (.int .i64 (xp:Nat))/\W.cell? ⟨g,k+4,none⟩=some (.int .i64 yk)/\W.cell? ⟨g,k+4+1,none⟩=some (.string yt)/\W.cell? ⟨g,k+4+2,none⟩=some (.int .i64 yn)/\W.cell? ⟨g,k+4+3,none⟩=some (.int .i64 (yp:Nat)))) (by kernel_rfl) (x.out _ (F_ _ w1).drew) (fun hHeld40=>?_);refine tK 0 (v:=?v41) rfl (.inl ⟨by rfl,?y41⟩) ?r41
  case y41=>(intro w a;(try dsimp only at a);go_simp;try with_reducible rfl)
  (try simp only [Act.put,T_,C_,E_])
  refine tK 1 (v:=?v42) rfl (.inl ⟨by rfl,?y42⟩) ?r42
  case y42=>(intro w a;(try dsimp only at a);go_simp;try with_reducible rfl)
  (try simp only [Act.put,T_,C_,E_])
  refine tK 2 (v:=?v43) rfl (.inl ⟨by rfl,?y43⟩) ?r43
  case y43=>(intro w a;(try dsimp only at a);go_simp;try with_reducible rfl)
  (try simp only [Act.put,T_,C_,E_])
  refine tK 3 (v:=?v44) rfl (.inl ⟨by rfl,?y44⟩) ?r44
  case y44=>(intro w a;(try dsimp only at a);go_simp;try with_reducible rfl)
  (try simp only [Act.put,T_,C_,E_])
  refine tK 4 (v:=?v45) rfl (.inl ⟨by rfl,?y45⟩) ?r45
  case y45=>(intro w a;(try dsimp only at a);go_simp;try with_reducible rfl)
  (try simp only [Act.put,T_,C_,E_])
  refine tK 5 (v:=?v46) rfl (.inl ⟨by rfl,?y46⟩) ?r46
  case y46=>(intro w a;(try dsimp only at a);go_simp;try with_reducible rfl)
  (try simp only [Act.put,T_,C_,E_])
  refine tK 6 (v:=?v47) rfl (.inl ⟨by rfl,?y47⟩) ?r47
  case y47=>(intro w a;(try dsimp only at a);go_simp;try with_reducible rfl)
  (try simp only [Act.put,T_,C_,E_])
  refine tK 7 (v:=?v48) rfl (.inl ⟨by rfl,?y48⟩) ?r48
  case y48=>(intro w a;(try dsimp only at a);go_simp;try with_reducible rfl)
  (try simp only [Act.put,T_,C_,E_])
  refine tK 8 (v:=?v49) rfl (.inl ⟨by rfl,?y49⟩) ?r49
  case y49=>(intro w a;(try dsimp only at a);go_simp;try with_reducible rfl)
  (try simp only [Act.put,T_,C_,E_])
  refine tK 9 (v:=?v50) rfl (.inl ⟨by rfl,?y50⟩) ?r50
  case y50=>(intro w a;(try dsimp only at a);go_simp;try with_reducible rfl)
  (try simp only [Act.put,T_,C_,E_])
  refine tK 10 (v:=?v51) rfl (.inl ⟨by rfl,?y51⟩) ?r51
  case y51=>(intro w a;(try dsimp only at a);go_simp;try with_reducible rfl)
  (try simp only [Act.put,T_,C_,E_])
  refine tK 11 (v:=?v52) rfl (.inl ⟨by rfl,?y52⟩) ?r52
  case y52=>(intro w a;(try dsimp only at a);go_simp;try with_reducible rfl)
  (try simp only [Act.put,T_,C_,E_])
  refine wpAnyH_ready (rs:= [12,13]) (by kernel_rfl) (by simp) ?_;refine AllReadyH.cons (o:=_) rfl (fun K d=>?_) (AllReadyH.cons (o:=_) rfl (fun K d=>?_) AllReadyH.nil)
  · go_simp
    refine d.out _ _ (x.out _ (I.out _)) (fun t=>?_);clear d K;(try simp only [Act.put,T_,C_,E_])
    refine rY 13 rfl fun K d=>?_;go_simp
    refine d.out _ _ (x.out _ (b_.out _ _)) (fun u=>?_);clear d K t;(try simp only [Act.put,T_,C_,E_])
    refine rY 14 rfl fun K d=>?_;go_simp
    refine d.out _ _ (x.out _ (s.out _ _)) (fun l=>?_);clear d K u;(try simp only [Act.put,T_,C_,E_])
    refine rY 15 rfl fun K d=>?_;go_simp
    refine d.out _ _ (x.out _ (s.out _ _)) (fun V=>?_);clear d K l;(try simp only [Act.put,T_,C_,E_])
    refine wpAnyH_done (by kernel_rfl) ?_ _;go_wp2_with fail;go_meet;exact⟨w1.heap.size,w1.heap.size+1,rfl,rfl,D_ ⟨s.out _ _,R_ _,Nat.le_succ _,(N0 (U0 w1 (.cells #[.int .i64 xk,.string xt,.int .i64 xn,.int .i64 (xp:Nat)] 96)) (.cells #[.int .i64 yk,.string yt,.int .i64 yn,.int .i64 (yp:Nat)] 96):((w1.alloc (.cells #[.int .i64 xk,.string xt,.int .i64 xn,.int .i64 (xp:Nat)] 96)).alloc (.cells #[.int .i64 yk,.string yt,.int .i64 yn,.int .i64 (yp:Nat)] 96)).heap[w1.heap.size]?=_),(by have:=U0 (w1.alloc (.cells #[.int .i64 xk,.string xt,.int .i64 xn,.int .i64 (xp:Nat)] 96)) (.cells #[.int .i64 yk,.string yt,.int .i64 yn,.int .i64 (yp:Nat)] 96);rwa [Z_]at this:((w1.alloc (.cells #[.int .i64 xk,.string xt,.int .i64 xn,.int .i64 (xp:Nat)] 96)).alloc (.cells #[.int .i64 yk,.string yt,.int .i64 yn,.int .i64 (yp:Nat)] 96)).heap[w1.heap.size+1]?=some (.cells #[.int .i64 yk,.string yt,.int .i64 yn,.int .i64 (yp:Nat)] 96 (0,0)))⟩⟩
  · go_simp
    refine d.out _ _ (x.out _ (I.out _)) (fun t=>?_);clear d K;(try simp only [Act.put,T_,C_,E_])
    refine rY 12 rfl fun K d=>?_;go_simp
    refine d.out _ _ (x.out _ (b_.out _ _)) (fun u=>?_);clear d K t;(try simp only [Act.put,T_,C_,E_])
    refine rY 14 rfl fun K d=>?_;go_simp
    refine d.out _ _ (x.out _ (s.out _ _)) (fun l=>?_);clear d K u;(try simp only [Act.put,T_,C_,E_])
    refine rY 15 rfl fun K d=>?_;go_simp
    refine d.out _ _ (x.out _ (s.out _ _)) (fun V=>?_);clear d K l;(try simp only [Act.put,T_,C_,E_])
    refine wpAnyH_done (by kernel_rfl) ?_ _;go_wp2_with fail;go_meet;exact⟨w1.heap.size+1,w1.heap.size,rfl,rfl,D_ ⟨s.out _ _,Nat.le_succ _,R_ _,(by have:=U0 (w1.alloc (.cells #[.int .i64 yk,.string yt,.int .i64 yn,.int .i64 (yp:Nat)] 96)) (.cells #[.int .i64 xk,.string xt,.int .i64 xn,.int .i64 (xp:Nat)] 96);rwa [Z_]at this:((w1.alloc (.cells #[.int .i64 yk,.string yt,.int .i64 yn,.int .i64 (yp:Nat)] 96)).alloc (.cells #[.int .i64 xk,.string xt,.int .i64 xn,.int .i64 (xp:Nat)] 96)).heap[w1.heap.size+1]?=some (.cells #[.int .i64 xk,.string xt,.int .i64 xn,.int .i64 (xp:Nat)] 96 (0,0))),(N0 (U0 w1 (.cells #[.int .i64 yk,.string yt,.int .i64 yn,.int .i64 (yp:Nat)] 96)) (.cells #[.int .i64 xk,.string xt,.int .i64 xn,.int .i64 (xp:Nat)] 96):((w1.alloc (.cells #[.int .i64 yk,.string yt,.int .i64 yn,.int .i64 (yp:Nat)] 96)).alloc (.cells #[.int .i64 xk,.string xt,.int .i64 xn,.int .i64 (xp:Nat)] 96)).heap[w1.heap.size]?=_)⟩⟩
 case rest=>
  obtain⟨X,Y,rfl,rfl,r_⟩:=hcut;obtain⟨N,hX0,hY0,hX,hY⟩:=r_.out;have D:=e_.out;have m_:Hid (Below w.heap.size w wc):=D_ (a_.out.trans (N.mono a_.out.size));have HX:=D_ hX;have HY:=D_ hY;have o_:=D_ (B0 N HR1.out);have HQB:=D_ (B0 N HQ1.out);obtain⟨a0,a1,a2,a3,_⟩:=A0 hX;obtain⟨b0,b1,b2,b3,_⟩:=A0 hY;obtain⟨rr0,_⟩:=Y0 o_.out;have hX1:w.heap.size+2<=X:=by omega
  have hY1:w.heap.size+2<=Y:=by omega
  clear N hX hY r_ D I b_ s x hX0 hY0 e_;go_upto_region 5 with fail;go_cut [50] (fun s50 wx=>s50=.bool false/\wx=wc)
  case first=>
   have z:=HNB.out;cases y:(xk==3)with
   |false=>(clear z;go_wp2_with (omega);go_meet;exact⟨rfl,rfl⟩)
   | true=>
    cases j:(xt.toList== [45])with
    |false=>(clear z;go_wp2_with (omega);go_meet;exact⟨rfl,rfl⟩)
    | true=>
     cases hb5:(yk==5)with
     |false=>(clear z;go_wp2_with (omega);go_meet;exact⟨rfl,rfl⟩)
     |true=>
      have hbp:((yp:Int)==(xp:Int)+1)=false:=by rw [y,j,hb5]at z;simpa using z
      clear z;go_wp2_with (omega);go_meet;exact⟨rfl,rfl⟩
  case rest=>
   obtain⟨rfl,hwc⟩:=hcut;subst hwc;go_wp2_with fail;refine(HOP.out _).mono ?_;rintro e w2 ⟨rfl,E⟩;have k_:=D_ (m_.out.trans (E.mono m_.out.size));have l_:=D_ (fun o:Obj=>k_.out.alloc k_.out.size o);go_upto_region 10 with fail;generalize G:w2.alloc (.cells #[.int .i64 o.p,.string o.k] 126)=w3;have y:Below wc.heap.size wc w3:=by rw [<-G];exact E.alloc E.size _
   have q:Hid (Below w.heap.size w w3):=D_ (by rw [<-G];exact l_.out _);have c_:Hid (w3.heap[w2.heap.size]?=some (.cells #[.int .i64 o.p,.string o.k] 126 (0,0))):=D_ (by rw [<-G];exact U0 w2 _);have hs3:w3.heap.size=w2.heap.size+1:=by rw [<-G];simp
   have f_:=D_ (B0 y HX.out);have J:=D_ (B0 y o_.out);have d_:=D_ (B0 y HQB.out);have hs2:=E.size;have hXl:=(Array.getElem?_eq_some_iff.1 HX.out).1;obtain⟨rr3,_⟩:=Y0 J.out;clear G E l_ a0 a1 a2 a3 b0 b1 b2 b3 rr0 y;obtain⟨q0,_⟩:=p_.out _ q.out;have hsl:=q_.out;have hl1:(1:Int)<=(L:Int):=by omega
   have hl2:(L:Int)<=(cap:Int):=by omega
   go_wp2_with fail;refine(j_.out _ q.out).mono ?_;rintro e w4 ⟨rfl,j⟩;have hs4:=j.size;have q:=D_ (q.out.trans (j.mono q.out.size));have f_:=D_ (B0 j f_.out);have J:=D_ (B0 j J.out);have d_:=D_ (B0 j d_.out);have c_:=D_ (B0 j c_.out);obtain⟨rr3,_⟩:=Y0 J.out;obtain⟨oo0,oo1,_⟩:=E0 c_.out;clear j q0 hsl q_ j_;go_wp2_with fail;refine(HPS.out _ (HH.out _ q.out)).mono ?_;rintro e w5 ⟨rfl,w_,T⟩;have n_:=D_ ((RGo.of_below (r:=r) (v:=v) q.out (N_ U)).trans T);have HQ4:=D_ (T.at d_.out C.1 C.2);have u_:=y_.out X (by omega);obtain⟨a0,a1,a2,a3,_⟩:=A0 (T.at f_.out u_.1 u_.2);have HM4:=D_ w_;clear w_ T;go_wp2_with fail;refine(O9 _ _).mono ?_;rintro e w6 ⟨rfl,M⟩;have HG5:=D_ (n_.out.trans (RGo.of_below (r:=r) (v:=v) M (Nat.le_trans (N_ U) n_.out.below.size)));have HQ5:=D_ (B0 M HQ4.out);have HM5:=D_ (HM4.out.below M);obtain⟨d0,d1,d2,d3,e0,e1,e2,e3⟩:=A0 HQ5.out;clear M;go_wp2_with fail;refine B_ (v:=.tuple #[.agg #[.int .i64 2,.string xt,.int .i64 0,.slice none 0 0],.int .i64 0]) (by simp [results,Tryz.results144,go_sem,d0,d1,d2,d3]) rfl ⟨v,none,0,HE.out,?_⟩;exact ROk.fin (B:=w.heap.size+2) HM5.out HG5.out (u6q _ _ _ (D1 (by decide) (by decide)) (D1 (by decide) (by decide)) z_.out) U (Nat.le_succ _) (by omega) C.2 _ _ _ _
set_option maxRecDepth 100000 in
theorem uZ {m:Nat} (hM:m<=10000) (p:Int) (ts:List Tok) (ns:Nms) (w:World) (r:Nat) (v:Value) (hm:ts.length<=m+1) (F:T0 ts) (hk:(j0 ts).isAtom=true) (h:A1 w r v ts ns) (h7:(j0 ts.tail).kind≠7) (d_: ¬((j0 ts).kind=3/\(j0 ts).text= [45]/\(j0 ts.tail).kind=5/\(j0 ts.tail).pos=(j0 ts).pos+1)) {o:R} (ho:opR (j0 ts).text 2=some o) (ha:I3 (j0 ts.tail) (j0 ts.tail.tail)=false) (hpo:p<o.p):
 Calls Tryz.prog 144 #[.pointer (some ⟨r,0,none⟩),.int .i64 p] w fun e w'=>B8 r v w (.bad (j0 ts).pos) e w':=by
 have b_:=h.lt;have h2:=F.two (A2 hk);obtain⟨M,hl2⟩:=F.tail (A2 hk);have hm2:ts.tail.length<=m:=by omega
 have hft1:=M.pos;have HH:=D_ (fun W' (n:Below w.heap.size w W')=>h.below n);have hnewR:=h.new_ne (b:=w.heap.size) (R_ _);have hnewq:=h.new_ne (b:=w.heap.size+1) (Nat.le_succ _);have HNEW:=D_ (fun b (n:w.heap.size<=b)=>h.new_ne n);obtain⟨g,k,cap,hgr,hr,hlc,hcm,s_⟩:=h.ex;have r_:g<w.heap.size:=by omega
 obtain⟨r0,_,_,_⟩:=E0 hr;obtain⟨c0,c1,c2,c3,G⟩:=s_.first F.pos;obtain⟨c4,c5,c6,c7,_⟩:=G.first M.pos;have HTR:=D_ G;have hL0:0<ts.length:=by omega
 have hL1:(1:Int)<(ts.length:Int):=by omega
 have e_:2<=cap:=by omega
 have hmf: ∀(fn:Fn) (first cap:Array Value) (w:World),(Instr.makeFunc fn first cap).run Tryz.prog w=.ok (.func fn first cap) w:=fun _ _ _ _=>rfl;have HB:=D_ (fun o o2:Obj=>((F_ w.heap.size w).alloc (R_ _) o).alloc (by simp) o2);have HS1:Hid (∀W',Below w.heap.size w W'->W'.cell? ⟨r,0,none⟩=w.cell? ⟨r,0,none⟩/\ ∀i,W'.cell? ⟨g,i,none⟩=w.cell? ⟨g,i,none⟩):=D_ (fun W' n=>⟨n.cell (p:=⟨r,0,none⟩) b_,fun i=>n.cell (p:=⟨g,i,none⟩) r_⟩);have HPS:=D_ (fun W' c_=>R5 W' r v ts ns c_ h2);have hpos:=F.first.pos;have hsz:=F.first.size;have v_:=D_ (fun W'=>by have h:=p8 ⟨(j0 ts).text.toArray⟩ W';rw [show L2 q4 ⟨(j0 ts).text.toArray⟩ 2=some o from ho,x7]at h;exact h);have f_:Hid (∀W',Below w.heap.size w W'->Calls Tryz.prog 173 #[.slice (some ⟨g,k+4,none⟩) (ts.length-1) (cap-1)] W' fun e w'=>e=.returned (.bool false)/\Below W'.heap.size W' w'):=D_ (fun W' n=>by
  have:=fQ W' g (k+4) (cap-1) ts.tail (HTR.out.kept (fun _=>n.block g r_)) M;rw [ha,show ts.tail.length=ts.length-1 from by omega]at this;exact this)
 have m_:Hid (sliced (some ⟨g,k,none⟩) 1 ts.length cap 4=.slice (some ⟨g,k+4,none⟩) (ts.length-1) (cap-1)):=D_ (by have:=x8 g k (ts.length-1) cap e_;rwa [Nat.sub_add_cancel (by omega)]at this);have z_:=D_ (fun W' c_=>C7 W' r v ts ns c_ F.pos);clear ha F M hk;generalize j0 ts.tail=t1 at*;generalize j0 ts=t0 at*;obtain⟨xk,xl,xn,xp⟩:=t0;obtain⟨yk,yl,yn,yp⟩:=t1;dsimp only at*;generalize (⟨yl.toArray⟩:ByteArray)=yt at*;have hb7:(yk==7)=false:=by simpa using h7
 have u_:Hid ((xk==3&&(⟨xl.toArray⟩:ByteArray).toList== [45]&&yk==5&&(yp:Int)==(xp:Int)+1)=false):=D_ (by
  rw [O1];by_cases c1:xk=3
  · by_cases c2:xl= [45]
    · by_cases c3:yk=5
      · have c4:yp≠xp+1:=fun c=>d_ ⟨c1,c2,c3,c⟩;have c5: ¬((yp:Int)=(xp:Int)+1):=by omega
        simp [c5]
      · simp [c3]
    · simp [c2]
  · simp [c1])
 have HSZ:Hid ((⟨xl.toArray⟩:ByteArray).size<=maxLen):=D_ (show xl.toArray.size<=maxLen by have e:maxLen=9223372036854775807:=rfl;simp only [List.size_toArray];omega);clear h7 d_ hsz;have HE:Hid (Ending.returned (.tuple #[.agg #[.int .i64 2,.string ⟨xl.toArray⟩,.int .i64 0,.slice none 0 0],.int .i64 0])=Ending.returned (.tuple #[tmv (R1 xl) none 0,.int .i64 0])):=D_ rfl;have HSZ2:Hid (xl.toArray.size<=maxLen):=D_ HSZ.out;generalize (⟨xl.toArray⟩:ByteArray)=xt at*;generalize p_:ts.length=L at*;have HLN:=D_ p_;clear p_ h hr s_ G;have l_:Hid (∀W,Below w.heap.size w W->W.cell? ⟨r,0,none⟩=some (.slice (some ⟨g,k,none⟩) L cap)/\W.cell? ⟨g,k,none⟩=some (.int .i64 xk)/\W.cell? ⟨g,k+1,none⟩=some (.string xt)/\W.cell? ⟨g,k+2,none⟩=some (.int .i64 xn)/\W.cell? ⟨g,k+3,none⟩=some (.int .i64 (xp:Nat))/\W.cell? ⟨g,k+4,none⟩=some (.int .i64 yk)/\W.cell? ⟨g,k+4+1,none⟩=some (.string yt)/\W.cell? ⟨g,k+4+2,none⟩=some (.int .i64 yn)/\W.cell? ⟨g,k+4+3,none⟩=some (.int .i64 (yp:Nat))):=D_ (fun W n=>by obtain⟨q1,q2⟩:=HS1.out W n;rw [q1,q2,q2,q2,q2,q2,q2,q2,q2];exact⟨r0,c0,c1,c2,c3,c4,c5,c6,c7⟩);clear r0 c0 c1 c2 c3 c4 c5 c6 c7;go_enter Tryz.func144,Tryz.ntmps144;go_wp2_with fail;generalize D:(w.alloc (.cells #[.pointer (some ⟨r,0,none⟩)] 86)).alloc (.cells #[.int .i64 0,.string ⟨#[]⟩,.int .i64 0,.slice none 0 0] 26)=w1;have A:Below w.heap.size w w1:=by rw [<-D];exact HB.out _ _
 have B:w1.heap.size=w.heap.size+2:=by rw [<-D];simp
 have Z:w1.heap[w.heap.size]?=some (.cells #[.pointer (some ⟨r,0,none⟩)] 86 (0,0)):=by rw [<-D];exact N0 (U0 w _) _
 have q_:w1.heap[w.heap.size+1]?=some (.cells #[.int .i64 0,.string ⟨#[]⟩,.int .i64 0,.slice none 0 0] 26 (0,0)):=by rw [<-D];have:=U0 (w.alloc (.cells #[.pointer (some ⟨r,0,none⟩)] 86)) (.cells #[.int .i64 0,.string ⟨#[]⟩,.int .i64 0,.slice none 0 0] 26);rwa [Z_]at this
 have x:Hid (∀W,Below w1.heap.size w1 W->W.cell? ⟨w.heap.size,0,none⟩=some (.pointer (some ⟨r,0,none⟩))/\W.cell? ⟨r,0,none⟩=some (.slice (some ⟨g,k,none⟩) L cap)/\W.cell? ⟨g,k,none⟩=some (.int .i64 xk)/\W.cell? ⟨g,k+1,none⟩=some (.string xt)/\W.cell? ⟨g,k+2,none⟩=some (.int .i64 xn)/\W.cell? ⟨g,k+3,none⟩=some (.int .i64 (xp:Nat))/\W.cell? ⟨g,k+4,none⟩=some (.int .i64 yk)/\W.cell? ⟨g,k+4+1,none⟩=some (.string yt)/\W.cell? ⟨g,k+4+2,none⟩=some (.int .i64 yn)/\W.cell? ⟨g,k+4+3,none⟩=some (.int .i64 (yp:Nat))):=D_ (fun W n=>⟨(Y0 (B0 n Z)).1,l_.out W (A.trans (n.mono A.size))⟩);have H:=D_ (fun o:Obj=>(F_ w1.heap.size w1).drew.alloc (w:=w1.drew) (R_ _) o);have T:=D_ (fun o o2:Obj=>(H.out o).alloc (by simp) o2);have s:=D_ (fun o o2:Obj=>(((F_ w1.heap.size w1).alloc (R_ _) o).alloc (by simp) o2).drew);have y_:=D_ Z;have w_:=D_ q_;have O:=D_ A;have V:=D_ B;clear D A Z q_ B;go_cut [6,7] (fun s6 s7 wx=> ∃X Y,s6=.pointer (some ⟨X,0,none⟩)/\s7=.pointer (some ⟨Y,0,none⟩)/\Hid (Below w1.heap.size w1 wx/\w1.heap.size<=X/\w1.heap.size<=Y/\wx.heap[X]?=some (.cells #[.int .i64 xk,.string xt,.int .i64 xn,.int .i64 (xp:Nat)] 96 (0,0))/\wx.heap[Y]?=some (.cells #[.int .i64 yk,.string yt,.int .i64 yn,.int .i64 (yp:Nat)] 96 (0,0))))
 case first=>
  refine wp_region_held_drew (S:=(fun W=>W.cell? ⟨w.heap.size,0,none⟩=some (.pointer (some ⟨r,0,none⟩))/\W.cell? ⟨r,0,none⟩=some (.slice (some ⟨g,k,none⟩) L cap)/\W.cell? ⟨g,k,none⟩=some (.int .i64 xk)/\W.cell? ⟨g,k+1,none⟩=some (.string xt)/\W.cell? ⟨g,k+2,none⟩=some (.int .i64 xn)/\W.cell? ⟨g,k+3,none⟩=some (.int .i64 (xp:Nat))/\W.cell? ⟨g,k+4,none⟩=some (.int .i64 yk)/\W.cell? ⟨g,k+4+1,none⟩=some (.string yt)/\W.cell? ⟨g,k+4+2,none⟩=some (.int .i64 yn)/\W.cell? ⟨g,k+4+3,none⟩=some (.int .i64 (yp:Nat)))) (by kernel_rfl) (x.out _ (F_ _ w1).drew) (fun t_=>?_);refine tK 0 (v:=?v54) rfl (.inl ⟨by rfl,?y54⟩) ?r54
  case y54=>(intro w a;(try dsimp only at a);go_simp;try with_reducible rfl)
  (try simp only [Act.put,T_,C_,E_])
  refine tK 1 (v:=?v55) rfl (.inl ⟨by rfl,?y55⟩) ?r55
  case y55=>(intro w a;(try dsimp only at a);go_simp;try with_reducible rfl)
  (try simp only [Act.put,T_,C_,E_])
  refine tK 2 (v:=?v56) rfl (.inl ⟨by rfl,?y56⟩) ?r56
  case y56=>(intro w a;(try dsimp only at a);go_simp;try with_reducible rfl)
  (try simp only [Act.put,T_,C_,E_])
  refine tK 3 (v:=?v57) rfl (.inl ⟨by rfl,?y57⟩) ?r57
  case y57=>(intro w a;(try dsimp only at a);go_simp;try with_reducible rfl)
  (try simp only [Act.put,T_,C_,E_])
  refine tK 4 (v:=?v58) rfl (.inl ⟨by rfl,?y58⟩) ?r58
  case y58=>(intro w a;(try dsimp only at a);go_simp;try with_reducible rfl)
  (try simp only [Act.put,T_,C_,E_])
  refine tK 5 (v:=?v59) rfl (.inl ⟨by rfl,?y59⟩) ?r59
  case y59=>(intro w a;(try dsimp only at a);go_simp;try with_reducible rfl)
  (try simp only [Act.put,T_,C_,E_])
  refine tK 6 (v:=?v60) rfl (.inl ⟨by rfl,?y60⟩) ?r60
  case y60=>(intro w a;(try dsimp only at a);go_simp;try with_reducible rfl)
  (try simp only [Act.put,T_,C_,E_])
  refine tK 7 (v:=?v61) rfl (.inl ⟨by rfl,?y61⟩) ?r61
  case y61=>(intro w a;(try dsimp only at a);go_simp;try with_reducible rfl)
  (try simp only [Act.put,T_,C_,E_])
  refine tK 8 (v:=?v62) rfl (.inl ⟨by rfl,?y62⟩) ?r62
  case y62=>(intro w a;(try dsimp only at a);go_simp;try with_reducible rfl)
  (try simp only [Act.put,T_,C_,E_])
  refine tK 9 (v:=?v63) rfl (.inl ⟨by rfl,?y63⟩) ?r63
  case y63=>(intro w a;(try dsimp only at a);go_simp;try with_reducible rfl)
  (try simp only [Act.put,T_,C_,E_])
  refine tK 10 (v:=?v64) rfl (.inl ⟨by rfl,?y64⟩) ?r64
  case y64=>(intro w a;(try dsimp only at a);go_simp;try with_reducible rfl)
  (try simp only [Act.put,T_,C_,E_])
  refine tK 11 (v:=?v65) rfl (.inl ⟨by rfl,?y65⟩) ?r65
  case y65=>(intro w a;(try dsimp only at a);go_simp;try with_reducible rfl)
  (try simp only [Act.put,T_,C_,E_])
  refine wpAnyH_ready (rs:= [12,13]) (by kernel_rfl) (by simp) ?_;refine AllReadyH.cons (o:=_) rfl (fun K d=>?_) (AllReadyH.cons (o:=_) rfl (fun K d=>?_) AllReadyH.nil)
  · go_simp
    refine d.out _ _ (x.out _ (H.out _)) (fun t=>?_);clear d K;(try simp only [Act.put,T_,C_,E_])
    refine rY 13 rfl fun K d=>?_;go_simp
    refine d.out _ _ (x.out _ (T.out _ _)) (fun u=>?_);clear d K t;(try simp only [Act.put,T_,C_,E_])
    refine rY 14 rfl fun K d=>?_;go_simp
    refine d.out _ _ (x.out _ (s.out _ _)) (fun l=>?_);clear d K u;(try simp only [Act.put,T_,C_,E_])
    refine rY 15 rfl fun K d=>?_;go_simp
    refine d.out _ _ (x.out _ (s.out _ _)) (fun N=>?_);clear d K l;(try simp only [Act.put,T_,C_,E_])
    refine wpAnyH_done (by kernel_rfl) ?_ _;go_wp2_with fail;go_meet;exact⟨w1.heap.size,w1.heap.size+1,rfl,rfl,D_ ⟨s.out _ _,R_ _,Nat.le_succ _,(N0 (U0 w1 (.cells #[.int .i64 xk,.string xt,.int .i64 xn,.int .i64 (xp:Nat)] 96)) (.cells #[.int .i64 yk,.string yt,.int .i64 yn,.int .i64 (yp:Nat)] 96):((w1.alloc (.cells #[.int .i64 xk,.string xt,.int .i64 xn,.int .i64 (xp:Nat)] 96)).alloc (.cells #[.int .i64 yk,.string yt,.int .i64 yn,.int .i64 (yp:Nat)] 96)).heap[w1.heap.size]?=_),(by have:=U0 (w1.alloc (.cells #[.int .i64 xk,.string xt,.int .i64 xn,.int .i64 (xp:Nat)] 96)) (.cells #[.int .i64 yk,.string yt,.int .i64 yn,.int .i64 (yp:Nat)] 96);rwa [Z_]at this:((w1.alloc (.cells #[.int .i64 xk,.string xt,.int .i64 xn,.int .i64 (xp:Nat)] 96)).alloc (.cells #[.int .i64 yk,.string yt,.int .i64 yn,.int .i64 (yp:Nat)] 96)).heap[w1.heap.size+1]?=some (.cells #[.int .i64 yk,.string yt,.int .i64 yn,.int .i64 (yp:Nat)] 96 (0,0)))⟩⟩
  · go_simp
    refine d.out _ _ (x.out _ (H.out _)) (fun t=>?_);clear d K;(try simp only [Act.put,T_,C_,E_])
    refine rY 12 rfl fun K d=>?_;go_simp
    refine d.out _ _ (x.out _ (T.out _ _)) (fun u=>?_);clear d K t;(try simp only [Act.put,T_,C_,E_])
    refine rY 14 rfl fun K d=>?_;go_simp
    refine d.out _ _ (x.out _ (s.out _ _)) (fun l=>?_);clear d K u;(try simp only [Act.put,T_,C_,E_])
    refine rY 15 rfl fun K d=>?_;go_simp
    refine d.out _ _ (x.out _ (s.out _ _)) (fun N=>?_);clear d K l;(try simp only [Act.put,T_,C_,E_])
    refine wpAnyH_done (by kernel_rfl) ?_ _;go_wp2_with fail;go_meet;exact⟨w1.heap.size+1,w1.heap.size,rfl,rfl,D_ ⟨s.out _ _,Nat.le_succ _,R_ _,(by have:=U0 (w1.alloc (.cells #[.int .i64 yk,.string yt,.int .i64 yn,.int .i64 (yp:Nat)] 96)) (.cells #[.int .i64 xk,.string xt,.int .i64 xn,.int .i64 (xp:Nat)] 96);rwa [Z_]at this:((w1.alloc (.cells #[.int .i64 yk,.string yt,.int .i64 yn,.int .i64 (yp:Nat)] 96)).alloc (.cells #[.int .i64 xk,.string xt,.int .i64 xn,.int .i64 (xp:Nat)] 96)).heap[w1.heap.size+1]?=some (.cells #[.int .i64 xk,.string xt,.int .i64 xn,.int .i64 (xp:Nat)] 96 (0,0))),(N0 (U0 w1 (.cells #[.int .i64 yk,.string yt,.int .i64 yn,.int .i64 (yp:Nat)] 96)) (.cells #[.int .i64 xk,.string xt,.int .i64 xn,.int .i64 (xp:Nat)] 96):((w1.alloc (.cells #[.int .i64 yk,.string yt,.int .i64 yn,.int .i64 (yp:Nat)] 96)).alloc (.cells #[.int .i64 xk,.string xt,.int .i64 xn,.int .i64 (xp:Nat)] 96)).heap[w1.heap.size]?=_)⟩⟩
 case rest=>
  obtain⟨X,Y,rfl,rfl,o_⟩:=hcut;obtain⟨J,hX0,hY0,hX,hY⟩:=o_.out;have B:=V.out;have i_:Hid (Below w.heap.size w wc):=D_ (O.out.trans (J.mono O.out.size));have HX:=D_ hX;have HY:=D_ hY;have k_:=D_ (B0 J y_.out);have x_:=D_ (B0 J w_.out);obtain⟨a0,a1,a2,a3,_⟩:=A0 hX;obtain⟨b0,b1,b2,b3,_⟩:=A0 hY;obtain⟨rr0,_⟩:=Y0 k_.out;have hX1:w.heap.size+2<=X:=by omega
  have hY1:w.heap.size+2<=Y:=by omega
  clear J hX hY o_ B H T s x hX0 hY0 V;go_upto_region 5 with fail;go_cut [50] (fun s50 wx=>s50=.bool false/\wx=wc)
  case first=>
   have z:=u_.out;cases y:(xk==3)with
   |false=>(clear z;go_wp2_with (omega);go_meet;exact⟨rfl,rfl⟩)
   | true=>
    cases j:(xt.toList== [45])with
    |false=>(clear z;go_wp2_with (omega);go_meet;exact⟨rfl,rfl⟩)
    | true=>
     cases a_:(yk==5)with
     |false=>(clear z;go_wp2_with (omega);go_meet;exact⟨rfl,rfl⟩)
     |true=>
      have hbp:((yp:Int)==(xp:Int)+1)=false:=by rw [y,j,a_]at z;simpa using z
      clear z;go_wp2_with (omega);go_meet;exact⟨rfl,rfl⟩
  case rest=>
   obtain⟨rfl,hwc⟩:=hcut;subst hwc;go_wp2_with fail;refine(v_.out _).mono ?_;rintro e w2 ⟨rfl,C⟩;have g_:=D_ (i_.out.trans (C.mono i_.out.size));have h_:=D_ (fun o:Obj=>g_.out.alloc g_.out.size o);go_upto_region 10 with fail;generalize E:w2.alloc (.cells #[.int .i64 o.p,.string o.k] 126)=w3;have y:Below wc.heap.size wc w3:=by rw [<-E];exact C.alloc C.size _
   have q:Hid (Below w.heap.size w w3):=D_ (by rw [<-E];exact h_.out _);have U:Hid (w3.heap[w2.heap.size]?=some (.cells #[.int .i64 o.p,.string o.k] 126 (0,0))):=D_ (by rw [<-E];exact U0 w2 _);have hs3:w3.heap.size=w2.heap.size+1:=by rw [<-E];simp
   have n_:=D_ (B0 y HX.out);have I:=D_ (B0 y k_.out);have j_:=D_ (B0 y x_.out);have hs2:=C.size;have hXl:=(Array.getElem?_eq_some_iff.1 HX.out).1;obtain⟨rr3,_⟩:=Y0 I.out;clear E C h_ a0 a1 a2 a3 b0 b1 b2 b3 rr0 y;obtain⟨q0,_⟩:=l_.out _ q.out;have hsl:=m_.out;have hl1:(1:Int)<=(L:Int):=by omega
   have hl2:(L:Int)<=(cap:Int):=by omega
   go_wp2_with fail;refine(f_.out _ q.out).mono ?_;rintro e w4 ⟨rfl,j⟩;have hs4:=j.size;have q:=D_ (q.out.trans (j.mono q.out.size));have n_:=D_ (B0 j n_.out);have I:=D_ (B0 j I.out);have j_:=D_ (B0 j j_.out);have U:=D_ (B0 j U.out);obtain⟨rr3,_⟩:=Y0 I.out;obtain⟨oo0,oo1,_⟩:=E0 U.out;clear j q0 hsl m_ f_;go_wp2_with fail;refine(z_.out _ (HH.out _ q.out)).mono ?_;rintro e w5 ⟨rfl,a_⟩;exact⟨rfl,rfl,(q.out.mono (N_ b_)).trans (a_.mono (Nat.le_trans (N_ b_) q.out.size))⟩
end Go.Proofs.YtinefdlkajnomaaGreatDoor
namespace Go.Proofs.YtinefdlkajnomaaGreatDoor
open Go.RowKit
set_option maxHeartbeats 20000000
set_option linter.unusedSimpArgs false
set_option maxRecDepth 100000 in
theorem RJ {m:Nat} {W:Rdr} (hC:I5 m W) (hM:m<=10000) (p:Int) (ts:List Tok) (ns:Nms) (w:World) (r:Nat) (v:Value) (hm:ts.length<=m+1) (hf:T0 ts) (hk:(j0 ts).isAtom=true) (hn:ns.length<=200) (h:A1 w r v ts ns) (h7:(j0 ts.tail).kind≠7) (hneg: ¬((j0 ts).kind=3/\(j0 ts).text= [45]/\(j0 ts.tail).kind=5/\(j0 ts.tail).pos=(j0 ts).pos+1)) {o:R} (ho:opR (j0 ts).text 2=some o) (ha:I3 (j0 ts.tail) (j0 ts.tail.tail)=false) (hpo: ¬p<o.p):
 Calls Tryz.prog 144 #[.pointer (some ⟨r,0,none⟩),.int .i64 p] w fun e w'=>B8 r v w ((W (X1 o.k o.p) ts.tail ns).bind fun t ts' ns'=>.ok (X0 (j0 ts).text [t],o.p) ts' ns') e w':=by
 have k_:=h.lt;have h2:=hf.two (A2 hk);obtain⟨Z,hl2⟩:=hf.tail (A2 hk);have hm2:ts.tail.length<=m:=by omega
 have hft1:=Z.pos;have HH:=D_ (fun W' (j:Below w.heap.size w W')=>h.below j);have z:=h.new_ne (b:=w.heap.size) (R_ _);have q:=h.new_ne (b:=w.heap.size+1) (Nat.le_succ _);have w_:=D_ (fun b (j:w.heap.size<=b)=>h.new_ne j);obtain⟨g,k,cap,hgr,hr,hlc,hcm,htr⟩:=h.ex;have hgl:g<w.heap.size:=by omega
 obtain⟨r0,_,_,_⟩:=E0 hr;obtain⟨c0,c1,c2,c3,c_⟩:=htr.first hf.pos;obtain⟨c4,c5,c6,c7,_⟩:=c_.first Z.pos;have HTR:=D_ c_;have hL0:0<ts.length:=by omega
 have hL1:(1:Int)<(ts.length:Int):=by omega
 have hcap2:2<=cap:=by omega
 have hmf: ∀(fn:Fn) (first cap:Array Value) (w:World),(Instr.makeFunc fn first cap).run Tryz.prog w=.ok (.func fn first cap) w:=fun _ _ _ _=>rfl;have HB:=D_ (fun o o2:Obj=>((F_ w.heap.size w).alloc (R_ _) o).alloc (by simp) o2);have HS1:Hid (∀W',Below w.heap.size w W'->W'.cell? ⟨r,0,none⟩=w.cell? ⟨r,0,none⟩/\ ∀i,W'.cell? ⟨g,i,none⟩=w.cell? ⟨g,i,none⟩):=D_ (fun W' j=>⟨j.cell (p:=⟨r,0,none⟩) k_,fun i=>j.cell (p:=⟨g,i,none⟩) hgl⟩);have HPS:=D_ (fun W' hm'=>R5 W' r v ts ns hm' h2);have hpos:=hf.first.pos;have hsz:=hf.first.size;have HOP:=D_ (fun W'=>by have h:=p8 ⟨(j0 ts).text.toArray⟩ W';rw [show L2 q4 ⟨(j0 ts).text.toArray⟩ 2=some o from ho,x7]at h;exact h);have HAL:Hid (∀W',Below w.heap.size w W'->Calls Tryz.prog 173 #[.slice (some ⟨g,k+4,none⟩) (ts.length-1) (cap-1)] W' fun e w'=>e=.returned (.bool false)/\Below W'.heap.size W' w'):=D_ (fun W' j=>by
  have:=fQ W' g (k+4) (cap-1) ts.tail (HTR.out.kept (fun _=>j.block g hgl)) Z;rw [ha,show ts.tail.length=ts.length-1 from by omega]at this;exact this)
 have HSL:Hid (sliced (some ⟨g,k,none⟩) 1 ts.length cap 4=.slice (some ⟨g,k+4,none⟩) (ts.length-1) (cap-1)):=D_ (by have:=x8 g k (ts.length-1) cap hcap2;rwa [Nat.sub_add_cancel (by omega)]at this);have HC:=D_ (fun W' hm'=>hC (X1 o.k o.p) ts.tail ns W' r v hm2 Z hn hm');have HRT:=D_ (fun W'=>pX o.k o.p W');have HCB:Hid (∀(B:Nat) (w:World) (v:Value) (t:Tm) (ad:Option Addr),M0 w (fun b=>B<=b/\some b≠v.ownBlock) ad [t]->TmB B w v (X0 (j0 ts).text [t]) ad 1):=D_ (fun B w v t ad h=>bX (by omega) (R_ _) (by show 1<=maxLen;unfold maxLen;decide) h);have HTV:Hid (∀t ad,tmv (X0 (j0 ts).text [t]) ad 1=.agg #[.int .i64 4,.string ⟨(j0 ts).text.toArray⟩,.int .i64 0,.slice ad 1 1]):=D_ (fun t ad=>rfl);generalize W (X1 o.k o.p) ts.tail ns=E at*;clear ha hC hf Z hk;generalize j0 ts.tail=t1 at*;generalize j0 ts=t0 at*;obtain⟨xk,xl,xn,xp⟩:=t0;obtain⟨yk,yl,yn,yp⟩:=t1;dsimp only at*;generalize (⟨yl.toArray⟩:ByteArray)=yt at*;have hb7:(yk==7)=false:=by simpa using h7
 have HNB:Hid ((xk==3&&(⟨xl.toArray⟩:ByteArray).toList== [45]&&yk==5&&(yp:Int)==(xp:Int)+1)=false):=D_ (by
  rw [O1];by_cases c1:xk=3
  · by_cases c2:xl= [45]
    · by_cases c3:yk=5
      · have c4:yp≠xp+1:=fun c=>hneg ⟨c1,c2,c3,c⟩;have c5: ¬((yp:Int)=(xp:Int)+1):=by omega
        simp [c5]
      · simp [c3]
    · simp [c2]
  · simp [c1])
 have HSZ:Hid ((⟨xl.toArray⟩:ByteArray).size<=maxLen):=D_ (show xl.toArray.size<=maxLen by have e:maxLen=9223372036854775807:=rfl;simp only [List.size_toArray];omega);clear h7 hneg hsz;have HE:Hid (Ending.returned (.tuple #[.agg #[.int .i64 2,.string ⟨xl.toArray⟩,.int .i64 0,.slice none 0 0],.int .i64 0])=Ending.returned (.tuple #[tmv (R1 xl) none 0,.int .i64 0])):=D_ rfl;have HSZ2:Hid (xl.toArray.size<=maxLen):=D_ HSZ.out;generalize (⟨xl.toArray⟩:ByteArray)=xt at*;generalize hLn:ts.length=L at*;have HLN:=D_ hLn;clear hLn h hr htr c_;have HS0:Hid (∀W,Below w.heap.size w W->W.cell? ⟨r,0,none⟩=some (.slice (some ⟨g,k,none⟩) L cap)/\W.cell? ⟨g,k,none⟩=some (.int .i64 xk)/\W.cell? ⟨g,k+1,none⟩=some (.string xt)/\W.cell? ⟨g,k+2,none⟩=some (.int .i64 xn)/\W.cell? ⟨g,k+3,none⟩=some (.int .i64 (xp:Nat))/\W.cell? ⟨g,k+4,none⟩=some (.int .i64 yk)/\W.cell? ⟨g,k+4+1,none⟩=some (.string yt)/\W.cell? ⟨g,k+4+2,none⟩=some (.int .i64 yn)/\W.cell? ⟨g,k+4+3,none⟩=some (.int .i64 (yp:Nat))):=D_ (fun W j=>by obtain⟨q1,q2⟩:=HS1.out W j;rw [q1,q2,q2,q2,q2,q2,q2,q2,q2];exact⟨r0,c0,c1,c2,c3,c4,c5,c6,c7⟩);clear r0 c0 c1 c2 c3 c4 c5 c6 c7;go_enter Tryz.func144,Tryz.ntmps144;go_wp2_with fail;generalize a_:(w.alloc (.cells #[.pointer (some ⟨r,0,none⟩)] 86)).alloc (.cells #[.int .i64 0,.string ⟨#[]⟩,.int .i64 0,.slice none 0 0] 26)=w1;have N:Below w.heap.size w w1:=by rw [<-a_];exact HB.out _ _
 have O:w1.heap.size=w.heap.size+2:=by rw [<-a_];simp
 have hR1:w1.heap[w.heap.size]?=some (.cells #[.pointer (some ⟨r,0,none⟩)] 86 (0,0)):=by rw [<-a_];exact N0 (U0 w _) _
 have hQ1:w1.heap[w.heap.size+1]?=some (.cells #[.int .i64 0,.string ⟨#[]⟩,.int .i64 0,.slice none 0 0] 26 (0,0)):=by rw [<-a_];have:=U0 (w.alloc (.cells #[.pointer (some ⟨r,0,none⟩)] 86)) (.cells #[.int .i64 0,.string ⟨#[]⟩,.int .i64 0,.slice none 0 0] 26);rwa [Z_]at this
 have H:Hid (∀W,Below w1.heap.size w1 W->W.cell? ⟨w.heap.size,0,none⟩=some (.pointer (some ⟨r,0,none⟩))/\W.cell? ⟨r,0,none⟩=some (.slice (some ⟨g,k,none⟩) L cap)/\W.cell? ⟨g,k,none⟩=some (.int .i64 xk)/\W.cell? ⟨g,k+1,none⟩=some (.string xt)/\W.cell? ⟨g,k+2,none⟩=some (.int .i64 xn)/\W.cell? ⟨g,k+3,none⟩=some (.int .i64 (xp:Nat))/\W.cell? ⟨g,k+4,none⟩=some (.int .i64 yk)/\W.cell? ⟨g,k+4+1,none⟩=some (.string yt)/\W.cell? ⟨g,k+4+2,none⟩=some (.int .i64 yn)/\W.cell? ⟨g,k+4+3,none⟩=some (.int .i64 (yp:Nat))):=D_ (fun W j=>⟨(Y0 (B0 j hR1)).1,HS0.out W (N.trans (j.mono N.size))⟩);have d_:=D_ (fun o:Obj=>(F_ w1.heap.size w1).drew.alloc (w:=w1.drew) (R_ _) o);have u_:=D_ (fun o o2:Obj=>(d_.out o).alloc (by simp) o2);have A:=D_ (fun o o2:Obj=>(((F_ w1.heap.size w1).alloc (R_ _) o).alloc (by simp) o2).drew);have HR1:=D_ hR1;have HQ1:=D_ hQ1;have s_:=D_ N;have HS01:=D_ O;clear a_ N hR1 hQ1 O;go_cut [6,7] (fun s6 s7 wx=> ∃X Y,s6=.pointer (some ⟨X,0,none⟩)/\s7=.pointer (some ⟨Y,0,none⟩)/\Hid (Below w1.heap.size w1 wx/\w1.heap.size<=X/\w1.heap.size<=Y/\wx.heap[X]?=some (.cells #[.int .i64 xk,.string xt,.int .i64 xn,.int .i64 (xp:Nat)] 96 (0,0))/\wx.heap[Y]?=some (.cells #[.int .i64 yk,.string yt,.int .i64 yn,.int .i64 (yp:Nat)] 96 (0,0))))
 case first=>
  refine wp_region_held_drew (S:=(fun W=>W.cell? ⟨w.heap.size,0,none⟩=some (.pointer (some ⟨r,0,none⟩))/\W.cell? ⟨r,0,none⟩=some (.slice (some ⟨g,k,none⟩) L cap)/\W.cell? ⟨g,k,none⟩=some (.int .i64 xk)/\W.cell? ⟨g,k+1,none⟩=some (.string xt)/\W.cell? ⟨g,k+2,none⟩=some (.int .i64 xn)/\W.cell? ⟨g,k+3,none⟩=some (.int .i64 (xp:Nat))/\W.cell? ⟨g,k+4,none⟩=some (.int .i64 yk)/\W.cell? ⟨g,k+4+1,none⟩=some (.string yt)/\W.cell? ⟨g,k+4+2,none⟩=some (.int .i64 yn)/\W.cell? ⟨g,k+4+3,none⟩=some (.int .i64 (yp:Nat)))) (by kernel_rfl) (H.out _ (F_ _ w1).drew) (fun hHeld79=>?_);refine tK 0 (v:=?v80) rfl (.inl ⟨by rfl,?y80⟩) ?r80
  case y80=>(intro w a;(try dsimp only at a);go_simp;try with_reducible rfl)
  (try simp only [Act.put,T_,C_,E_])
  refine tK 1 (v:=?v81) rfl (.inl ⟨by rfl,?y81⟩) ?r81
  case y81=>(intro w a;(try dsimp only at a);go_simp;try with_reducible rfl)
  (try simp only [Act.put,T_,C_,E_])
  refine tK 2 (v:=?v82) rfl (.inl ⟨by rfl,?y82⟩) ?r82
  case y82=>(intro w a;(try dsimp only at a);go_simp;try with_reducible rfl)
  (try simp only [Act.put,T_,C_,E_])
  refine tK 3 (v:=?v83) rfl (.inl ⟨by rfl,?y83⟩) ?r83
  case y83=>(intro w a;(try dsimp only at a);go_simp;try with_reducible rfl)
  (try simp only [Act.put,T_,C_,E_])
  refine tK 4 (v:=?v84) rfl (.inl ⟨by rfl,?y84⟩) ?r84
  case y84=>(intro w a;(try dsimp only at a);go_simp;try with_reducible rfl)
  (try simp only [Act.put,T_,C_,E_])
  refine tK 5 (v:=?v85) rfl (.inl ⟨by rfl,?y85⟩) ?r85
  case y85=>(intro w a;(try dsimp only at a);go_simp;try with_reducible rfl)
  (try simp only [Act.put,T_,C_,E_])
  refine tK 6 (v:=?v86) rfl (.inl ⟨by rfl,?y86⟩) ?r86
  case y86=>(intro w a;(try dsimp only at a);go_simp;try with_reducible rfl)
  (try simp only [Act.put,T_,C_,E_])
  refine tK 7 (v:=?v87) rfl (.inl ⟨by rfl,?y87⟩) ?r87
  case y87=>(intro w a;(try dsimp only at a);go_simp;try with_reducible rfl)
  (try simp only [Act.put,T_,C_,E_])
  refine tK 8 (v:=?v88) rfl (.inl ⟨by rfl,?y88⟩) ?r88
  case y88=>(intro w a;(try dsimp only at a);go_simp;try with_reducible rfl)
  (try simp only [Act.put,T_,C_,E_])
  refine tK 9 (v:=?v89) rfl (.inl ⟨by rfl,?y89⟩) ?r89
  case y89=>(intro w a;(try dsimp only at a);go_simp;try with_reducible rfl)
  (try simp only [Act.put,T_,C_,E_])
  refine tK 10 (v:=?v90) rfl (.inl ⟨by rfl,?y90⟩) ?r90
  case y90=>(intro w a;(try dsimp only at a);go_simp;try with_reducible rfl)
  (try simp only [Act.put,T_,C_,E_])
  refine tK 11 (v:=?v91) rfl (.inl ⟨by rfl,?y91⟩) ?r91
  case y91=>(intro w a;(try dsimp only at a);go_simp;try with_reducible rfl)
  (try simp only [Act.put,T_,C_,E_])
  refine wpAnyH_ready (rs:= [12,13]) (by kernel_rfl) (by simp) ?_;refine AllReadyH.cons (o:=_) rfl (fun K d=>?_) (AllReadyH.cons (o:=_) rfl (fun K d=>?_) AllReadyH.nil)
  · go_simp
    refine d.out _ _ (H.out _ (d_.out _)) (fun D=>?_);clear d K;(try simp only [Act.put,T_,C_,E_])
    refine rY 13 rfl fun K d=>?_;go_simp
    refine d.out _ _ (H.out _ (u_.out _ _)) (fun F=>?_);clear d K D;(try simp only [Act.put,T_,C_,E_])
    refine rY 14 rfl fun K d=>?_;go_simp
    refine d.out _ _ (H.out _ (A.out _ _)) (fun s=>?_);clear d K F;(try simp only [Act.put,T_,C_,E_])
    refine rY 15 rfl fun K d=>?_;go_simp
    refine d.out _ _ (H.out _ (A.out _ _)) (fun l_=>?_);clear d K s;(try simp only [Act.put,T_,C_,E_])
    refine wpAnyH_done (by kernel_rfl) ?_ _;go_wp2_with fail;go_meet;exact⟨w1.heap.size,w1.heap.size+1,rfl,rfl,D_ ⟨A.out _ _,R_ _,Nat.le_succ _,(N0 (U0 w1 (.cells #[.int .i64 xk,.string xt,.int .i64 xn,.int .i64 (xp:Nat)] 96)) (.cells #[.int .i64 yk,.string yt,.int .i64 yn,.int .i64 (yp:Nat)] 96):((w1.alloc (.cells #[.int .i64 xk,.string xt,.int .i64 xn,.int .i64 (xp:Nat)] 96)).alloc (.cells #[.int .i64 yk,.string yt,.int .i64 yn,.int .i64 (yp:Nat)] 96)).heap[w1.heap.size]?=_),(by have:=U0 (w1.alloc (.cells #[.int .i64 xk,.string xt,.int .i64 xn,.int .i64 (xp:Nat)] 96)) (.cells #[.int .i64 yk,.string yt,.int .i64 yn,.int .i64 (yp:Nat)] 96);rwa [Z_]at this:((w1.alloc (.cells #[.int .i64 xk,.string xt,.int .i64 xn,.int .i64 (xp:Nat)] 96)).alloc (.cells #[.int .i64 yk,.string yt,.int .i64 yn,.int .i64 (yp:Nat)] 96)).heap[w1.heap.size+1]?=some (.cells #[.int .i64 yk,.string yt,.int .i64 yn,.int .i64 (yp:Nat)] 96 (0,0)))⟩⟩
  · go_simp
    refine d.out _ _ (H.out _ (d_.out _)) (fun D=>?_);clear d K;(try simp only [Act.put,T_,C_,E_])
    refine rY 12 rfl fun K d=>?_;go_simp
    refine d.out _ _ (H.out _ (u_.out _ _)) (fun F=>?_);clear d K D;(try simp only [Act.put,T_,C_,E_])
    refine rY 14 rfl fun K d=>?_;go_simp
    refine d.out _ _ (H.out _ (A.out _ _)) (fun s=>?_);clear d K F;(try simp only [Act.put,T_,C_,E_])
    refine rY 15 rfl fun K d=>?_;go_simp
    refine d.out _ _ (H.out _ (A.out _ _)) (fun l_=>?_);clear d K s;(try simp only [Act.put,T_,C_,E_])
    refine wpAnyH_done (by kernel_rfl) ?_ _;go_wp2_with fail;go_meet;exact⟨w1.heap.size+1,w1.heap.size,rfl,rfl,D_ ⟨A.out _ _,Nat.le_succ _,R_ _,(by have:=U0 (w1.alloc (.cells #[.int .i64 yk,.string yt,.int .i64 yn,.int .i64 (yp:Nat)] 96)) (.cells #[.int .i64 xk,.string xt,.int .i64 xn,.int .i64 (xp:Nat)] 96);rwa [Z_]at this:((w1.alloc (.cells #[.int .i64 yk,.string yt,.int .i64 yn,.int .i64 (yp:Nat)] 96)).alloc (.cells #[.int .i64 xk,.string xt,.int .i64 xn,.int .i64 (xp:Nat)] 96)).heap[w1.heap.size+1]?=some (.cells #[.int .i64 xk,.string xt,.int .i64 xn,.int .i64 (xp:Nat)] 96 (0,0))),(N0 (U0 w1 (.cells #[.int .i64 yk,.string yt,.int .i64 yn,.int .i64 (yp:Nat)] 96)) (.cells #[.int .i64 xk,.string xt,.int .i64 xn,.int .i64 (xp:Nat)] 96):((w1.alloc (.cells #[.int .i64 yk,.string yt,.int .i64 yn,.int .i64 (yp:Nat)] 96)).alloc (.cells #[.int .i64 xk,.string xt,.int .i64 xn,.int .i64 (xp:Nat)] 96)).heap[w1.heap.size]?=_)⟩⟩
 case rest=>
  obtain⟨X,Y,rfl,rfl,HXY⟩:=hcut;obtain⟨j_,hX0,hY0,hX,hY⟩:=HXY.out;have O:=HS01.out;have HBW:Hid (Below w.heap.size w wc):=D_ (s_.out.trans (j_.mono s_.out.size));have HX:=D_ hX;have HY:=D_ hY;have HRB:=D_ (B0 j_ HR1.out);have HQB:=D_ (B0 j_ HQ1.out);obtain⟨a0,a1,a2,a3,_⟩:=A0 hX;obtain⟨b0,b1,b2,b3,_⟩:=A0 hY;obtain⟨rr0,_⟩:=Y0 HRB.out;have hX1:w.heap.size+2<=X:=by omega
  have hY1:w.heap.size+2<=Y:=by omega
  clear j_ hX hY HXY O d_ u_ A H hX0 hY0 HS01;go_upto_region 5 with fail;go_cut [50] (fun s50 wx=>s50=.bool false/\wx=wc)
  case first=>
   have M:=HNB.out;cases J:(xk==3)with
   |false=>(clear M;go_wp2_with (omega);go_meet;exact⟨rfl,rfl⟩)
   | true=>
    cases l:(xt.toList== [45])with
    |false=>(clear M;go_wp2_with (omega);go_meet;exact⟨rfl,rfl⟩)
    | true=>
     cases hb5:(yk==5)with
     |false=>(clear M;go_wp2_with (omega);go_meet;exact⟨rfl,rfl⟩)
     |true=>
      have hbp:((yp:Int)==(xp:Int)+1)=false:=by rw [J,l,hb5]at M;simpa using M
      clear M;go_wp2_with (omega);go_meet;exact⟨rfl,rfl⟩
  case rest=>
   obtain⟨rfl,hwc⟩:=hcut;subst hwc;go_wp2_with fail;refine(HOP.out _).mono ?_;rintro e w2 ⟨rfl,V⟩;have t_:=D_ (HBW.out.trans (V.mono HBW.out.size));have HBO:=D_ (fun o:Obj=>t_.out.alloc t_.out.size o);go_upto_region 10 with fail;generalize b_:w2.alloc (.cells #[.int .i64 o.p,.string o.k] 126)=w3;have J:Below wc.heap.size wc w3:=by rw [<-b_];exact V.alloc V.size _
   have u:Hid (Below w.heap.size w w3):=D_ (by rw [<-b_];exact HBO.out _);have T:Hid (w3.heap[w2.heap.size]?=some (.cells #[.int .i64 o.p,.string o.k] 126 (0,0))):=D_ (by rw [<-b_];exact U0 w2 _);have hs3:w3.heap.size=w2.heap.size+1:=by rw [<-b_];simp
   have g_:=D_ (B0 J HX.out);have I:=D_ (B0 J HRB.out);have f_:=D_ (B0 J HQB.out);have hs2:=V.size;have hXl:=(Array.getElem?_eq_some_iff.1 HX.out).1;obtain⟨rr3,_⟩:=Y0 I.out;clear b_ V HBO a0 a1 a2 a3 b0 b1 b2 b3 rr0 J;obtain⟨q0,_⟩:=HS0.out _ u.out;have hsl:=HSL.out;have hl1:(1:Int)<=(L:Int):=by omega
   have hl2:(L:Int)<=(cap:Int):=by omega
   go_wp2_with fail;refine(HAL.out _ u.out).mono ?_;rintro e w4 ⟨rfl,l⟩;have hs4:=l.size;have u:=D_ (u.out.trans (l.mono u.out.size));have g_:=D_ (B0 l g_.out);have I:=D_ (B0 l I.out);have f_:=D_ (B0 l f_.out);have T:=D_ (B0 l T.out);obtain⟨rr3,_⟩:=Y0 I.out;obtain⟨oo0,oo1,_⟩:=E0 T.out;clear l q0 hsl HSL HAL;go_wp2_with fail;refine(HPS.out _ (HH.out _ u.out)).mono ?_;rintro e w5 ⟨rfl,hm5,G⟩;have HG5:=D_ ((RGo.of_below (r:=r) (v:=v) u.out (N_ k_)).trans G);have i_:=w_.out X (by omega);have h_:=w_.out w2.heap.size t_.out.size;have HQ5:=D_ (G.at f_.out q.1 q.2);have HX5:=D_ (G.at g_.out i_.1 i_.2);have HR5:=D_ (G.at I.out z.1 z.2);have x_:=D_ (G.at T.out h_.1 h_.2);have HM5:=D_ hm5;have HM5d:=D_ (hm5.below (F_ _ w5).drew);have hs5:=G.below.size;clear hm5 G rr3 oo0 oo1 u g_ I f_ T HNB HOP HPS HH;go_wp2_with fail;refine wp_region_held_drew (S:=(fun W=>W.cell? ⟨X,1,none⟩=some (.string xt)/\W.cell? ⟨w.heap.size,0,none⟩=some (.pointer (some ⟨r,0,none⟩))/\W.cell? ⟨w2.heap.size,0,none⟩=some (.int .i64 o.p)/\W.cell? ⟨w2.heap.size,1,none⟩=some (.string o.k))) (by kernel_rfl) ⟨(A0 HX5.out).2.1,(Y0 HR5.out).1,(E0 x_.out).1,(E0 x_.out).2.1⟩ (fun m_=>?_);refine tK 0 (v:=?v67) rfl (.inl ⟨by rfl,?y67⟩) ?r67
   case y67=>(intro w a;(try dsimp only at a);go_simp;try with_reducible rfl)
   (try simp only [Act.put,T_,C_,E_])
   refine tK 1 (v:=?v68) rfl (.inl ⟨by rfl,?y68⟩) ?r68
   case y68=>(intro w a;(try dsimp only at a);go_simp;try with_reducible rfl)
   (try simp only [Act.put,T_,C_,E_])
   refine tK 2 (v:=?v69) rfl (.inl ⟨by rfl,?y69⟩) ?r69
   case y69=>(intro w a;(try dsimp only at a);go_simp;try with_reducible rfl)
   (try simp only [Act.put,T_,C_,E_])
   refine tK 3 (v:=?v70) rfl (.inl ⟨by rfl,?y70⟩) ?r70
   case y70=>(intro w a;(try dsimp only at a);go_simp;try with_reducible rfl)
   (try simp only [Act.put,T_,C_,E_])
   refine tK 8 (v:=?v71) rfl (.inl ⟨by rfl,?y71⟩) ?r71
   case y71=>(intro w a;(try dsimp only at a);go_simp;try with_reducible rfl)
   (try simp only [Act.put,T_,C_,E_])
   refine tK 9 (v:=?v72) rfl (.inl ⟨by rfl,?y72⟩) ?r72
   case y72=>(intro w a;(try dsimp only at a);go_simp;try with_reducible rfl)
   (try simp only [Act.put,T_,C_,E_])
   refine rY 4 rfl fun K d=>?_;go_simp
   (with_reducible refine(HRT.out _).mono ?_);rintro e w6 ⟨rfl,hb6⟩
   have C:=D_ ((F_ w5.heap.size w5).drew.trans hb6);have HX6:=D_ (B0 C.out HX5.out);have HR6:=D_ (B0 C.out HR5.out);have y_:=D_ (B0 C.out x_.out);have HQ6:=D_ (B0 C.out HQ5.out);have hs56:=C.out.size;have HM6:=D_ (HM5.out.below C.out);have v_:=D_ (HG5.out.trans (RGo.of_below (r:=r) (v:=v) C.out (N_ HM5.out.lt)));clear hb6;try go_wp2_with fail
   refine d.out _ _ ⟨(A0 HX6.out).2.1,(Y0 HR6.out).1,(E0 y_.out).1,(E0 y_.out).2.1⟩ (fun n_=>?_);clear d K m_;(try simp only [Act.put,T_,C_,E_])
   cases E with
   |bad o1=>
    refine rY 5 rfl fun K d=>?_;go_simp
    (with_reducible refine(HC.out _ HM6.out).mono ?_);rintro e w7 ⟨rfl,hc7⟩
    exact⟨rfl,rfl,v_.out.below.trans hc7⟩
   |ok t ts1 ns1=>
    refine rY 5 rfl fun K d=>?_;go_simp
    (with_reducible refine(HC.out _ HM6.out).mono ?_);rintro e w7 ⟨v7,ad,cap7,rfl,hm7,y,ht7⟩
    have hs6:=v_.out.below.size;have HX7:=D_ (y.at HX6.out i_.1 i_.2);have z_:=D_ (y.at HR6.out z.1 z.2);have U:=D_ (y.at y_.out h_.1 h_.2);have HQ7:=D_ (y.at HQ6.out q.1 q.2);have hv7:=y.ne (b:=w.heap.size+1) (Array.getElem?_eq_some_iff.1 HQ6.out).1 q.2;have HM7:=D_ hm7;have HG7:=D_ (v_.out.trans y);have HA7:=D_ (args1 y.below.size hm7.ltv ht7);clear hm7 y ht7;unfold tmv;try go_wp2_with fail
    refine d.out _ _ ⟨(A0 HX7.out).2.1,(Y0 z_.out).1,(E0 U.out).1,(E0 U.out).2.1⟩ (fun o_=>?_);clear d K n_;(try simp only [Act.put,T_,C_,E_])
    refine rY 6 rfl fun K d=>?_;go_simp
    try go_wp2_with fail
    refine d.out _ _ ⟨(A0 (N0 HX7.out _)).2.1,(Y0 (N0 z_.out _)).1,(E0 (N0 U.out _)).1,(E0 (N0 U.out _)).2.1⟩ (fun p_=>?_);clear d K o_;(try simp only [Act.put,T_,C_,E_])
    have hq8:=N0 HQ7.out (.cells #[.int .i64 t.kind,.string t.name,.int .i64 t.n,.slice ad t.args.length cap7] 26);have HM8:=D_ (HM7.out.below ((F_ _ w7).alloc (R_ _) (.cells #[.int .i64 t.kind,.string t.name,.int .i64 t.n,.slice ad t.args.length cap7] 26)));have HG8:=D_ (HG7.out.alloc k_ (.cells #[.int .i64 t.kind,.string t.name,.int .i64 t.n,.slice ad t.args.length cap7] 26));have HQ8:=D_ hq8;clear hq8;refine rY 7 rfl fun K d=>?_;go_simp
    (with_reducible refine(J8 _ _ _ _ _).mono ?_);rintro e w9 ⟨rfl,x⟩
    have HX9:=D_ (B0 x (N0 HX7.out _));have HR9:=D_ (B0 x (N0 z_.out _));have e_:=D_ (B0 x (N0 U.out _));have HQ9:=D_ (B0 x HQ8.out);have HM9:=D_ (HM8.out.below x);have HG9:=D_ (HG8.out.trans (RGo.of_below x (by have:=HM8.out.lt;omega)));have HA9:=D_ (M0.kept HA7.out (fun b _ j=>x.block b j) (fun _ hp _=>hp));obtain⟨d0,d1,d2,d3,e0,e1,e2,e3⟩:=A0 HQ9.out;clear x;try go_wp2_with fail
    refine d.out _ _ ⟨(A0 HX9.out).2.1,(Y0 HR9.out).1,(E0 e_.out).1,(E0 e_.out).2.1⟩ (fun q_=>?_);clear d K p_;(try simp only [Act.put,T_,C_,E_])
    have hql:=(Array.getElem?_eq_some_iff.1 HQB.out).1;have hq1:X≠w.heap.size+1:=by omega
    have hq2:w.heap.size≠w.heap.size+1:=by omega
    have hq3:w2.heap.size≠w.heap.size+1:=by omega
    refine rY 10 rfl fun K d=>?_;go_simp
    try go_wp2_with fail
    refine d.out _ _ ⟨(D3 hq1 _ _ _ _).trans (A0 HX9.out).2.1,(D3 hq2 _ _ _ _).trans (Y0 HR9.out).1,(D3 hq3 _ _ _ _).trans (E0 e_.out).1,(D3 hq3 _ _ _ _).trans (E0 e_.out).2.1⟩ (fun r_=>?_);clear d K q_;(try simp only [Act.put,T_,C_,E_])
    refine rY 11 rfl fun K d=>?_;go_simp
    try go_wp2_with fail
    refine d.out _ _ (by assumption) (fun hHeld78=>?_);clear d K r_;(try simp only [Act.put,T_,C_,E_])
    refine wpAnyH_done (by kernel_rfl) ?_ _;try go_wp2_with fail
    refine B_ (v:=.tuple #[.agg #[.int .i64 4,.string xt,.int .i64 0,.slice (some ⟨w7.heap.size,0,none⟩) 1 1],.int .i64 o.p]) (by simp [results,Tryz.results144,go_sem,d0,d1,d2,d3]) rfl ⟨v7,some ⟨w7.heap.size,0,none⟩,1,by rw [<-HTV.out t],?_⟩;exact ROk.fin (B:=w.heap.size+2) HM9.out HG9.out (TmB.mono (HCB.out _ _ _ _ _ HA9.out) (by omega)) k_ (Nat.le_succ _) (by omega) hv7 _ _ _ _
theorem rd_named {m:Nat} {W:Rdr} (t:R2 W m) (q:I5 m W) (c:m<=10000) (p:Int) (ts:List Tok) (ns:Nms) (w:World) (r:Nat) (v:Value) (i:ts.length<=m+1) (d:T0 ts) (g:(j0 ts).isAtom=true) (s:ns.length<=200) (h:A1 w r v ts ns):
 Calls Tryz.prog 144 #[.pointer (some ⟨r,0,none⟩),.int .i64 p] w fun e w'=>B8 r v w (Q5 W p ts ns) e w':=by
 unfold Q5;by_cases b:(j0 ts.tail).kind=7
 · rw [J_ b];exact UQ t q c p ts ns w r v i d g s h b
 rw [I_ b];by_cases a:(j0 ts).kind=3/\(j0 ts).text= [45]/\(j0 ts.tail).kind=5/\(j0 ts.tail).pos=(j0 ts).pos+1
 · rw [J_ a];exact vZ c p ts ns w r v i d g h a.1 a.2.1 a.2.2.1 a.2.2.2
 rw [I_ a];cases k:opR (j0 ts).text 2 with
 |none=>exact hQ c p ts ns w r v i d g h b a k
 |some o=>
  dsimp only;by_cases j:I3 (j0 ts.tail) (j0 ts.tail.tail)=true
  · rw [J_ j];exact iQ c p ts ns w r v i d g h b a k j
  rw [I_ j];have n:I3 (j0 ts.tail) (j0 ts.tail.tail)=false:=by simpa using j
  by_cases l:p<o.p
  · rw [J_ l];exact uZ c p ts ns w r v i d g h b a k n l
  · rw [I_ l];exact RJ q c p ts ns w r v i d g s h b a k n l
end Go.Proofs.YtinefdlkajnomaaGreatDoor
namespace Go.Proofs.YtinefdlkajnomaaGreatDoor
open Go.RowKit
set_option maxHeartbeats 20000000
set_option linter.unusedSimpArgs false
set_option maxRecDepth 100000 in
theorem SQ (p:Int) (ts:List Tok) (ns:Nms) (E:Rd (Tm×Int)) (w:World) (r:Nat) (v:Value) (R:T0 ts) (h:A1 w r v ts ns) (M: ∀W',Below w.heap.size w W'->Calls Tryz.prog 144 #[.pointer (some ⟨r,0,none⟩),.int .i64 p] W' fun e w'=>B8 r v W' E e w') (N:(j0 ts).isAtom=true):
 Calls Tryz.prog 117 #[.pointer (some ⟨r,0,none⟩),.int .i64 p] w fun e w'=>B8 r v w (E) e w':=by
 have l:=h.lt;have V:=D_ (fun W' (A:Below w.heap.size w W')=>h.below A);have a:=h.new_ne (b:=w.heap.size) (R_ _);have W:=D_ (fun b (A:w.heap.size<=b)=>h.new_ne A);have B:=D_ (fun W' T=>E4 W' r v ts ns T R.pos);have y:=D_ (fun W'=>B7 (j0 ts) W');have z:=D_ (fun o:Obj=>(F_ w.heap.size w).alloc (R_ _) o);rw [N]at y;clear N;clear R;unfold Y1 at B y;generalize j0 ts=t0 at*;obtain⟨xk,xl,xn,xp⟩:=t0;dsimp only at*;generalize (⟨xl.toArray⟩:ByteArray)=xt at*;go_enter Tryz.func117,Tryz.ntmps117;go_wp2_with fail;refine(B.out _ (V.out _ (z.out _))).mono ?_;rintro e w2 ⟨rfl,k⟩;have j:=D_ ((z.out _).trans (k.mono (z.out (.cells #[.int .i64 0,.string ⟨#[]⟩,.int .i64 0,.slice none 0 0] 26)).size));have F:=D_ (B0 k (U0 w (.cells #[.int .i64 0,.string ⟨#[]⟩,.int .i64 0,.slice none 0 0] 26)));have X:=j.out.size;clear k;go_upto_region 2 with fail;generalize i:w2.alloc (.cells #[.int .i64 xk,.string xt,.int .i64 xn,.int .i64 (xp:Nat)] 96)=w3;have m:Hid (Below w.heap.size w w3):=D_ (by rw [<-i];exact j.out.alloc j.out.size _);have q:Hid (w3.heap[w2.heap.size]?=some (.cells #[.int .i64 xk,.string xt,.int .i64 xn,.int .i64 (xp:Nat)] 96 (0,0))):=D_ (by rw [<-i];exact U0 w2 _);have G:Hid (w3.heap[w.heap.size]?=some (.cells #[.int .i64 0,.string ⟨#[]⟩,.int .i64 0,.slice none 0 0] 26 (0,0))):=D_ (by rw [<-i];exact N0 F.out _);obtain⟨a0,a1,a2,a3,_⟩:=A0 q.out;clear i;go_wp2_with fail;refine(y.out _).mono ?_;rintro e w4 ⟨rfl,d⟩;have c:=D_ (m.out.trans (d.mono m.out.size));have J:=D_ (B0 d q.out);have n:=D_ (B0 d G.out);obtain⟨a0,a1,a2,a3,_⟩:=A0 J.out;clear d;cases E with
 |bad o=>
  go_wp2_with (omega);refine(M _ c.out).mono ?_;rintro e w5 ⟨rfl,O⟩;exact⟨rfl,rfl,(c.out.mono (N_ l)).trans O⟩
 |ok t ts1 ns1=>
  obtain⟨t,pri⟩:=t;go_wp2_with (omega);refine(M _ c.out).mono ?_;rintro e w5 ⟨v5,ad,cap,rfl,s,g,x⟩;have H:=D_ (g.at n.out a.1 a.2);have u:=(Array.getElem?_eq_some_iff.1 n.out).1;have U:=g.ne (b:=w.heap.size) u a.2;obtain⟨d0,d1,d2,d3,e0,e1,e2,e3⟩:=A0 H.out;have D:=D_ s;have C:=D_ ((RGo.of_below (r:=r) (v:=v) c.out (N_ l)).trans g);have I:=D_ x;clear s g x;unfold tmv;go_wp2_with fail;refine B_ (v:=.tuple #[tmv t ad cap,.int .i64 pri]) (by simp [results,Tryz.results117,go_sem,d0,d1,d2,d3,tmv]) rfl ⟨v5,ad,cap,rfl,?_⟩;exact ROk.fin D.out C.out I.out l (R_ _) u U _ _ _ _
set_option maxRecDepth 100000 in
theorem qZ (p:Int) (ts:List Tok) (ns:Nms) (E:Rd Tm) (w:World) (r:Nat) (v:Value) (T:T0 ts) (h:A1 w r v ts ns) (N: ∀W',Below w.heap.size w W'->Calls Tryz.prog 145 #[.pointer (some ⟨r,0,none⟩)] W' fun e w'=>Rq r v W' E e w') (O:(j0 ts).isAtom=false) (M:(j0 ts).kind=4):
 Calls Tryz.prog 117 #[.pointer (some ⟨r,0,none⟩),.int .i64 p] w fun e w'=>B8 r v w (Yx E) e w':=by
 have l:=h.lt;have W:=D_ (fun W' (A:Below w.heap.size w W')=>h.below A);have c:=h.new_ne (b:=w.heap.size) (R_ _);have X:=D_ (fun b (A:w.heap.size<=b)=>h.new_ne A);have B:=D_ (fun W' U=>E4 W' r v ts ns U T.pos);have y:=D_ (fun W'=>B7 (j0 ts) W');have z:=D_ (fun o:Obj=>(F_ w.heap.size w).alloc (R_ _) o);rw [O]at y;clear O;have a:((j0 ts).kind==4)=true:=by rw [M];rfl
 clear M;clear T;unfold Y1 at B y;generalize j0 ts=t0 at*;obtain⟨xk,xl,xn,xp⟩:=t0;dsimp only at*;generalize (⟨xl.toArray⟩:ByteArray)=xt at*;go_enter Tryz.func117,Tryz.ntmps117;go_wp2_with fail;refine(B.out _ (W.out _ (z.out _))).mono ?_;rintro e w2 ⟨rfl,k⟩;have j:=D_ ((z.out _).trans (k.mono (z.out (.cells #[.int .i64 0,.string ⟨#[]⟩,.int .i64 0,.slice none 0 0] 26)).size));have F:=D_ (B0 k (U0 w (.cells #[.int .i64 0,.string ⟨#[]⟩,.int .i64 0,.slice none 0 0] 26)));have Y:=j.out.size;clear k;go_upto_region 2 with fail;generalize i:w2.alloc (.cells #[.int .i64 xk,.string xt,.int .i64 xn,.int .i64 (xp:Nat)] 96)=w3;have m:Hid (Below w.heap.size w w3):=D_ (by rw [<-i];exact j.out.alloc j.out.size _);have q:Hid (w3.heap[w2.heap.size]?=some (.cells #[.int .i64 xk,.string xt,.int .i64 xn,.int .i64 (xp:Nat)] 96 (0,0))):=D_ (by rw [<-i];exact U0 w2 _);have G:Hid (w3.heap[w.heap.size]?=some (.cells #[.int .i64 0,.string ⟨#[]⟩,.int .i64 0,.slice none 0 0] 26 (0,0))):=D_ (by rw [<-i];exact N0 F.out _);obtain⟨a0,a1,a2,a3,_⟩:=A0 q.out;clear i;go_wp2_with fail;refine(y.out _).mono ?_;rintro e w4 ⟨rfl,a⟩;have d:=D_ (m.out.trans (a.mono m.out.size));have J:=D_ (B0 a q.out);have n:=D_ (B0 a G.out);obtain⟨a0,a1,a2,a3,_⟩:=A0 J.out;clear a;cases E with
 |bad o=>
  go_wp2_with (omega);refine(N _ d.out).mono ?_;rintro e w5 ⟨rfl,R⟩;exact⟨rfl,rfl,(d.out.mono (N_ l)).trans R⟩
 |ok t ts1 ns1=>
  go_wp2_with (omega);refine(N _ d.out).mono ?_;rintro e w5 ⟨v5,ad,cap,rfl,s,g,x⟩;have H:=D_ (g.at n.out c.1 c.2);have u:=(Array.getElem?_eq_some_iff.1 n.out).1;have V:=g.ne (b:=w.heap.size) u c.2;obtain⟨d0,d1,d2,d3,e0,e1,e2,e3⟩:=A0 H.out;have D:=D_ s;have C:=D_ ((RGo.of_below (r:=r) (v:=v) d.out (N_ l)).trans g);have I:=D_ x;clear s g x;unfold tmv;go_wp2_with fail;refine B_ (v:=.tuple #[tmv t ad cap,.int .i64 0]) (by simp [results,Tryz.results117,go_sem,d0,d1,d2,d3,tmv]) rfl ⟨v5,ad,cap,rfl,?_⟩;exact ROk.fin D.out C.out I.out l (R_ _) u V _ _ _ _
set_option maxRecDepth 100000 in
theorem oZ (p:Int) (ts:List Tok) (ns:Nms) (E:Rd Tm) (w:World) (r:Nat) (v:Value) (W:T0 ts) (h:A1 w r v ts ns) (C: ∀W',Below w.heap.size w W'->Calls Tryz.prog 146 #[.pointer (some ⟨r,0,none⟩)] W' fun e w'=>Rq r v W' E e w') (U:(j0 ts).isAtom=false) (R:(j0 ts).kind≠4) (T:(j0 ts).kind=6\/(j0 ts).kind=7):
 Calls Tryz.prog 117 #[.pointer (some ⟨r,0,none⟩),.int .i64 p] w fun e w'=>B8 r v w (Yx E) e w':=by
 have g:=h.lt;have Y:=D_ (fun W' (I:Below w.heap.size w W')=>h.below I);have c:=h.new_ne (b:=w.heap.size) (R_ _);have Z:=D_ (fun b (I:w.heap.size<=b)=>h.new_ne I);have J:=D_ (fun W' X=>E4 W' r v ts ns X W.pos);have G:=D_ (fun W'=>B7 (j0 ts) W');have H:=D_ (fun o:Obj=>(F_ w.heap.size w).alloc (R_ _) o);rw [U]at G;clear U;have i:((j0 ts).kind==4)=false:=by simpa using R
 clear R;clear W;unfold Y1 at J G;generalize j0 ts=t0 at*;obtain⟨xk,xl,xn,xp⟩:=t0;dsimp only at*;generalize (⟨xl.toArray⟩:ByteArray)=xt at*;go_enter Tryz.func117,Tryz.ntmps117;go_wp2_with fail;refine(J.out _ (Y.out _ (H.out _))).mono ?_;rintro e w2 ⟨rfl,z⟩;have q:=D_ ((H.out _).trans (z.mono (H.out (.cells #[.int .i64 0,.string ⟨#[]⟩,.int .i64 0,.slice none 0 0] 26)).size));have M:=D_ (B0 z (U0 w (.cells #[.int .i64 0,.string ⟨#[]⟩,.int .i64 0,.slice none 0 0] 26)));have b_:=q.out.size;clear z;go_upto_region 2 with fail;generalize n:w2.alloc (.cells #[.int .i64 xk,.string xt,.int .i64 xn,.int .i64 (xp:Nat)] 96)=w3;have D:Hid (Below w.heap.size w w3):=D_ (by rw [<-n];exact q.out.alloc q.out.size _);have F:Hid (w3.heap[w2.heap.size]?=some (.cells #[.int .i64 xk,.string xt,.int .i64 xn,.int .i64 (xp:Nat)] 96 (0,0))):=D_ (by rw [<-n];exact U0 w2 _);have N:Hid (w3.heap[w.heap.size]?=some (.cells #[.int .i64 0,.string ⟨#[]⟩,.int .i64 0,.slice none 0 0] 26 (0,0))):=D_ (by rw [<-n];exact N0 M.out _);obtain⟨a0,a1,a2,a3,_⟩:=A0 F.out;clear n;go_wp2_with fail;refine(G.out _).mono ?_;rintro e w4 ⟨rfl,i⟩;have d:=D_ (D.out.trans (i.mono D.out.size));have O:=D_ (B0 i F.out);have m:=D_ (B0 i N.out);obtain⟨a0,a1,a2,a3,_⟩:=A0 O.out;clear i;rcases T with h6|h7
 · have V:(xk==6)=true:=by rw [h6];rfl
   clear h6;cases E with
   |bad o=>
    go_wp2_with (omega);refine(C _ d.out).mono ?_;rintro e w5 ⟨rfl,A⟩;exact⟨rfl,rfl,(d.out.mono (N_ g)).trans A⟩
   |ok t ts1 ns1=>
    go_wp2_with (omega);refine(C _ d.out).mono ?_;rintro e w5 ⟨v5,ad,cap,rfl,j,a,l⟩;have x:=D_ (a.at m.out c.1 c.2);have k:=(Array.getElem?_eq_some_iff.1 m.out).1;have B:=a.ne (b:=w.heap.size) k c.2;obtain⟨d0,d1,d2,d3,e0,e1,e2,e3⟩:=A0 x.out;have u:=D_ j;have s:=D_ ((RGo.of_below (r:=r) (v:=v) d.out (N_ g)).trans a);have y:=D_ l;clear j a l;unfold tmv;go_wp2_with fail;refine B_ (v:=.tuple #[tmv t ad cap,.int .i64 0]) (by simp [results,Tryz.results117,go_sem,d0,d1,d2,d3,tmv]) rfl ⟨v5,ad,cap,rfl,?_⟩;exact ROk.fin u.out s.out y.out g (R_ _) k B _ _ _ _
 · have V:(xk==6)=false:=by rw [h7];rfl
   have a_:(xk==7)=true:=by rw [h7];rfl
   clear h7;cases E with
   |bad o=>
    go_wp2_with (omega);refine(C _ d.out).mono ?_;rintro e w5 ⟨rfl,A⟩;exact⟨rfl,rfl,(d.out.mono (N_ g)).trans A⟩
   |ok t ts1 ns1=>
    go_wp2_with (omega);refine(C _ d.out).mono ?_;rintro e w5 ⟨v5,ad,cap,rfl,j,a,l⟩;have x:=D_ (a.at m.out c.1 c.2);have k:=(Array.getElem?_eq_some_iff.1 m.out).1;have B:=a.ne (b:=w.heap.size) k c.2;obtain⟨d0,d1,d2,d3,e0,e1,e2,e3⟩:=A0 x.out;have u:=D_ j;have s:=D_ ((RGo.of_below (r:=r) (v:=v) d.out (N_ g)).trans a);have y:=D_ l;clear j a l;unfold tmv;go_wp2_with fail;refine B_ (v:=.tuple #[tmv t ad cap,.int .i64 0]) (by simp [results,Tryz.results117,go_sem,d0,d1,d2,d3,tmv]) rfl ⟨v5,ad,cap,rfl,?_⟩;exact ROk.fin u.out s.out y.out g (R_ _) k B _ _ _ _
set_option maxRecDepth 100000 in
theorem pZ (p:Int) (ts:List Tok) (ns:Nms) (w:World) (r:Nat) (v:Value) (m:T0 ts) (h:A1 w r v ts ns) (ha:(j0 ts).isAtom=false) (Y:(j0 ts).kind≠4) (Z:(j0 ts).kind≠6) (h7:(j0 ts).kind≠7) (G:(j0 ts).kind=5) (h0:0<=(j0 ts).n):
 Calls Tryz.prog 117 #[.pointer (some ⟨r,0,none⟩),.int .i64 p] w fun e w'=>B8 r v w (.ok (fx (j0 ts).n,0) ts.tail ns) e w':=by
 have A:=h.lt;have O:=D_ (fun W' (H:Below w.heap.size w W')=>h.below H);have d:=h.new_ne (b:=w.heap.size) (R_ _);have F:=D_ (fun b (H:w.heap.size<=b)=>h.new_ne H);have J:=D_ (fun W' l=>E4 W' r v ts ns l m.pos);have D:=D_ (fun W'=>B7 (j0 ts) W');have E:=D_ (fun o:Obj=>(F_ w.heap.size w).alloc (R_ _) o);have T:=D_ (fun W' l=>R5 W' r v ts ns l (m.two (by rw [G];decide)));have I:=m.first.n;rw [ha]at D;clear ha;have a:((j0 ts).kind==4)=false:=by simpa using Y
 have c:((j0 ts).kind==6)=false:=by simpa using Z
 have c_:((j0 ts).kind==7)=false:=by simpa using h7
 clear Y Z h7;have b_:((j0 ts).kind==5)=true:=by rw [G];rfl
 clear G;clear m;unfold Y1 at J D;generalize j0 ts=t0 at*;obtain⟨xk,xl,xn,xp⟩:=t0;dsimp only at*;generalize (⟨xl.toArray⟩:ByteArray)=xt at*;go_enter Tryz.func117,Tryz.ntmps117;go_wp2_with fail;refine(J.out _ (O.out _ (E.out _))).mono ?_;rintro e w2 ⟨rfl,k⟩;have j:=D_ ((E.out _).trans (k.mono (E.out (.cells #[.int .i64 0,.string ⟨#[]⟩,.int .i64 0,.slice none 0 0] 26)).size));have U:=D_ (B0 k (U0 w (.cells #[.int .i64 0,.string ⟨#[]⟩,.int .i64 0,.slice none 0 0] 26)));have a_:=j.out.size;clear k;go_upto_region 2 with fail;generalize i:w2.alloc (.cells #[.int .i64 xk,.string xt,.int .i64 xn,.int .i64 (xp:Nat)] 96)=w3;have q:Hid (Below w.heap.size w w3):=D_ (by rw [<-i];exact j.out.alloc j.out.size _);have x:Hid (w3.heap[w2.heap.size]?=some (.cells #[.int .i64 xk,.string xt,.int .i64 xn,.int .i64 (xp:Nat)] 96 (0,0))):=D_ (by rw [<-i];exact U0 w2 _);have V:Hid (w3.heap[w.heap.size]?=some (.cells #[.int .i64 0,.string ⟨#[]⟩,.int .i64 0,.slice none 0 0] 26 (0,0))):=D_ (by rw [<-i];exact N0 U.out _);obtain⟨a0,a1,a2,a3,_⟩:=A0 x.out;clear i;go_wp2_with fail;refine(D.out _).mono ?_;rintro e w4 ⟨rfl,a⟩;have s:=D_ (q.out.trans (a.mono q.out.size));have y:=D_ (B0 a x.out);have u:=D_ (B0 a V.out);obtain⟨a0,a1,a2,a3,_⟩:=A0 y.out;clear a;go_wp2_with fail;refine(T.out _ (O.out _ s.out)).mono ?_;rintro e w5 ⟨rfl,C,g⟩;have z:=F.out w2.heap.size a_;obtain⟨a0,a1,a2,a3,_⟩:=A0 (g.at y.out z.1 z.2);have W:=D_ (g.at u.out d.1 d.2);have t:=D_ C;have M:=D_ ((RGo.of_below (r:=r) (v:=v) s.out (N_ A)).trans g);clear C g;go_wp2_with fail;refine(gQ _ _).mono ?_;rintro e w6 ⟨rfl,c⟩;have N:=D_ (M.out.trans (RGo.of_below (r:=r) (v:=v) c (N_ t.out.lt)));have X:=D_ (B0 c W.out);have R:=D_ (t.out.below c);have d_:=(Array.getElem?_eq_some_iff.1 u.out).1;obtain⟨d0,d1,d2,d3,e0,e1,e2,e3⟩:=A0 X.out;clear c;go_wp2_with fail;refine B_ (v:=.tuple #[.agg #[.int .i64 3,.string ⟨#[]⟩,.int .i64 xn,.slice none 0 0],.int .i64 0]) (by simp [results,Tryz.results117,go_sem,d0,d1,d2,d3]) rfl ⟨v,none,0,rfl,?_⟩;exact ROk.fin (B:=w.heap.size+1) R.out N.out (u6q _ _ _ (D1 (by decide) (by decide)) I (Nat.zero_le _)) A (R_ _) (by omega) d.2 _ _ _ _
set_option maxRecDepth 100000 in
theorem nZ (p:Int) (ts:List Tok) (ns:Nms) (w:World) (r:Nat) (v:Value) (A:T0 ts) (h:A1 w r v ts ns) (J:(j0 ts).isAtom=false) (G:(j0 ts).kind≠4) (H:(j0 ts).kind≠6) (I:(j0 ts).kind≠7) (y: ¬((j0 ts).kind=5/\0<=(j0 ts).n)):
 Calls Tryz.prog 117 #[.pointer (some ⟨r,0,none⟩),.int .i64 p] w fun e w'=>B8 r v w (.bad (j0 ts).pos) e w':=by
 have g:=h.lt;have x:=D_ (fun W' (z:Below w.heap.size w W')=>h.below z);have N:=h.new_ne (b:=w.heap.size) (R_ _);have M:=D_ (fun b (z:w.heap.size<=b)=>h.new_ne z);have B:=D_ (fun W' l=>E4 W' r v ts ns l A.pos);have t:=D_ (fun W'=>B7 (j0 ts) W');have u:=D_ (fun o:Obj=>(F_ w.heap.size w).alloc (R_ _) o);have q:=D_ (fun W' l=>C7 W' r v ts ns l A.pos);rw [J]at t;clear J;have c:((j0 ts).kind==4)=false:=by simpa using G
 have R:((j0 ts).kind==6)=false:=by simpa using H
 have T:((j0 ts).kind==7)=false:=by simpa using I
 clear G H I;clear A;unfold Y1 at B t;generalize j0 ts=t0 at*;obtain⟨xk,xl,xn,xp⟩:=t0;dsimp only at*;generalize (⟨xl.toArray⟩:ByteArray)=xt at*;go_enter Tryz.func117,Tryz.ntmps117;go_wp2_with fail;refine(B.out _ (x.out _ (u.out _))).mono ?_;rintro e w2 ⟨rfl,k⟩;have j:=D_ ((u.out _).trans (k.mono (u.out (.cells #[.int .i64 0,.string ⟨#[]⟩,.int .i64 0,.slice none 0 0] 26)).size));have C:=D_ (B0 k (U0 w (.cells #[.int .i64 0,.string ⟨#[]⟩,.int .i64 0,.slice none 0 0] 26)));have U:=j.out.size;clear k;go_upto_region 2 with fail;generalize i:w2.alloc (.cells #[.int .i64 xk,.string xt,.int .i64 xn,.int .i64 (xp:Nat)] 96)=w3;have m:Hid (Below w.heap.size w w3):=D_ (by rw [<-i];exact j.out.alloc j.out.size _);have s:Hid (w3.heap[w2.heap.size]?=some (.cells #[.int .i64 xk,.string xt,.int .i64 xn,.int .i64 (xp:Nat)] 96 (0,0))):=D_ (by rw [<-i];exact U0 w2 _);have D:Hid (w3.heap[w.heap.size]?=some (.cells #[.int .i64 0,.string ⟨#[]⟩,.int .i64 0,.slice none 0 0] 26 (0,0))):=D_ (by rw [<-i];exact N0 C.out _);obtain⟨a0,a1,a2,a3,_⟩:=A0 s.out;clear i;go_wp2_with fail;refine(t.out _).mono ?_;rintro e w4 ⟨rfl,c⟩;have a:=D_ (m.out.trans (c.mono m.out.size));have E:=D_ (B0 c s.out);have O:=D_ (B0 c D.out);obtain⟨a0,a1,a2,a3,_⟩:=A0 E.out;clear c;by_cases c5:xk=5
 · have F: ¬0<=xn:=fun F=>y ⟨c5,F⟩;have d:(xk==5)=true:=by rw [c5];rfl
   clear y c5;go_wp2_with fail;refine(q.out _ (x.out _ a.out)).mono ?_;rintro e w5 ⟨rfl,d⟩;exact⟨rfl,rfl,(a.out.mono (N_ g)).trans (d.mono (Nat.le_trans (N_ g) a.out.size))⟩
 · have d:(xk==5)=false:=by simpa using c5
   clear y c5;go_wp2_with fail;refine(q.out _ (x.out _ a.out)).mono ?_;rintro e w5 ⟨rfl,d⟩;exact⟨rfl,rfl,(a.out.mono (N_ g)).trans (d.mono (Nat.le_trans (N_ g) a.out.size))⟩
theorem rZ {m:Nat} {W:Rdr} (x:R2 W m) (t:I5 m W) (u:m<=10000) (p:Int) (ts:List Tok) (ns:Nms) (w:World) (r:Nat) (v:Value) (y:ts.length<=m+1) (b:T0 ts) (q:ns.length<=200) (h:A1 w r v ts ns):
 Calls Tryz.prog 117 #[.pointer (some ⟨r,0,none⟩),.int .i64 p] w fun e w'=>B8 r v w (P2 W p ts ns) e w':=by
 unfold P2;have o:=fun W' (g:Below w.heap.size w W')=>h.below g;by_cases l:(j0 ts).isAtom=true
 · rw [J_ l];exact SQ p ts ns _ w r v b h (fun W' g=>(rd_named x t u p ts ns W' r v y b l q (o W' g))) l
 rw [I_ l];have i:(j0 ts).isAtom=false:=by simpa using l
 by_cases d:(j0 ts).kind=4
 · rw [J_ d];exact qZ p ts ns _ w r v b h (fun W' g=>(SJ W' r v ts ns (o W' g) b (by rw [d];decide) q)) i d
 rw [I_ d];by_cases a:(j0 ts).kind=6\/(j0 ts).kind=7
 · rw [J_ a];exact oZ p ts ns _ w r v b h (fun W' g=>(sZ x t u ts ns W' r v y b (by rcases a with k|k<;>rw [k]<;>decide) q (o W' g))) i d a
 rw [I_ a];have k:(j0 ts).kind≠6:=fun c=>a (.inl c);have s:(j0 ts).kind≠7:=fun c=>a (.inr c);by_cases j:(j0 ts).kind=5/\0<=(j0 ts).n
 · rw [J_ j];exact pZ p ts ns w r v b h i d k s j.1 j.2
 · rw [I_ j];exact nZ p ts ns w r v b h i d k s j
end Go.Proofs.YtinefdlkajnomaaGreatDoor
namespace Go.Proofs.YtinefdlkajnomaaGreatDoor
open Go.RowKit
set_option maxHeartbeats 20000000
set_option linter.unusedSimpArgs false
structure T7 (B T:Nat) (w:World) (v:Value) (t:Tm) (ad:Option Addr) (cap:Nat):Prop where
 cells:w.heap[T]?=some (.cells #[.int .i64 t.kind,.string t.name,.int .i64 t.n,.slice ad t.args.length cap] 26 (0,0))
 tm:TmP w (fun b=>B<=b/\some b≠v.ownBlock/\b≠T) t ad cap
 own:some T≠v.ownBlock
theorem T7.go {B T r:Nat} {w w':World} {v v':Value} {t:Tm} {ad:Option Addr} {cap:Nat} (h:T7 B T w v t ad cap) (i:r<B) (g:T≠r) (c:RGo r v w v' w'):T7 B T w' v' t ad cap:=
 ⟨c.at h.cells g h.own,TmP.kept h.tm (fun b a d=>c.keep b d (by omega) a.2.1) (fun _ a d=>⟨a.1,c.ne d a.2.1,a.2.2⟩),c.ne (Array.getElem?_eq_some_iff.1 h.cells).1 h.own⟩
theorem T7.below {B T:Nat} {w w':World} {v:Value} {t:Tm} {ad:Option Addr} {cap:Nat} (h:T7 B T w v t ad cap) (a:Below w.heap.size w w'):T7 B T w' v t ad cap:=
 ⟨B0 a h.cells,TmP.kept h.tm (fun b _ c=>a.block b c) (fun _ d _=>d),h.own⟩
theorem bJ {w:World} {P:Nat->Prop} {s:List UInt8} {l:List Tm} {ad:Option Addr} {cap:Nat} (b:s.length<=10000) (a:l.length<=cap) (hc:cap<=maxLen) (h:M0 w P ad l):TmP w P (X0 s l) ad cap:=
 ⟨D1 (x:=4) (by decide) (by decide),D1 (x:=0) (by decide) (by decide),by show(⟨s.toArray⟩:ByteArray).size<=maxLen;rw [show(⟨s.toArray⟩:ByteArray).size=s.length from by show s.toArray.size=_;simp];unfold maxLen;omega,a,hc,h⟩
theorem Yq {w:World} {P:Nat->Prop} {t u:Tm} {ad ad2:Option Addr} {cap cap2:Nat} (l:P w.heap.size) (m:TmP w P t ad cap) (n:TmP w P u ad2 cap2):
 M0 (w.alloc (.cells (D0 t ad cap++D0 u ad2 cap2).toArray 26)) P (some ⟨w.heap.size,0,none⟩) [t,u]:=by
 have g: ∀ {x:Tm} {a:Option Addr} {c:Nat},TmP w P x a c->TmP (w.alloc (.cells (D0 t ad cap++D0 u ad2 cap2).toArray 26)) P x a c:=fun h=>TmP.kept h (fun b _ k=>A_ _ _ _ k) (fun _ d _=>d);have i:H4 (w.alloc (.cells (D0 t ad cap++D0 u ad2 cap2).toArray 26)) P (D0 t ad cap++(D0 u ad2 cap2++ [])) [t,u]:=.cons t ad cap _ _ (g m) (.cons u ad2 cap2 _ _ (g n) .nil);refine i.args w.heap.size l (fun _ d=>d) 0 (fun j o=>?_);rw [Nat.zero_add,List.append_nil];exact(World.cell?_alloc_at _ _ _ _ rfl).trans (by rw [List.getElem?_toArray])
theorem T7.next {B T r:Nat} {w0 w:World} {v0 v:Value} {tk:List Tok} {nk:Nms} {s:List UInt8} {t u:Tm} {ad:Option Addr} {a b c d:Value} {x:ByteArray} (C:A1 w r v tk nk) (A:RGo r v0 w0 v w) (k:r<T) (h:w0.heap.size<=T) (g:some T≠v.ownBlock)
 (z:w.heap[T]?=some (.cells #[a,b,c,d] 26 (0,0))) (hc:TmP w (fun b=>B<=b/\some b≠v.ownBlock/\b≠T) (X0 s [t,u]) ad 2) (hx:(X0 s [t,u]).name=x):
 A1 ((((w.setCell ⟨T,0,none⟩ (.int .i64 4)).setCell ⟨T,1,none⟩ (.string x)).setCell ⟨T,2,none⟩ (.int .i64 0)).setCell ⟨T,3,none⟩ (.slice ad 2 2)) r v tk nk/\
 RGo r v0 w0 v ((((w.setCell ⟨T,0,none⟩ (.int .i64 4)).setCell ⟨T,1,none⟩ (.string x)).setCell ⟨T,2,none⟩ (.int .i64 0)).setCell ⟨T,3,none⟩ (.slice ad 2 2))/\
 T7 B T ((((w.setCell ⟨T,0,none⟩ (.int .i64 4)).setCell ⟨T,1,none⟩ (.string x)).setCell ⟨T,2,none⟩ (.int .i64 0)).setCell ⟨T,3,none⟩ (.slice ad 2 2)) v (X0 s [t,u]) ad 2/\
 ∀q,q≠T->((((w.setCell ⟨T,0,none⟩ (.int .i64 4)).setCell ⟨T,1,none⟩ (.string x)).setCell ⟨T,2,none⟩ (.int .i64 0)).setCell ⟨T,3,none⟩ (.slice ad 2 2)).heap[q]?=w.heap[q]?:=by
 subst hx;have m: ∀q,q≠T->((((w.setCell ⟨T,0,none⟩ (.int .i64 4)).setCell ⟨T,1,none⟩ (.string (X0 s [t,u]).name)).setCell ⟨T,2,none⟩ (.int .i64 0)).setCell ⟨T,3,none⟩ (.slice ad 2 2)).heap[q]?=w.heap[q]?:=fun q j=>by
  rw [S_ _ _ _ _ (show q≠T from j),S_ _ _ _ _ (show q≠T from j),S_ _ _ _ _ (show q≠T from j),S_ _ _ _ _ (show q≠T from j)]
 refine⟨(((C.setOther k g _).setOther k g _).setOther k g _).setOther k g _,(((A.set h (by omega) _).set h (by omega) _).set h (by omega) _).set h (by omega) _,⟨?_,TmP.kept hc (fun b l _=>m b l.2.2) (fun _ l _=>l),g⟩,m⟩;have n:=H_ (i:=0) z (.int .i64 4);have o:=H_ (i:=1) n (.string (X0 s [t,u]).name);have p:=H_ (i:=2) o (.int .i64 0);have y:=H_ (i:=3) p (.slice ad 2 2);rw [y];rfl
end Go.Proofs.YtinefdlkajnomaaGreatDoor
