import Derived.Test.YtinefdlkajnomaaGreatDoorMTokRU
import Derived.Test.YtinefdlkajnomaaGreatDoorMTokNumR
namespace Go.Proofs.YtinefdlkajnomaaGreatDoor
open Go.RowKit
set_option maxHeartbeats 20000000
theorem P8:O6 [3]=J3:=by
 funext c
 unfold O6 J3;rw [Bool.eq_iff_iff];simp
theorem lz (w:World) (t:TypeId) (k:Int):Ks (w.alloc (.cells #[.int .i64 k] t)) w.heap.size [k]:=by
 intro i h;have:i=0:=by simp at h;omega
 subst this;exact World.cell?_alloc_at _ _ _ _ rfl
theorem KQ {r:List UInt8} {c n:Nat} (h:Lib.decodeGo ⟨r.toArray⟩=(c,n)) (b:n=0):c=65533:=by
 by_cases a:r= []
 · subst a;rw [Gx _ rfl]at h;injection h with h1 h2;exact h1.symm
 · have d:0<r.length:=List.length_pos_iff.2 a;rw [F8 _ (by rw [Lq];omega)]at h;have:=Lib.decodeL_width r;have e:Lib.decodeL r=(c,n):=h;rw [e]at this;simp at this;omega
theorem rest_ways (u:ByteArray):(u.data.toList.take 2= [39,39]/\ ∃h:1<u.size,((u[0].toNat:Int)==39)=true/\((u[1].toNat:Int)==39)=true)\/
 (¬u.data.toList.take 2= [39,39]/\(u.size<=1\/ ∃h:1<u.size,((u[0].toNat:Int)==39)=false\/(((u[0].toNat:Int)==39)=true/\((u[1].toNat:Int)==39)=false))):=by
 by_cases c:1<u.size
 · have e0:=Q0 u 0 (by omega);have e1:=Q0 u 1 c;rw [List.drop_zero]at e0;have b:((u[0].toNat:Int)==39)=decide (u[0]=39):=E1 u[0] 39;have g:((u[1].toNat:Int)==39)=decide (u[1]=39):=E1 u[1] 39;have e2:u.data.toList.take 2= [u[0],u[1]]:=by rw [e0,List.take_succ_cons,e1,List.take_succ_cons,List.take_zero]
   rw [e2];by_cases a:u[0]=39
   · by_cases d:u[1]=39
     · exact .inl ⟨by rw [a,d],c,b.trans (decide_eq_true a),g.trans (decide_eq_true d)⟩
     · exact .inr ⟨by intro e;injection e with _ e;injection e with e _;exact d e,.inr ⟨c,.inr ⟨b.trans (decide_eq_true a),g.trans (decide_eq_false d)⟩⟩⟩
   · exact .inr ⟨by intro e;injection e with e _;exact a e,.inr ⟨c,.inl (b.trans (decide_eq_false a))⟩⟩
 · refine .inr ⟨fun e=>?_,.inl (by omega)⟩;have:=congrArg List.length e;rw [List.length_take,C0]at this;simp at this;omega
def p6 (l:List UInt8) (p:Nat) (e:Ending):Prop:= ∃(n:Int) (en:Nat) (ok:Bool),e=.returned (.tuple #[.agg #[.int .i64 5,.string ⟨#[]⟩,.int .i64 n,.int .i64 (p:Nat)],.int .i64 (en:Nat),.bool ok])/\
 ok=decide ((C2 l).w≠0)/\(ok=true->C2 l=⟨5,[],n,en-p⟩/\p<=en)
theorem A6 {s:ByteArray} {p:Nat} {v x:Int} {z:Nat} (c:O0 J3 (s.data.toList.drop p)=z) (d:z≠0) (a:(B1 (s.data.toList.drop p)).2=0)
 (b:B5 (45::(s.data.toList.drop p).take z)=v) (hx:X5 (45::(s.data.toList.drop p).take z)=x):
 p6 (s.data.toList.drop p) p (.returned (.tuple #[.agg #[.int .i64 5,.string ⟨#[]⟩,.int .i64 (wrap64 (-v)),.int .i64 (p:Nat)],.int .i64 (p+z:Nat),.bool (x==0)])):=by
 refine⟨_,_,_,rfl,?_,?_⟩
 · unfold C2;rw [a,I_ (by omega),c,hx,b];by_cases h:x=0
   · rw [J_ h,h];symm
     exact decide_eq_true d
   · rw [I_ h,beq_eq_false_iff_ne.2 h];rfl
 · intro h;have g:x=0:=by simpa using h
   refine⟨?_,by omega⟩;unfold C2;rw [a,I_ (by omega),c,hx,b,J_ g,Nat.add_sub_cancel_left]
theorem t6 (s:ByteArray) (p z:Nat):(⟨#[45]⟩++s.extract p (p+z):ByteArray).data.toList=45::(s.data.toList.drop p).take z:=by
 rw [Lib.extract_eq,ByteArray.data_append,Nat.add_sub_cancel_left];simp
set_option maxRecDepth 100000 in
theorem num_not48 (s:ByteArray) (p:Nat) (w:World) (I:s.size<=200000) (H:p<s.size) (C:J3 (s[p].toNat:Int)=true) (i:s[p]≠48):
 Calls Tryz.prog 98 #[.string s,.int .i64 (p:Nat)] w fun e w'=>p6 (s.data.toList.drop p) p e/\Below w.heap.size w w':=by
 have k:=Q0 s p H;obtain⟨z,n⟩: ∃z,O0 J3 (s.data.toList.drop p)=z:=⟨_,rfl⟩;have D:z≠0:=by rw [<-n,k];exact Nat.pos_iff_ne_zero.1 (Y2 _ _ _ C)
 have E:=F1 J3 (s.data.toList.drop p);rw [n,List.length_drop,C0]at E;have y:=D_ (fun (W:World) (g:Nat) (h:Ks W g [3])=>by
  have:=R4 s p [3] g W I (by omega) h (by decide) (by decide);rw [P8,n]at this;exact this)
 have d:(⟨#[45]⟩++s.extract p (p+z):ByteArray).size<=maxLen:=by
  rw [ByteArray.size_append,ByteArray.size_extract];show 1+_<=maxLen
  unfold maxLen;omega
 have a:=fun W=>j4 (⟨#[45]⟩++s.extract p (p+z)) W d;rw [t6]at a;obtain⟨v,A⟩: ∃v,B5 (45::(s.data.toList.drop p).take z)=v:=⟨_,rfl⟩;obtain⟨x,hx⟩: ∃x,X5 (45::(s.data.toList.drop p).take z)=x:=⟨_,rfl⟩;rw [A,hx]at a;have l:=D_ a;have F:=D_ (fun o o2:Obj=>((F_ w.heap.size w).alloc (R_ _) o).alloc (by simp) o2);have m:=D_ (fun h=>A6 n D h A hx);have N:(0:Int)<=(p:Int):=by omega
 have O:(p:Int)<(s.size:Int):=by omega
 have R:(p:Int)<=(p:Int)+(z:Int):=by omega
 have T:(p:Int)+(z:Int)<=(s.size:Int):=by omega
 clear a A hx C d;have G:((s[p].toNat:Int)==48)=false:=(E1 s[p] 48).trans (decide_eq_false i);have u:=D_ (m.out (by
  unfold B1;rw [k,I_]
  · intro e;cases h:s.data.toList.drop (p+1)with
    |nil=>rw [h]at e;simp at e
    |cons b t=>rw [h,List.take_succ_cons]at e;injection e with e _;exact i e))
 clear k i;go_enter Tryz.func98,Tryz.ntmps98;go_wp2_with fail;generalize c:((w.alloc (.cells #[.int .i64 0,.string ⟨#[]⟩,.int .i64 0,.int .i64 0] 96)).alloc (.cells #[.int .i64 5,.string ⟨#[]⟩,.int .i64 0,.int .i64 (p:Nat)] 96))=W0;have kz4:W0.heap[w.heap.size]?=some (.cells #[.int .i64 0,.string ⟨#[]⟩,.int .i64 0,.int .i64 0] 96):=by rw [<-c];exact j1 (S0 w _) _
 have kz7:W0.heap[w.heap.size+1]?=some (.cells #[.int .i64 5,.string ⟨#[]⟩,.int .i64 0,.int .i64 (p:Nat)] 96):=by rw [<-c,<-Z_ w (.cells #[.int .i64 0,.string ⟨#[]⟩,.int .i64 0,.int .i64 0] 96)];exact S0 _ _
 have j:Below w.heap.size w W0:=by rw [<-c];exact F.out _ _
 have d:W0.heap.size=w.heap.size+1+1:=by rw [<-c];simp
 rw [<-d];refine(y.out _ _ (lz W0 3 3)).mono ?_;rintro e w8 ⟨rfl,rfl⟩;have q:=j1 kz4 (.cells #[.int .i64 3] 3);have r:=j1 kz7 (.cells #[.int .i64 3] 3);have B:=j.alloc (by have:=j.size;omega) (.cells #[.int .i64 3] 3);generalize W0.alloc (.cells #[.int .i64 3] 3)=w8 at*;obtain⟨c0,c1,c2,c3,f0,f1,f2,f3⟩:=P0 q;obtain⟨d0,d1,d2,d3,g0,g1,g2,g3⟩:=P0 r;have J:w.heap.size+1<w8.heap.size:=L_ _ _ d0;have M:w.heap.size<w8.heap.size:=by omega
 clear q r kz4 kz7 j;go_wp2_with fail;refine(l.out _).mono ?_;rintro e w9 ⟨rfl,rfl⟩;go_wp2_with fail;refine B_ (v:=.tuple #[.agg #[.int .i64 5,.string ⟨#[]⟩,.int .i64 (wrap64 (-v)),.int .i64 (p:Nat)],.int .i64 (p+z:Nat),.bool (x==0)]) (by simp [results,Tryz.results98,go_sem,c0,c1,c2,c3]) rfl ⟨u.out,?_⟩;exact F0 (B.setCell (p:=⟨w.heap.size+1,2,none⟩) (show w.heap.size<=w.heap.size+1 by omega) _) (R_ _) _ _ _ _
set_option maxRecDepth 100000 in
theorem num_short (s:ByteArray) (p:Nat) (w:World) (H:s.size<=200000) (G:p<s.size) (A:J3 (s[p].toNat:Int)=true) (m:s[p]=48) (E:s.size<=p+1):
 Calls Tryz.prog 98 #[.string s,.int .i64 (p:Nat)] w fun e w'=>p6 (s.data.toList.drop p) p e/\Below w.heap.size w w':=by
 have i:=Q0 s p G;obtain⟨z,l⟩: ∃z,O0 J3 (s.data.toList.drop p)=z:=⟨_,rfl⟩;have B:z≠0:=by rw [<-l,i];exact Nat.pos_iff_ne_zero.1 (Y2 _ _ _ A)
 have C:=F1 J3 (s.data.toList.drop p);rw [l,List.length_drop,C0]at C;have t:=D_ (fun (W:World) (g:Nat) (h:Ks W g [3])=>by
  have:=R4 s p [3] g W H (by omega) h (by decide) (by decide);rw [P8,l]at this;exact this)
 have c:(⟨#[45]⟩++s.extract p (p+z):ByteArray).size<=maxLen:=by
  rw [ByteArray.size_append,ByteArray.size_extract];show 1+_<=maxLen
  unfold maxLen;omega
 have a:=fun W=>j4 (⟨#[45]⟩++s.extract p (p+z)) W c;rw [t6]at a;obtain⟨v,u⟩: ∃v,B5 (45::(s.data.toList.drop p).take z)=v:=⟨_,rfl⟩;obtain⟨x,hx⟩: ∃x,X5 (45::(s.data.toList.drop p).take z)=x:=⟨_,rfl⟩;rw [u,hx]at a;have j:=D_ a;have D:=D_ (fun o o2:Obj=>((F_ w.heap.size w).alloc (R_ _) o).alloc (by simp) o2);have k:=D_ (fun h=>A6 l B h u hx);have M:(0:Int)<=(p:Int):=by omega
 have N:(p:Int)<(s.size:Int):=by omega
 have O:(p:Int)<=(p:Int)+(z:Int):=by omega
 have R:(p:Int)+(z:Int)<=(s.size:Int):=by omega
 clear a u hx A c;have F:((s[p].toNat:Int)==48)=true:=(E1 s[p] 48).trans (decide_eq_true m);have T:(s.size:Int)<=(p:Int)+1:=by omega
 have r:=D_ (k.out (by
  unfold B1;rw [i,List.drop_eq_nil_of_le (show _<=p+1 by rw [C0];exact E),I_ (by simp)]))
 clear i m;go_enter Tryz.func98,Tryz.ntmps98;go_wp2_with fail;generalize b:((w.alloc (.cells #[.int .i64 0,.string ⟨#[]⟩,.int .i64 0,.int .i64 0] 96)).alloc (.cells #[.int .i64 5,.string ⟨#[]⟩,.int .i64 0,.int .i64 (p:Nat)] 96))=W0;have kz4:W0.heap[w.heap.size]?=some (.cells #[.int .i64 0,.string ⟨#[]⟩,.int .i64 0,.int .i64 0] 96):=by rw [<-b];exact j1 (S0 w _) _
 have kz7:W0.heap[w.heap.size+1]?=some (.cells #[.int .i64 5,.string ⟨#[]⟩,.int .i64 0,.int .i64 (p:Nat)] 96):=by rw [<-b,<-Z_ w (.cells #[.int .i64 0,.string ⟨#[]⟩,.int .i64 0,.int .i64 0] 96)];exact S0 _ _
 have d:Below w.heap.size w W0:=by rw [<-b];exact D.out _ _
 have c:W0.heap.size=w.heap.size+1+1:=by rw [<-b];simp
 rw [<-c];refine(t.out _ _ (lz W0 3 3)).mono ?_;rintro e w8 ⟨rfl,rfl⟩;have n:=j1 kz4 (.cells #[.int .i64 3] 3);have q:=j1 kz7 (.cells #[.int .i64 3] 3);have y:=d.alloc (by have:=d.size;omega) (.cells #[.int .i64 3] 3);generalize W0.alloc (.cells #[.int .i64 3] 3)=w8 at*;obtain⟨c0,c1,c2,c3,f0,f1,f2,f3⟩:=P0 n;obtain⟨d0,d1,d2,d3,g0,g1,g2,g3⟩:=P0 q;have I:w.heap.size+1<w8.heap.size:=L_ _ _ d0;have J:w.heap.size<w8.heap.size:=by omega
 clear n q kz4 kz7 d;go_wp2_with fail;refine(j.out _).mono ?_;rintro e w9 ⟨rfl,rfl⟩;go_wp2_with fail;refine B_ (v:=.tuple #[.agg #[.int .i64 5,.string ⟨#[]⟩,.int .i64 (wrap64 (-v)),.int .i64 (p:Nat)],.int .i64 (p+z:Nat),.bool (x==0)]) (by simp [results,Tryz.results98,go_sem,c0,c1,c2,c3]) rfl ⟨r.out,?_⟩;exact F0 (y.setCell (p:=⟨w.heap.size+1,2,none⟩) (show w.heap.size<=w.heap.size+1 by omega) _) (R_ _) _ _ _ _
set_option maxRecDepth 100000 in
theorem num_not39 (s:ByteArray) (p:Nat) (w:World) (J:s.size<=200000) (I:p<s.size) (B:J3 (s[p].toNat:Int)=true) (n:s[p]=48) (F:p+1<s.size) (d:s[p+1]≠39):
 Calls Tryz.prog 98 #[.string s,.int .i64 (p:Nat)] w fun e w'=>p6 (s.data.toList.drop p) p e/\Below w.heap.size w w':=by
 have j:=Q0 s p I;obtain⟨z,m⟩: ∃z,O0 J3 (s.data.toList.drop p)=z:=⟨_,rfl⟩;have C:z≠0:=by rw [<-m,j];exact Nat.pos_iff_ne_zero.1 (Y2 _ _ _ B)
 have D:=F1 J3 (s.data.toList.drop p);rw [m,List.length_drop,C0]at D;have u:=D_ (fun (W:World) (g:Nat) (h:Ks W g [3])=>by
  have:=R4 s p [3] g W J (by omega) h (by decide) (by decide);rw [P8,m]at this;exact this)
 have c:(⟨#[45]⟩++s.extract p (p+z):ByteArray).size<=maxLen:=by
  rw [ByteArray.size_append,ByteArray.size_extract];show 1+_<=maxLen
  unfold maxLen;omega
 have a:=fun W=>j4 (⟨#[45]⟩++s.extract p (p+z)) W c;rw [t6]at a;obtain⟨v,y⟩: ∃v,B5 (45::(s.data.toList.drop p).take z)=v:=⟨_,rfl⟩;obtain⟨x,hx⟩: ∃x,X5 (45::(s.data.toList.drop p).take z)=x:=⟨_,rfl⟩;rw [y,hx]at a;have k:=D_ a;have E:=D_ (fun o o2:Obj=>((F_ w.heap.size w).alloc (R_ _) o).alloc (by simp) o2);have l:=D_ (fun h=>A6 m C h y hx);have O:(0:Int)<=(p:Int):=by omega
 have R:(p:Int)<(s.size:Int):=by omega
 have T:(p:Int)<=(p:Int)+(z:Int):=by omega
 have U:(p:Int)+(z:Int)<=(s.size:Int):=by omega
 clear a y hx B c;have H:((s[p].toNat:Int)==48)=true:=(E1 s[p] 48).trans (decide_eq_true n);have G:((s[p+1].toNat:Int)==39)=false:=(E1 s[p+1] 39).trans (decide_eq_false d);have V:(p:Int)+1<(s.size:Int):=by omega
 have t:=D_ (l.out (by
  unfold B1;rw [j,Q0 s (p+1) F,I_];intro e;rw [List.take_succ_cons,List.take_succ_cons]at e;injection e with _ e;injection e with e _;exact d e))
 clear j n d;go_enter Tryz.func98,Tryz.ntmps98;go_wp2_with fail;generalize b:((w.alloc (.cells #[.int .i64 0,.string ⟨#[]⟩,.int .i64 0,.int .i64 0] 96)).alloc (.cells #[.int .i64 5,.string ⟨#[]⟩,.int .i64 0,.int .i64 (p:Nat)] 96))=W0;have kz4:W0.heap[w.heap.size]?=some (.cells #[.int .i64 0,.string ⟨#[]⟩,.int .i64 0,.int .i64 0] 96):=by rw [<-b];exact j1 (S0 w _) _
 have kz7:W0.heap[w.heap.size+1]?=some (.cells #[.int .i64 5,.string ⟨#[]⟩,.int .i64 0,.int .i64 (p:Nat)] 96):=by rw [<-b,<-Z_ w (.cells #[.int .i64 0,.string ⟨#[]⟩,.int .i64 0,.int .i64 0] 96)];exact S0 _ _
 have i:Below w.heap.size w W0:=by rw [<-b];exact E.out _ _
 have c:W0.heap.size=w.heap.size+1+1:=by rw [<-b];simp
 rw [<-c];refine(u.out _ _ (lz W0 3 3)).mono ?_;rintro e w8 ⟨rfl,rfl⟩;have q:=j1 kz4 (.cells #[.int .i64 3] 3);have r:=j1 kz7 (.cells #[.int .i64 3] 3);have A:=i.alloc (by have:=i.size;omega) (.cells #[.int .i64 3] 3);generalize W0.alloc (.cells #[.int .i64 3] 3)=w8 at*;obtain⟨c0,c1,c2,c3,f0,f1,f2,f3⟩:=P0 q;obtain⟨d0,d1,d2,d3,g0,g1,g2,g3⟩:=P0 r;have M:w.heap.size+1<w8.heap.size:=L_ _ _ d0;have N:w.heap.size<w8.heap.size:=by omega
 clear q r kz4 kz7 i;go_wp2_with fail;refine(k.out _).mono ?_;rintro e w9 ⟨rfl,rfl⟩;go_wp2_with fail;refine B_ (v:=.tuple #[.agg #[.int .i64 5,.string ⟨#[]⟩,.int .i64 (wrap64 (-v)),.int .i64 (p:Nat)],.int .i64 (p+z:Nat),.bool (x==0)]) (by simp [results,Tryz.results98,go_sem,c0,c1,c2,c3]) rfl ⟨t.out,?_⟩;exact F0 (A.setCell (p:=⟨w.heap.size+1,2,none⟩) (show w.heap.size<=w.heap.size+1 by omega) _) (R_ _) _ _ _ _
set_option maxRecDepth 100000 in
theorem num_quote (s:ByteArray) (p:Nat) (w:World) (H:s.size<=200000) (G:p<s.size) (u:J3 (s[p].toNat:Int)=true) (c:s[p]=48) (D:p+1<s.size) (b:s[p+1]=39) (r:(s.data.toList.drop (p+2)).take 2= [39,39]) (I:1<(s.extract (p+2) s.size).size) (e0:(((s.extract (p+2) s.size)[0].toNat:Int)==39)=true) (e1:(((s.extract (p+2) s.size)[1].toNat:Int)==39)=true):
 Calls Tryz.prog 98 #[.string s,.int .i64 (p:Nat)] w fun e w'=>p6 (s.data.toList.drop p) p e/\Below w.heap.size w w':=by
 have d:=Q0 s p G;obtain⟨z,l⟩: ∃z,O0 J3 (s.data.toList.drop p)=z:=⟨_,rfl⟩;have A:z≠0:=by rw [<-l,d];exact Nat.pos_iff_ne_zero.1 (Y2 _ _ _ u)
 have B:=F1 J3 (s.data.toList.drop p);rw [l,List.length_drop,C0]at B;have q:=D_ (fun (W:World) (g:Nat) (h:Ks W g [3])=>by
  have:=R4 s p [3] g W H (by omega) h (by decide) (by decide);rw [P8,l]at this;exact this)
 have m:(⟨#[45]⟩++s.extract p (p+z):ByteArray).size<=maxLen:=by
  rw [ByteArray.size_append,ByteArray.size_extract];show 1+_<=maxLen
  unfold maxLen;omega
 have a:=fun W=>j4 (⟨#[45]⟩++s.extract p (p+z)) W m;rw [t6]at a;obtain⟨v,t⟩: ∃v,B5 (45::(s.data.toList.drop p).take z)=v:=⟨_,rfl⟩;obtain⟨x,hx⟩: ∃x,X5 (45::(s.data.toList.drop p).take z)=x:=⟨_,rfl⟩;rw [t,hx]at a;have j:=D_ a;have C:=D_ (fun o o2:Obj=>((F_ w.heap.size w).alloc (R_ _) o).alloc (by simp) o2);have k:=D_ (fun h=>A6 l A h t hx);have J:(0:Int)<=(p:Int):=by omega
 have M:(p:Int)<(s.size:Int):=by omega
 have N:(p:Int)<=(p:Int)+(z:Int):=by omega
 have O:(p:Int)+(z:Int)<=(s.size:Int):=by omega
 clear a t hx u m;have F:((s[p].toNat:Int)==48)=true:=(E1 s[p] 48).trans (decide_eq_true c);have E:((s[p+1].toNat:Int)==39)=true:=(E1 s[p+1] 39).trans (decide_eq_true b);have R:(p:Int)+1<(s.size:Int):=by omega
 have i:B1 (s.data.toList.drop p)=T4 (s.data.toList.drop (p+2)):=by
  unfold B1;rw [d,Q0 s (p+1) D,c,b,J_ (by rfl)];rfl
 have n:Hid (p6 (s.data.toList.drop p) p (.returned (.tuple #[.agg #[.int .i64 5,.string ⟨#[]⟩,.int .i64 39,.int .i64 (p:Nat)],.int .i64 (p+4:Nat),.bool true]))):=D_ (by
  refine⟨39,p+4,true,rfl,?_,fun _=>⟨?_,by omega⟩⟩
  · unfold C2;rw [i];unfold T4;rw [J_ r];rfl
  · unfold C2;rw [i];unfold T4;rw [J_ r,Nat.add_sub_cancel_left];rfl)
 have y:=I;rw [ByteArray.size_extract]at y;have U:(1:Int)<((s.size-(p+2):Nat):Int):=by omega
 have T:(p:Int)+2<=(s.size:Int):=by omega
 clear d c b i r k j q;go_enter Tryz.func98,Tryz.ntmps98;go_wp2_with fail;refine B_ (v:=.tuple #[.agg #[.int .i64 5,.string ⟨#[]⟩,.int .i64 39,.int .i64 (p:Nat)],.int .i64 (p+4:Nat),.bool true]) (by simp [results,Tryz.results98,go_sem]) rfl ⟨n.out,C.out _ _⟩
end Go.Proofs.YtinefdlkajnomaaGreatDoor
